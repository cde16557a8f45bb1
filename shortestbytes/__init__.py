"""Documents of bytes with one shortest form."""
