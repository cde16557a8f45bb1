import PyProof.Rows.All
import Wide.All
import OpenK.AllK
import Wide.FinOn
import PyProof.EqAt
import PyProof.EqKinds
import PyProof.TupleCall
import PyProof.ReprRoads
import HandS.Base
import HandS.Call
import HandS.List
import HandS.Comp
import HandS.Ends
import HandS.Iter
import HandS.Words
import HandS.WordsList
import HandS.Wide
import HandS.WideBits
import HandS.IsInst
import HandS.Walk
import HandS.Defaults
import KE.KExcIs
import HandS.Exc
import HandS.ExcOwn
import HandS.ExcInit
import HandS.ExcField
import HandS.TryOnly
import HandS.WordsExc
import PySem.Challenge.RW_shortestbytes_k04_numbers_refused
set_option Elab.async false
set_option linter.all false
set_option maxRecDepth 100000
set_option maxHeartbeats 2000000
namespace Sb
open PySem PySem.Spec PyProof.Rows L2

/-! ### promises of defs that are called while nothing is being shown by repr -/
def Clr (A : Around) : Prop := A.guards = some []

structure Told (P : Program) (w : World) (K : PySem.W.Frag) (mg : Str → Option Value) (base : Heap) (CX : CXT) (k : Nat) (f : Addr) (fd : FuncData) (ps : List Str) (sp : Sp) : Prop where
  arity : ∀ {vs H Q E}, sp vs H Q E → vs.length = ps.length
  go : ∀ {A : Around} {outer : List Env} {s : Shared} {H : Hp} {args : Args} {us : List Value} {vs : List V} {Q : VK} {E : XK}, Clr A → Room k A → Env0 P w K mg base A outer s H →
    BindsTo s fd args (ps.zip us) → Vals vs us → sp vs H Q E → codeAny (model P w) A (.call (.ref f) args) (CR CX outer P w H s Q E) s

section
variable {P : Program} {w : World} {K : PySem.W.Frag} {mg : Str → Option Value} {base : Heap} {CX : CXT} {k : Nat} {f : Addr} {fd : FuncData} {ps : List Str} {sp : Sp}
theorem told_of (F : FnOk P w K mg base CX k f fd ps sp) : Told P w K mg base CX k f fd ps sp :=
  ⟨fun h => F.len _ _ _ _ h, fun _ hr e hb hv hs => F.run _ _ _ _ _ _ _ _ _ hr e hb hv hs⟩

theorem told_core {x qual : Str} {st : Stmt} {N : List Str} {oc dV kV doc pm cdv ct : Value} {od an : Option Addr} {osl : Array (Option Value)}
    (lk : K.lookup f = some ⟨oc, od, .func (PySem.W.fnOf x qual (defArgs st) (defBody st) (defScope st) dV kV doc pm an cdv ct), osl⟩) (code : PySem.W.codeIn K cdv qual = true) (S : FnScope N ps (defScope st)) (ar : ∀ vs H Q E, sp vs H Q E → vs.length = ps.length)
    (body : ∀ (cdv : Value) (A : Around) (outer : List Env) (s : Shared) (H : Hp) (vs : List V) (Q : VK) (E : XK), Clr (A.deeper (envOfC qual (defScope st) s.heap.objs.size f cdv)) →
      Room k (A.deeper (envOfC qual (defScope st) s.heap.objs.size f cdv)) → sp vs H Q E →
      ∃ t, PSs (cxOf CX P w K mg base N qual (defScope st) f cdv A outer s H E) (defBody st) t ∧ t { nx := fun _ H' => Q .non H', rt := Q } (start N vs) H) :
    Told P w K mg base CX (k + 1) f (PySem.W.fnOf x qual (defArgs st) (defBody st) (defScope st) dV kV doc pm an cdv ct) ps sp := by
  refine ⟨fun h => ar _ _ _ _ h, ?_⟩
  intro A outer s H args us vs Q E clr room e0 bind rv say
  have hin : K.In s.heap := e0.mod.kin.keeps (fun b o z => (e0.bs b o z).1)
  have nolim : s.heap.NoLimit := e0.mod.nolimit.keeps (fun b o z => (e0.bs b o z).1)
  have slotsOf : ∀ y ∈ ps.zip us, (defScope st).names.lookup y.1 = some .local ∨
      ((defScope st).names.lookup y.1 = some .cell ∧ ((cellsFrom (s.heap.objs.size + 1) (defScope st).names []).lookup y.1).isSome = true) := by
    intro y hy
    have hp : y.1 ∈ ps := (List.of_mem_zip (show (y.1, y.2) ∈ ps.zip us from hy)).1
    cases S.par y.1 hp with
    | inl q => exact .inl q
    | inr q => exact .inr ⟨q, PySem.W.cellsFrom_some _ _ _ (.inl q)⟩
  apply codeAny_call_function room.depth (hin _ _ lk) rfl S.co S.gen rfl (PySem.W.codeRec_of hin code)
  refine bind _ _ _ _ ?_
  apply wpAny_newFunctionEnv_cells S.kind slotsOf
  intro env he s1 call
  subst he
  refine ⟨nolim.keeps call.toInCall.keep, codeAny_func ?_⟩
  obtain ⟨t, run, want⟩ := body cdv A outer s H vs Q E clr (room.deeper _) say
  have inv : Inv (cxOf CX P w K mg base N qual (defScope st) f cdv A outer s H E) [] (start N vs) H s1 := inv_start S room.hd e0 (ar _ _ _ _ say) rv call
  refine wpAny_mono (run.run [] s1 _ H _ inv want) ?_ (fun _ _ h => h)
  intro fl s' h
  cases fl with
  | ret u => exact let ⟨v, _, H', J, r, q⟩ := h; ⟨v, H', J.os, J.bare, J.base, J.hok, r, q⟩
  | next => exact let ⟨_, H', J, q⟩ := h; ⟨V.non, H', J.os, J.bare, J.base, J.hok, rfl, q⟩
  | brk => exact let ⟨_, _, _, q⟩ := h; q.elim
  | cont => exact let ⟨_, _, _, q⟩ := h; q.elim

theorem toldX {x qual : Str} {st : Stmt} {N : List Str} (F : Fun K x qual st f fd) (S : FnScope N ps (defScope st)) (ar : ∀ vs H Q E, sp vs H Q E → vs.length = ps.length)
    (body : ∀ (cdv : Value) (A : Around) (outer : List Env) (s : Shared) (H : Hp) (vs : List V) (Q : VK) (E : XK), Clr (A.deeper (envOfC qual (defScope st) s.heap.objs.size f cdv)) →
      Room k (A.deeper (envOfC qual (defScope st) s.heap.objs.size f cdv)) → sp vs H Q E →
      ∃ t, PSs (cxOf CX P w K mg base N qual (defScope st) f cdv A outer s H E) (defBody st) t ∧ t { nx := fun _ H' => Q .non H', rt := Q } (start N vs) H) :
    Told P w K mg base CX (k + 1) f fd ps sp := by
  obtain ⟨oc, od, kV, doc, pm, an, cdv, ct, osl, rfl, lk, code⟩ := F.ex
  exact told_core lk code S ar body
/-- the same for a def with defaults -/
theorem toldD {x qual : Str} {st : Stmt} {N : List Str} {dvs : List V} {kws : List (Str × V)} (F : FunD K x qual (defArgs st) (defBody st) (defScope st) dvs kws f fd) (S : FnScope N ps (defScope st)) (ar : ∀ vs H Q E, sp vs H Q E → vs.length = ps.length)
    (body : ∀ (cdv : Value) (A : Around) (outer : List Env) (s : Shared) (H : Hp) (vs : List V) (Q : VK) (E : XK), Clr (A.deeper (envOfC qual (defScope st) s.heap.objs.size f cdv)) →
      Room k (A.deeper (envOfC qual (defScope st) s.heap.objs.size f cdv)) → sp vs H Q E →
      ∃ t, PSs (cxOf CX P w K mg base N qual (defScope st) f cdv A outer s H E) (defBody st) t ∧ t { nx := fun _ H' => Q .non H', rt := Q } (start N vs) H) :
    Told P w K mg base CX (k + 1) f fd ps sp := by
  obtain ⟨oc, od, dV, kV, doc, pm, an, cdv, ct, osl, rfl, lk, code, _, _⟩ := F.ex
  exact told_core lk code S ar body
end

section
variable {P : Program} {w : World} {K : PySem.W.Frag} {mg : Str → Option Value} {base : Heap} {CX : CXT} {k : Nat} {f : Addr} {fd : FuncData} {ps : List Str} {sp : Sp}
/-- the same for a def that lets no exception out -/
theorem told {x qual : Str} {st : Stmt} {N : List Str} (F : Fun K x qual st f fd) (S : FnScope N ps (defScope st)) (ar : ∀ vs H Q E, sp vs H Q E → vs.length = ps.length)
    (body : ∀ (cdv : Value) (A : Around) (outer : List Env) (s : Shared) (H : Hp) (vs : List V) (Q : VK) (E : XK), Clr (A.deeper (envOfC qual (defScope st) s.heap.objs.size f cdv)) →
      Room k (A.deeper (envOfC qual (defScope st) s.heap.objs.size f cdv)) → sp vs H Q E →
      ∃ t, PSs (cxOf CX0 P w K mg base N qual (defScope st) f cdv A outer s H E).nox (defBody st) t ∧ t { nx := fun _ H' => Q .non H', rt := Q } (start N vs) H) :
    Told P w K mg base CX0 (k + 1) f fd ps sp :=
  toldX F S ar fun cdv A outer s H vs Q E clr room say => let ⟨t, run, want⟩ := body cdv A outer s H vs Q E clr room say; ⟨t, run.nox, want⟩
end

section
variable {X : Cx} {CX : CXT} {k : Nat} {f : Addr} {fd : FuncData} {ps : List Str} {sp : Sp} {dvs : List V} {ds : List Value} {E : XK} {x : Str} {p pos : Pos} {e : Expr} {es : List Expr} {t : TA}
/-- a call of such a def -/
theorem pe_told (T : Told X.prog X.w X.K X.mg X.base CX k f fd ps sp) (clr : Clr X.A) (room : Room k X.A) (hg : Gl X x) (hm : X.mg x = some (.ref f)) (hk : PySem.W.keepIn X.K (.ref f) = true)
    (hb : Binds X.K fd ps ds) (hd : Vals dvs ds) (pass : Passes CX X E) (ha : PA X (e :: es) t) (hdb : (x == ("__debug__" : Str)) = false := by decide)
    (he : starEach (e :: es) X.env = (false, eval e X.env) :: starEach es X.env := by rfl) (hpl : (backTo pos (starEach es X.env)).any (·.1) = false := by rfl) :
    PE X (.Call (.Name x p) (e :: es) [] pos) (tCall sp dvs E t) := by
  constructor
  intro pins s σ H Q I want
  apply wpAny_Call_Name_kw
  refine ld_glob I hg hm ?_ hdb
  apply PySem.W.callWith_K (h₀ := X.base) I.ok.mod.kin hk ?_ he hpl
  refine thn (ha.run pos pins s σ H _ I want) ?_
  intro us s1 got
  obtain ⟨vs, H1, I1, r, say⟩ := got
  refine ⟨I1.kIn, wpAny_call ?_⟩
  have rr := r.append hd
  have many : (us ++ ds).length = ps.length := rr.length.symm.trans (T.arity say)
  refine codeAny_mono (T.go clr room I1.env0 (hb s1 us I1.kIn many) rr say) ?_
  intro res s2 h
  match res, h with
  | .error er, h => exact pass pins σ H1 s1 er s2 I1 h
  | .ok (.ret u), h => exact I1.after h
  | .ok .next, h => exact h.elim
  | .ok .brk, h => exact h.elim
  | .ok .cont, h => exact h.elim
end

/-! ### repr of data -/
def rReprD (K : PySem.W.Frag) : List V → Hp → VK → Prop := fun xs H Q => ∃ (v : V) (d : PyData), xs = [v] ∧ Dp K H v d ∧ d.showable = true ∧ d.hasDict = false ∧ d.depth ≤ 60 ∧ d.shown.length ≤ sizeLine ∧ Q (.str d.shown) H

section
variable {X : Cx}
theorem call_reprD (clr : Clr X.A) (hu : X.A.units + 64 < cLine) : CallR X (.builtin "repr") (rReprD X.K) := by
  intro pins s σ H xs us Q I r h
  obtain ⟨v, d, rfl, hd, hs, hn, hz, hl, q⟩ := h
  obtain ⟨u, rfl, rv⟩ := vals1 r
  obtain ⟨as, rd⟩ := Dp.reads I d v u hd rv
  have byRef : ∀ a : Addr, u = .ref a → wpAny (model X.prog X.w) X.A (call (.builtin "repr") [u]) (EP X pins σ Q) X.xe s := by
    intro a e
    subst e
    refine repr_of_reads' rd hs (PyData.noDict_hsm hn) clr ?_ (fun _ _ z => z) (fun h' t tk keep => ⟨.str _, H, I.kept keep, ⟨t, rfl⟩, q⟩) hl
    omega
  cases hd with
  | non =>
    cases (show u = Value.none from rv)
    exact PySem.P.repr_of_none ⟨.str _, H, I.tok _, ⟨_, rfl⟩, PyData.shown_none ▸ q⟩
  | bl b =>
    cases (show u = Value.bool b from rv)
    refine PySem.P.repr_of_bool ⟨.str _, H, I.tok _, ⟨_, rfl⟩, ?_⟩
    rw [PyData.shown_bool] at q
    exact q
  | int i =>
    obtain ⟨t, rfl⟩ := rv
    refine PySem.P.repr_of_int ?_ ⟨.str _, H, I.tok _, ⟨_, rfl⟩, ?_⟩
    · simpa [PyData.showable] using hs
    · rw [PyData.shown_int] at q
      exact q
  | str x =>
    obtain ⟨t, rfl⟩ := rv
    refine PySem.P.repr_of_str ⟨.str _, H, I.tok _, ⟨_, rfl⟩, ?_⟩ ?_
    · rw [PyData.shown_str] at q
      exact q
    · rw [PyData.shown_str] at hl
      exact hl
  | lst a b => exact byRef _ rv
  | tup a b => exact byRef _ rv
end

/-! ### a law's end -/
section
variable {P : Program} {w : World} {K : PySem.W.Frag} {mg mb : Str → Option Value} {k : Nat} {fa a : Addr} {fd : FuncData} {x : Str} {sp : Sp} {s₁ : Shared} {vs : List Value} {ns : List Int}
/-- the heap of the layer that knows the script alone -/
def hpScript (a : Addr) (vs : List Value) (ns : List Int) : Hp := fun b => if b = a then some (.frz { cls := .type "list", data := .seq vs.toArray } (.lst (ns.map V.int))) else none
/-- a law's def, told over every base, called by the claim on a script of the heap -/
theorem call_law (hin : K.In s₁.heap) (names : s₁.heap.Ns mainGlobals mg) (bn : s₁.heap.Ns builtinsNs mb) (bb : ∀ x : Str, x ≠ "__name__" → mb x = bootBuiltins x) (nolim : s₁.heap.NoLimit) (nogen : s₁.gens = #[])
    (script : s₁.heap.get? a = some { cls := .type "list", data := .seq vs.toArray }) (nums : IntsAre vs ns) (short : ns.length ≤ sizeLine) (room : Room k callerA)
    (T : ∀ base : Heap, K.In base → base.Ns mainGlobals mg → Told P w K mg base CX0 k fa fd [x] sp) (bind : ∀ (s : Shared) (u : Value), BindsTo s fd ⟨[u], []⟩ [(x, u)])
    (say : ∀ H : Hp, Only H → SqL K H a (ns.map V.int) → sp [.ref a] H (fun v _ => v = .bl true) fun _ _ _ => False) :
    codeAny (model P w) callerA (.call (.ref fa) ⟨[.ref a], []⟩) (fun r s' => r = .ok (.ret (.bool true)) ∧ OldK s₁.heap s'.heap ∧ s'.os = s₁.os ∧ AllBare s'.gens) s₁ := by
  have rv := vals_ints nums
  have many := nums.length
  suffices main : ∀ H : Hp, Only H → SqL K H a (ns.map V.int) → HOk P w H s₁.heap → (∀ b u, H b = some u → b = a) → (∀ u, H a = some u → K.lookup a = none) →
      codeAny (model P w) callerA (.call (.ref fa) ⟨[.ref a], []⟩) (fun r s' => r = .ok (.ret (.bool true)) ∧ OldK s₁.heap s'.heap ∧ s'.os = s₁.os ∧ AllBare s'.gens) s₁ by
    by_cases inK : ∃ o, K.lookup a = some o
    · obtain ⟨o, ho⟩ := inK
      have eo := hin a o ho
      rw [script] at eo
      cases eo
      refine main (fun _ => none) (fun _ => .inl rfl) (.inr ⟨_, vs.toArray, _, ho, rfl, rfl, rfl, ?_, ?_⟩) (fun _ u z => nomatch (z : (none : Option HO) = some u)) (fun _ u z => nomatch (z : (none : Option HO) = some u)) (fun u z => nomatch (z : (none : Option HO) = some u))
      · rw [List.size_toArray, many]
        exact short
      · simpa using rv
    · have outK : K.lookup a = none := by
        cases q : K.lookup a with
        | none => rfl
        | some o => exact (inK ⟨o, q⟩).elim
      have only : ∀ b u, hpScript a vs ns b = some u → b = a := fun b u z => by
        by_cases e : b = a
        · exact e
        · exact nomatch (if_neg e).symm.trans z
      refine main (hpScript a vs ns) (fun b => ?_) (.inl (.inr ⟨_, if_pos rfl⟩)) (fun b u z => ?_) only (fun _ _ => outK)
      · by_cases e : b = a
        · exact .inr ⟨_, _, if_pos e⟩
        · exact .inl (if_neg e)
      · obtain rfl := only b u z
        cases (if_pos rfl).symm.trans z
        exact ⟨script, by simpa using short, vs, _, rv, script⟩
  intro H only seq ok alone outK
  have under : ∀ {b : Addr} {o : Obj}, s₁.heap.get? b = some o → H b = none → (hidT s₁.heap H).get? b = some o := fun z n => hidT_get z n
  have dictOut : ∀ {b : Addr} {o : Obj} {es : Array DictEntry} {ep : Nat}, s₁.heap.get? b = some o → o.data = .dict es ep → H b = none := by
    intro b o es ep z d
    cases q : H b with
    | none => rfl
    | some u =>
      obtain rfl := alone b u q
      rw [script] at z
      cases z
      exact nomatch (d : Data.seq vs.toArray _ = Data.dict es ep)
  have nsUnder : ∀ {b : Addr} {m : Str → Option Value}, s₁.heap.Ns b m → (hidT s₁.heap H).Ns b m := by
    intro b m z
    obtain ⟨o, es, ep, e, d, r⟩ := z
    exact ⟨o, es, ep, under e (dictOut e d), d, r⟩
  have inBase : K.In (hidT s₁.heap H) := by
    intro b o e
    refine under (hin b o e) ?_
    cases q : H b with
    | none => rfl
    | some u =>
      obtain rfl := alone b u q
      rw [outK u q] at e
      cases e
  obtain ⟨mc, lim1, lim2⟩ := nolim
  have e0 : Env0 P w K mg (hidT s₁.heap H) callerA [] s₁ H :=
    { frames := rfl, mod := ⟨inBase, nsUnder names, ⟨mb, nsUnder bn, bb⟩, ⟨mc, nsUnder lim1, lim2⟩⟩, bs := fun _ _ z => of_hidT z, bsz := Nat.le_of_eq (hidT_size _ _), funs := trivial
      frf := fun b z => absurd (show b ∈ ([] : List Addr) from z) List.not_mem_nil, hok := ok, bare := .of_eq nogen }
  have run := (T _ inBase (nsUnder names)).go (A := callerA) (us := [.ref a]) (vs := [.ref a]) rfl room e0 (bind s₁ (.ref a)) (.cons rfl .nil) (say H only seq)
  refine codeAny_mono run ?_
  intro r s' h
  match r, h with
  | .error _, h => exact h.elim
  | .ok .next, h => exact h.elim
  | .ok .brk, h => exact h.elim
  | .ok .cont, h => exact h.elim
  | .ok (.ret u), h =>
    obtain ⟨v, H', os, bare, un, ok', r', q⟩ := h
    cases (show v = .bl true from q)
    cases (show u = Value.bool true from r')
    refine ⟨rfl, OldK.of_keep ?_, os, bare⟩
    intro b o z
    rcases only b with e | ⟨ob, xs, e⟩
    · exact un.keep b o z e (fun y => absurd (show b ∈ ([] : List Addr) from y) List.not_mem_nil) (by simp)
    · have e' := un.frzs b ob _ e
      have h1 := (ok b _ e).1
      have h2 := (ok' b _ e').1
      rw [z] at h1
      cases h1
      exact h2

theorem end_law {l : PySem.W.OpenLaw} {k : Nat} {q : Program} {loose : List Str} {XP : (Str → Option Value) → Heap → Prop} {YP : World → Heap → Prop} {d : DefRec} {K : Params → PySem.W.Frag} {sp : PySem.W.Frag → Sp} {x : Str}
    (hn : l.most = some 63) (hdf : d.params.defaults = []) (room : Room k callerA) (hY : ∀ (w : World) (h : Heap), YP w h → (K w.params).In h)
    (F : ∀ (w : World) (mg : Str → Option Value) (fa : Addr) (h : Heap), (K w.params).In h → h.Ns mainGlobals mg → mg d.name = some (.ref fa) →
      ∃ fd : FuncData, (∀ (s : Shared) (u : Value), BindsTo s fd ⟨[u], []⟩ [(x, u)]) ∧ ∀ base : Heap, (K w.params).In base → base.Ns mainGlobals mg → Told l.prog w (K w.params) mg base CX0 k fa fd [x] (sp (K w.params)))
    (say : ∀ (K : PySem.W.Frag) (H : Hp) (a : Addr) (ns : List Int), ns.length ≤ 63 → SqL K H a (ns.map V.int) → sp K [.ref a] H (fun v _ => v = .bl true) fun _ _ _ => False) :
    PySem.W.WalkO q loose XP YP l.row.toRowW d [] (fun f vs => PySem.call f vs) := by
  apply Att.attach_call hn hdf
  intro w s₀ s₁ mg mb fa o pm cd doc a vs ns G Y ho hd hcd hmg script nums len nogen
  obtain ⟨fd, bind, T⟩ := F w mg fa _ (hY w _ Y) G.T.g hmg
  exact call_law (hY w _ Y) G.T.g G.T.b G.T.builtins G.T.nolimit nogen script nums (Nat.le_trans len (by decide)) room T bind fun H _ seq => say _ H a ns len seq
end
end Sb

set_option Elab.async false
set_option linter.all false
set_option maxRecDepth 100000
namespace Sb
open PySem PySem.Spec PyProof.Rows L2

/-! ### numbers in base 256, the most significant digit first -/
def digs (n : Nat) : List Nat := if h : n = 0 then [] else digs (n / 256) ++ [n % 256]
termination_by n
decreasing_by omega
theorem digs_zero : digs 0 = [] := by rw [digs]; rfl
theorem digs_pos {n : Nat} (h : n ≠ 0) : digs n = digs (n / 256) ++ [n % 256] := by
  rw [digs, dif_neg h]
theorem digs_at : ∀ (n j : Nat), j < (digs n).length → (digs n)[j]? = some (n / 256 ^ ((digs n).length - 1 - j) % 256) := by
  intro n
  induction n using Nat.strongRecOn with
  | _ n ih =>
    intro j hj
    by_cases h : n = 0
    · subst h
      rw [digs_zero] at hj
      exact absurd hj (Nat.not_lt_zero _)
    · rw [digs_pos h] at hj ⊢
      rw [List.length_append, List.length_singleton] at hj ⊢
      by_cases hl : j < (digs (n / 256)).length
      · rw [List.getElem?_append_left hl, ih (n / 256) (by omega) j hl, Nat.div_div_eq_div_mul]
        have e : (digs (n / 256)).length + 1 - 1 - j = ((digs (n / 256)).length - 1 - j) + 1 := by omega
        rw [e, Nat.pow_succ, Nat.mul_comm]
      · have e : j = (digs (n / 256)).length := by omega
        subst e
        rw [List.getElem?_append_right (Nat.le_refl _), Nat.sub_self]
        have e2 : (digs (n / 256)).length + 1 - 1 - (digs (n / 256)).length = 0 := by omega
        rw [e2, Nat.pow_zero, Nat.div_one]
        rfl
theorem digs_len_le : ∀ (k n : Nat), n < 256 ^ k → (digs n).length ≤ k
  | 0, n, h => by
    have e : n = 0 := by
      rw [Nat.pow_zero] at h
      omega
    rw [e, digs_zero]
    exact Nat.le_refl _
  | k + 1, n, h => by
    by_cases e : n = 0
    · rw [e, digs_zero]
      exact Nat.zero_le _
    · rw [digs_pos e, List.length_append, List.length_singleton]
      rw [Nat.pow_succ] at h
      have := digs_len_le k (n / 256) (by omega)
      omega
theorem digs_lt : ∀ (n d : Nat), d ∈ digs n → d < 256 := by
  intro n
  induction n using Nat.strongRecOn with
  | _ n ih =>
    intro d hd
    by_cases h : n = 0
    · rw [h, digs_zero] at hd
      cases hd
    · rw [digs_pos h] at hd
      rcases List.mem_append.mp hd with q | q
      · exact ih _ (by omega) d q
      · rw [List.mem_singleton] at q
        omega
theorem digs_len : ∀ n : Nat, (digs n).length = (Builtin.Int.intBits (n : Int) + 7) / 8 := by
  intro n
  induction n using Nat.strongRecOn with
  | _ n ih =>
    by_cases h : n = 0
    · subst h
      rw [digs_zero]
      decide
    · have bits : Builtin.Int.intBits (n : Int) = n.log2 + 1 := by
        unfold Builtin.Int.intBits
        rw [if_neg (by simpa using h)]
        rfl
      rw [bits, digs_pos h, List.length_append, List.length_singleton, ih (n / 256) (by omega)]
      by_cases hs : n < 256
      · have e : n / 256 = 0 := by omega
        rw [e]
        have hl : n.log2 < 8 := (Nat.log2_lt h).mpr hs
        have e0 : Builtin.Int.intBits ((0 : Nat) : Int) = 0 := by decide
        rw [e0]
        omega
      · have h0 : n / 256 ≠ 0 := by omega
        have bits2 : Builtin.Int.intBits ((n / 256 : Nat) : Int) = (n / 256).log2 + 1 := by
          unfold Builtin.Int.intBits
          rw [if_neg (by
            have := h0
            simp
            omega)]
          rfl
        rw [bits2]
        have e : n.log2 = (n / 256).log2 + 8 := by
          obtain ⟨h1, h2⟩ := (Nat.log2_eq_iff h0 (k := (n / 256).log2)).mp rfl
          refine (Nat.log2_eq_iff h).mpr ⟨?_, ?_⟩
          · rw [Nat.pow_add]
            omega
          · have e9 : (n / 256).log2 + 8 + 1 = ((n / 256).log2 + 1) + 8 := by omega
            rw [e9, Nat.pow_add]
            omega
        omega

/-- the code of a number -/
def codeN (n : Nat) : List Nat := if n < 192 then [n] else (191 + (digs n).length) :: digs n
theorem codeN_small {n : Nat} (h : n < 192) : codeN n = [n] := if_pos h
theorem codeN_big {n : Nat} (h : ¬ n < 192) : codeN n = (191 + (digs n).length) :: digs n := if_neg h
theorem codeN_len {n : Nat} (h : n < 256 ^ 63) : (codeN n).length ≤ 64 := by
  by_cases c : n < 192
  · rw [codeN_small c, List.length_singleton]
    omega
  · rw [codeN_big c, List.length_cons]
    have := digs_len_le 63 n h
    omega
theorem codeN_lt {n : Nat} (h : n < 256 ^ 63) : ∀ d ∈ codeN n, d < 256 := by
  intro d hd
  by_cases c : n < 192
  · rw [codeN_small c, List.mem_singleton] at hd
    omega
  · rw [codeN_big c] at hd
    rcases List.mem_cons.mp hd with q | q
    · have := digs_len_le 63 n h
      omega
    · exact digs_lt n d q

/-! ### heaps -/
/-- numbers as values -/
def vN (d : Nat) : V := .int (d : Int)
/-- all but what stands at p is as it was -/
def But (p : Addr) (H H' : Hp) : Prop := ∀ b o, b ≠ p → H b = some o → H' b = some o
theorem But.refl (p : Addr) (H : Hp) : But p H H := fun _ _ _ h => h
theorem But.trans {p : Addr} {H H1 H2 : Hp} (a : But p H H1) (b : But p H1 H2) : But p H H2 := fun c o n h => b c o n (a c o n h)
theorem But.put {p : Addr} {H : Hp} {o : HO} : But p H (upd H p o) := fun b u n h => by
  rw [upd_ne n]
  exact h
theorem But.seq {p a : Addr} {K : PySem.W.Frag} {H H' : Hp} {xs : List V} (e : But p H H') (n : a ≠ p) (h : SqL K H a xs) : SqL K H' a xs := by
  rcases h with (h | ⟨o, h⟩) | h
  · exact .inl (.inl (e _ _ n h))
  · exact .inl (.inr ⟨o, e _ _ n h⟩)
  · exact .inr h
theorem But.same {p : Addr} {H H1 H2 : Hp} (a : But p H H1) (b : Same H1 H2) : But p H H2 := fun c o n h => b c o (a c o n h)
theorem Same.but {p : Addr} {H H' : Hp} (a : Same H H') : But p H H' := fun c o _ h => a c o h
theorem same_new {H : Hp} {p : Addr} {o : HO} (h : H p = none) : Same H (upd H p o) := fun b u z => by
  rw [upd_ne (ne_of_none z h)]
  exact z
theorem seq_new {K : PySem.W.Frag} {H : Hp} {p : Addr} {xs : List V} : SqL K (upd H p (.lst xs)) p xs := .inl (.inl upd_same)
theorem seq_of {K : PySem.W.Frag} {H : Hp} {p : Addr} {xs : List V} (h : H p = some (.lst xs)) : SqL K H p xs := .inl (.inl h)
/-- the law's bag: two numbers to draw from, and how many draws there were (at most n) -/
def BagAt (H : Hp) (p : Addr) (n : Nat) : Prop := ∃ d s k : Int, H p = some (.lst [.int d, .int s, .int k]) ∧ 0 ≤ d ∧ 0 ≤ s ∧ s ≤ 2 ^ 40 ∧ 0 ≤ k ∧ k ≤ n
theorem BagAt.mono {H : Hp} {p : Addr} {n m : Nat} (b : BagAt H p n) (h : n ≤ m) : BagAt H p m := by
  obtain ⟨d, s, k, e, h1, h2, h3, h4, h5⟩ := b
  exact ⟨d, s, k, e, h1, h2, h3, h4, by omega⟩
theorem BagAt.same {H H' : Hp} {p : Addr} {n : Nat} (b : BagAt H p n) (s : Same H H') : BagAt H' p n := by
  obtain ⟨d, z, k, e, r⟩ := b
  exact ⟨d, z, k, s _ _ e, r⟩
theorem sz {n : Nat} (h : n ≤ 1000000) : n ≤ sizeLine := by
  rw [sizeLine_eq]
  omega
theorem sz_lt {n : Nat} (h : n ≤ 1000000) : n < sizeLine := by
  rw [sizeLine_eq]
  omega
/-- a conditional expression whose two ways both give what R says -/
theorem if_val {c : TT} {ta tb : TE} {σ : L2.St} {H : Hp} {Q : VK} (R : V → Prop) (go : ∀ Q' : VK, (∀ v, R v → Q' v H) → tIf c ta tb σ H Q') (k : ∀ v, R v → Q v H) : tIf c ta tb σ H Q := go Q k

/-! ### lists of numbers as data -/
theorem dp_nums {K : PySem.W.Frag} {H : Hp} : ∀ l : List Nat, DpAll K H (l.map vN) (l.map fun d : Nat => PyData.int (d : Int))
  | [] => .nil
  | d :: l => .cons (.int _) (dp_nums l)
theorem shown_len_append : True := trivial
end Sb
namespace Sb
open PySem PySem.Spec PyProof.Rows L2
def dN (d : Nat) : PyData := .int (d : Int)
theorem nums_data : ∀ (l : List Nat), (∀ d ∈ l, d < 1024) → PyData.showableAll (l.map dN) = true ∧ PyData.hasDictAll (l.map dN) = false ∧ PyData.depthAll (l.map dN) ≤ 1 ∧ PyData.leavesShortAll 13 (l.map dN) = true ∧ PyData.weightAll (l.map dN) ≤ 12 * l.length
  | [], _ => by decide
  | d :: l, h => by
    obtain ⟨h1, h2, h3, h4, h5⟩ := nums_data l fun x hx => h x (List.mem_cons_of_mem _ hx)
    have hd := h d List.mem_cons_self
    have hn : ((d : Int).natAbs) = d := Int.natAbs_natCast d
    have hl : ((d : Int).natAbs).log2 < 11 := by
      rw [hn]
      by_cases e : d = 0
      · subst e
        decide
      · have : d.log2 < 10 := (Nat.log2_lt e).mpr hd
        omega
    have hs : (PyData.shown (dN d)).length ≤ 13 := PyData.shown_int_le (by rw [hn]; omega)
    refine ⟨?_, ?_, ?_, ?_, ?_⟩
    · show (PyData.showable (dN d) && PyData.showableAll (l.map dN)) = true
      rw [h1, Bool.and_true]
      exact decide_eq_true (show ((d : Int).natAbs).log2 < 1920 by omega)
    · show (PyData.hasDict (dN d) || PyData.hasDictAll (l.map dN)) = false
      rw [h2]
      rfl
    · show max (PyData.depth (dN d)) (PyData.depthAll (l.map dN)) ≤ 1
      have : PyData.depth (dN d) ≤ 1 := by
        unfold dN
        simp [PyData.depth]
      omega
    · show (PyData.leavesShort 13 (dN d) && PyData.leavesShortAll 13 (l.map dN)) = true
      rw [h4, Bool.and_true]
      exact decide_eq_true hs
    · show PyData.weight (dN d) + 1 + PyData.weightAll (l.map dN) ≤ 12 * (l.length + 1)
      have : PyData.weight (dN d) ≤ 11 := by
        show (if ((d : Int) == 0) = true then 0 else (d : Int).natAbs.log2 + 1) ≤ 11
        split <;> omega
      omega
theorem dp_nums' {K : PySem.W.Frag} {H : Hp} : ∀ l : List Nat, DpAll K H (l.map vN) (l.map dN)
  | [] => .nil
  | d :: l => .cons (.int _) (dp_nums' l)
/-- repr of a list of small numbers -/
theorem repr_nums {K : PySem.W.Frag} {H : Hp} {a : Addr} {l : List Nat} {Q : VK} (h : SqL K H a (l.map vN)) (hs : ∀ d ∈ l, d < 1024) (hl : l.length ≤ 5000) (q : Q (.str (PyData.list (l.map dN)).shown) H) : rReprD K [.ref a] H Q := by
  obtain ⟨h1, h2, h3, h4, h5⟩ := nums_data l hs
  refine ⟨_, .list (l.map dN), rfl, .lst h (dp_nums' l), ?_, ?_, ?_, ?_, q⟩
  · exact h1
  · exact h2
  · show PyData.depthAll (l.map dN) + 1 ≤ 60
    omega
  · have := PyData.shown_le 13 (by decide) (.list (l.map dN)) h4
    have hw : PyData.weight (.list (l.map dN)) = PyData.weightAll (l.map dN) := by simp only [PyData.weight]
    rw [hw] at this
    rw [sizeLine_eq]
    omega
theorem repr_int {K : PySem.W.Frag} {H : Hp} {i : Int} {Q : VK} (h : i.natAbs.log2 < 1920) (q : Q (.str (PyData.int i).shown) H) : rReprD K [.int i] H Q := by
  refine ⟨_, .int i, rfl, .int i, ?_, ?_, ?_, ?_, q⟩
  · simpa [PyData.showable] using h
  · simp [PyData.hasDict]
  · simp [PyData.depth]
  · rw [PyData.shown_int]
    exact int_text_fits h
theorem seq_but {K : PySem.W.Frag} {H H1 H' : Hp} {a p : Addr} {xs : List V} (h : SqL K H a xs) (np : H p = none) (s : Same H H1) (b : But p H1 H') : SqL K H' a xs := by
  rcases h with (h | ⟨o, h⟩) | h
  · exact .inl (.inl (b _ _ (ne_of_none h np) (s _ _ h)))
  · exact .inl (.inr ⟨o, b _ _ (ne_of_none h np) (s _ _ h)⟩)
  · exact .inr h
/-- range(max(1, n)) -/
theorem turns_le {n m : Nat} (h : n ≤ m) (h1 : 1 ≤ m) : (if (n : Int) > 1 then (n : Int) else 1).toNat ≤ m := by
  split <;> omega
def Shows (d : PyData) : Prop := d.showable = true ∧ d.hasDict = false ∧ d.depth ≤ 60 ∧ d.shown.length ≤ sizeLine
theorem nums_ok {l : List Nat} (hs : ∀ d ∈ l, d < 1024) (hl : l.length ≤ 5000) : Shows (.list (l.map dN)) := by
  obtain ⟨h1, h2, h3, h4, h5⟩ := nums_data l hs
  refine ⟨h1, h2, ?_, ?_⟩
  · show PyData.depthAll (l.map dN) + 1 ≤ 60
    omega
  · have := PyData.shown_le 13 (by decide) (.list (l.map dN)) h4
    have hw : PyData.weight (.list (l.map dN)) = PyData.weightAll (l.map dN) := by simp only [PyData.weight]
    rw [hw] at this
    rw [sizeLine_eq]
    omega
theorem int_ok {i : Int} (h : i.natAbs.log2 < 1920) : Shows (.int i) := by
  refine ⟨?_, ?_, ?_, ?_⟩
  · simpa [PyData.showable] using h
  · simp [PyData.hasDict]
  · simp [PyData.depth]
  · rw [PyData.shown_int]
    exact int_text_fits h
/-- what is new since H1 may change -/
theorem But.mut {p f : Addr} {H H1 H2 : Hp} {o : HO} (a : But p H H1) (n : H1 f = none) (b : But p H1 H2) : But p H (upd H2 f o) := fun c u hc h => by
  have h1 := a c u hc h
  rw [upd_ne (ne_of_none h1 n)]
  exact b c u hc h1
theorem BagAt.mut {H H1 : Hp} {p f : Addr} {n : Nat} {o : HO} (b : BagAt H p n) (nf : H f = none) (s : Same H H1) : BagAt (upd H1 f o) p n := by
  obtain ⟨d, z, k, e, r⟩ := b
  exact ⟨d, z, k, by rw [upd_ne (ne_of_none e nf)]; exact s _ _ e, r⟩
theorem But.free {p q : Addr} {H H' : Hp} (b : But p H H') (n : H' q = none) (ne : q ≠ p) : H q = none := by
  cases z : H q with
  | none => rfl
  | some o =>
    rw [b q o ne z] at n
    cases n
end Sb
namespace Sb
open PySem PySem.Spec PyProof.Rows L2
/-- a conditional expression that may make objects -/
theorem tIf_all {c : TT} {ta tb : TE} {σ : L2.St} {H : Hp} {Q : VK} (R : V → Hp → Prop) (go : ∀ Q' : VK, (∀ v H', R v H' → Q' v H') → tIf c ta tb σ H Q') (k : ∀ v H', R v H' → Q v H') : tIf c ta tb σ H Q := go Q k
end Sb

set_option Elab.async false
set_option linter.all false
set_option maxRecDepth 100000
set_option maxHeartbeats 2000000
namespace Sb
open PySem PySem.Spec PyProof.Rows L2

/-! ### errors with one field, whose __init__ sets it -/
def spInit (K : PySem.W.Frag) (f : Str) : Sp := fun vs H Q _ => ∃ (a C : Addr) (v : V), vs = [.ref a, v] ∧ OexC K C ∧ PySem.W.findIn K (.ref C) f = some none ∧ H a = some (exo a C none) ∧
  ∀ dx, H dx = none → dx ≠ a → Q .non (upd (upd H dx (exd dx [(f, v)])) a (exo a C (some dx)))
/-- what is asked of such a class for isinstance -/
structure IsC (K : PySem.W.Frag) (D : Addr) : Prop where
  cl : (PySem.W.clsIn K D).isSome = true
  ga : PySem.W.findIn K (.ref D) "__getattribute__" = some (some (.builtin "BaseException.__getattribute__"))
  gg : PySem.W.findIn K (.ref D) "__getattr__" = some none
  ex : PySem.W.subIn K (.ref D) (.type "BaseException") = some true
  cc : PySem.W.findIn K (.ref D) "__class__" = some (some (.builtin "object.__class__"))
  ge : PySem.W.specialIn K (.builtin "object.__class__") "__get__" = some (some (.builtin "getset_descriptor.__get__"))
  tk : PySem.W.takesIn K (.builtin "object.__class__") = some true
  ob : PySem.W.mroIn K D (.type "object") = some true
/-- the class x of the program, at C, with the field f -/
structure Err (P : Program) (w : World) (K : PySem.W.Frag) (mg : Str → Option Value) (base : Heap) (x f : Str) (C : Addr) : Prop where
  g : mg x = some (.ref C)
  T : OexC K C
  X : XfC K C
  I : IsC K C
  no : PySem.W.findIn K (.ref C) f = some none
  maker : ∃ fI fd, PySem.W.findIn K (.ref C) "__init__" = some (some (.ref fI)) ∧ PySem.W.typeIn K (.ref fI) = some (.type "function") ∧ FnOk P w K mg base CX0 1 fI fd ["self", f] (spInit K f) ∧ Binds K fd ["self", f] []
section
variable {X : Cx} {x f : Str} {C : Addr} {e : Expr} {es : List Expr} {ta : TA} {p pos : Pos}
theorem pmk_err (R : Err X.prog X.w X.K X.mg X.base x f C) (room : Room 2 X.A) (hg : Gl X x) (ha : PA X (e :: es) ta)
    (hdb : (x == ("__debug__" : Str)) = false := by decide) (he : starEach (e :: es) X.env = (false, eval e X.env) :: starEach es X.env := by rfl) (hpl : (backTo pos (starEach es X.env)).any (·.1) = false := by rfl) :
    PMk X (.Call (.Name x p) (e :: es) [] pos) (tMkO C (spInit X.K f) [] ta) := by
  obtain ⟨fI, fd, h1, h2, h3, h4⟩ := R.maker
  exact pmk_oex R.T h1 h2 h3 room h4 .nil pass0 hg R.g ha hdb he hpl
end
theorem err_made {K : PySem.W.Frag} {C : Addr} {f : Str} {v : V} {H : Hp} {R : XK} (T : OexC K C) (no : PySem.W.findIn K (.ref C) f = some none) (k : ∀ d H', H d = none → Same H H' → H' d = some (.xd [(f, v)]) → R (.ref C) (some d) H') :
    ([v] : List V).length ≤ 1000 ∧ ∀ a, H a = none → spInit K f (.ref a :: ([v] ++ [])) (upd H a (exo a C none)) (fun u H2 => u = .non ∧ ∃ (d : Addr) (fs : List (Str × V)), H2 a = some (exo a C (some d)) ∧ H2 d = some (exd d fs) ∧ H d = none ∧
      R (.ref C) (some d) (upd (del H2 a) d (.xd fs))) (fun _ _ _ => False) := by
  refine ⟨Nat.le_trans (Nat.le_refl 1) (by decide), fun a na => ⟨a, C, v, rfl, T, no, upd_same, fun dx nd ne => ⟨rfl, dx, [(f, v)], upd_same, ?_, ?_, ?_⟩⟩⟩
  · rw [upd_ne ne, upd_same]
  · rw [upd_ne ne] at nd
    exact nd
  · rw [upd_ne ne] at nd
    refine k dx _ nd ?_ upd_same
    intro b o z
    have hb : b ≠ a := ne_of_none z na
    have hd : b ≠ dx := ne_of_none z nd
    rw [upd_ne hd, del_ne hb, upd_ne hb, upd_ne hd, upd_ne hb]
    exact z

/-! the __init__ of such a class, as it stands in the text -/
section
variable {P : Program} {w : World} {K : PySem.W.Frag} {mg : Str → Option Value} {base : Heap}
theorem ok_initBy {q : Str} {st : Stmt} {f : Addr} {fd : FuncData} {fld : Str} (F : Fun K "__init__" q st f fd) (S : FnScope ["self", fld] ["self", fld] (defScope st))
    (body : ∀ (cdv : Value) (A : Around) (outer : List Env) (s : Shared) (H : Hp) (E : XK), PSs (cxOf CX0 P w K mg base ["self", fld] q (defScope st) f cdv A outer s H E).nox (defBody st) (tOst K fld (tVar 0) (tVar 1))) :
    FnOk P w K mg base CX0 1 f fd ["self", fld] (spInit K fld) := by
  refine F.ok S (fun vs H Q E h => ?_) (fun cdv A outer s H vs Q E hr h => ?_)
  · obtain ⟨a, C, v, rfl, _⟩ := h
    rfl
  · obtain ⟨a, C, v, rfl, T, no, ha, k⟩ := h
    exact ⟨_, body cdv A outer s H E, _, rfl, _, rfl, a, C, rfl, T, no, .inl ⟨ha, fun dx n ne => k dx n ne⟩⟩
end

/-! ### isinstance of the caught error -/
def rIsX (K : PySem.W.Frag) (cls : Value) (d : Option Addr) (a : Addr) : List V → Hp → VK → Prop := fun xs H Q =>
  ∃ (D dd : Addr) (fs : List (Str × V)) (c : V) (cv : Value) (b : Bool), xs = [.ref a, c] ∧ cls = .ref D ∧ IsC K D ∧ d = some dd ∧ H dd = some (.xd fs) ∧ (∀ u, RelV c u → u = cv) ∧ PySem.W.kitOne K (.ref D) cv = some b ∧ Q (.bl b) H
theorem call_isX {X : Cx} {a : Addr} {cls : Value} {d : Option Addr} {oe : Obj} {pn : List (Addr × Obj)} (hz : Zc cls d oe) (hf : ∃ vs, oe.data = .fields vs) : CallR (X.suite a ((a, oe) :: pn)) (.builtin "isinstance") (rIsX X.K cls d a) := by
  intro pins s σ H xs us Q I r h
  obtain ⟨D, dd, fs, c, cv, b, rfl, rfl, T, rfl, hd, rc, e, q⟩ := h
  obtain ⟨u1, u2, rfl, r1, r2⟩ := vals2 r
  cases (show u1 = Value.ref a from r1)
  cases rc _ r2
  obtain ⟨here, _⟩ := I.pin (a, oe) (List.mem_append.mpr (.inl List.mem_cons_self))
  obtain ⟨vs, hv⟩ := hf
  obtain ⟨mA, hns, _⟩ := (show ObjOk X.prog X.w H s.heap dd (.xd fs) from I.hok dd _ hd)
  obtain ⟨od, ho, _⟩ := lookIn_ns hns
  have J : PySem.W.InstAt s.heap a oe D (some od) := ⟨here, hz.1, by unfold PySem.W.notCls; rw [hv] <;> rfl, by rw [hz.2]; exact ho⟩
  exact PySem.W.kia_one (PySem.W.kitx_exc T.cl T.ga T.gg T.ex T.cc T.ge T.tk T.ob) I.kIn J e (fun z => nomatch z) fun tk => ⟨.bl b, H, I.tok tk, rfl, q⟩

/-! ### calls whose errors are wished for at the caller's slots -/
section
variable {X : Cx} {CX : CXT} {k : Nat} {f : Addr} {fd : FuncData} {ps : List Str} {sp : Sp} {ds : List Value} {dvs : List V} {E : L2.St → XK} {x : Str} {p pos : Pos} {e : Expr} {es : List Expr} {t : TA}
def tToldS (sp : Sp) (dvs : List V) (E : L2.St → XK) (t : TA) : TE := fun σ H Q => t σ H fun vs H1 => sp (vs ++ dvs) H1 Q (E σ)
theorem pe_toldS (T : Told X.prog X.w X.K X.mg X.base CX k f fd ps sp) (clr : Clr X.A) (room : Room k X.A) (hg : Gl X x) (hm : X.mg x = some (.ref f)) (hk : PySem.W.keepIn X.K (.ref f) = true)
    (hb : Binds X.K fd ps ds) (hd : Vals dvs ds) (pass : ∀ σ, PassesAt CX X σ (E σ)) (ha : PA X (e :: es) t) (hdb : (x == ("__debug__" : Str)) = false := by decide)
    (he : starEach (e :: es) X.env = (false, eval e X.env) :: starEach es X.env := by rfl) (hpl : (backTo pos (starEach es X.env)).any (·.1) = false := by rfl) :
    PE X (.Call (.Name x p) (e :: es) [] pos) (tToldS sp dvs E t) := by
  constructor
  intro pins s σ H Q I want
  apply wpAny_Call_Name_kw
  refine ld_glob I hg hm ?_ hdb
  apply PySem.W.callWith_K (h₀ := X.base) I.ok.mod.kin hk ?_ he hpl
  refine thn (ha.run pos pins s σ H _ I want) ?_
  intro us s1 got
  obtain ⟨vs, H1, I1, r, say⟩ := got
  refine ⟨I1.kIn, wpAny_call ?_⟩
  have rr := r.append hd
  have many : (us ++ ds).length = ps.length := rr.length.symm.trans (T.arity say)
  refine codeAny_mono (T.go clr room I1.env0 (hb s1 us I1.kIn many) rr say) ?_
  intro res s2 h
  match res, h with
  | .error er, h => exact pass σ pins H1 s1 er s2 I1 h
  | .ok (.ret u), h => exact I1.after h
  | .ok .next, h => exact h.elim
  | .ok .brk, h => exact h.elim
  | .ok .cont, h => exact h.elim
end

theorem call_reprDs {X : Cx} {a : Addr} {pn : List (Addr × Obj)} (clr : Clr X.A) (hu : X.A.units + 64 < cLine) : CallR (X.suite a pn) (.builtin "repr") (rReprD X.K) := call_reprD (X := X.suite a pn) clr hu

/-! ### isinstance by classes of the program -/
theorem cls_some {K : PySem.W.Frag} {C : Addr} (h : PySem.W.hasDictIn K C = true) : (PySem.W.clsIn K C).isSome = true := by
  obtain ⟨cd, hc, _⟩ := PySem.W.any_some h
  rw [hc]
  rfl
theorem kit_own {K : PySem.W.Frag} {D C : Addr} {b : Bool} (ne : b = false → D ≠ C) (cl : (PySem.W.clsIn K C).isSome = true) (ty : PySem.W.typeIn K (.ref C) = some (.type "type")) (s : PySem.W.subIn K (.ref D) (.ref C) = some b) : PySem.W.kitOne K (.ref D) (.ref C) = some b := by
  have e2 : ((PySem.W.clsIn K C).isSome && PySem.W.typeIn K (.ref C) == some (.type "type")) = true := by rw [cl, ty] <;> rfl
  have e3 : PySem.W.kitCls K (.ref D) (.ref C) = some b := by
    show (if ((PySem.W.clsIn K C).isSome && PySem.W.typeIn K (.ref C) == some (.type "type")) = true then PySem.W.subIn K (.ref D) (.ref C) else none) = some b
    rw [if_pos e2]
    exact s
  unfold PySem.W.kitOne
  by_cases h : (Value.ref D == Value.ref C) = true
  · rw [if_pos h]
    have e : D = C := Value.ref.inj (beq_iff_eq.mp h)
    cases b with
    | true => rfl
    | false => exact absurd e (ne rfl)
  · rw [if_neg h]
    exact e3
theorem kit_type {K : PySem.W.Frag} {D : Addr} {T : String} {b : Bool} (m : PySem.W.kitMeta T = true) (s : PySem.W.subIn K (.ref D) (.type T) = some b) : PySem.W.kitOne K (.ref D) (.type T) = some b := by
  have h : ¬ (Value.ref D == Value.type T) = true := fun z => nomatch (beq_iff_eq.mp z)
  unfold PySem.W.kitOne
  rw [if_neg h]
  show (if PySem.W.kitMeta T = true then PySem.W.subIn K (.ref D) (.type T) else none) = some b
  rw [if_pos m]
  exact s
theorem ne_sub {K : PySem.W.Frag} {D C : Addr} (h1 : PySem.W.subIn K (.ref D) (.ref D) = some true) (h2 : PySem.W.subIn K (.ref D) (.ref C) = some false) : D ≠ C := fun e => by
  rw [← e, h1] at h2
  cases h2
/-- what an except clause asks of a class S of the program -/
theorem exm_own {K : PySem.W.Frag} {D S : Addr} {b : Bool} (h1 : PySem.W.subIn K (.ref S) (.type "BaseException") = some true) (h2 : PySem.W.hasDictIn K S = true) (h3 : PySem.W.typeIn K (.ref S) = some (.type "type")) (h4 : PySem.W.subIn K (.ref D) (.ref S) = some b) :
    PySem.W.exmOne K (.ref D) (.ref S) = some b := by
  have e1 : (PySem.W.subIn K (.ref S) (.type "BaseException") == some true) = true := by rw [h1] <;> rfl
  have e2 : ((PySem.W.clsIn K S).isSome && PySem.W.typeIn K (.ref S) == some (.type "type")) = true := by rw [cls_some h2, h3] <;> rfl
  show (if (PySem.W.subIn K (.ref S) (.type "BaseException") == some true) = true then (if ((PySem.W.clsIn K S).isSome && PySem.W.typeIn K (.ref S) == some (.type "type")) = true then PySem.W.subIn K (.ref D) (.ref S) else none) else none) = some b
  rw [if_pos e1, if_pos e2]
  exact h4
theorem relV_ref {C : Addr} : ∀ u, RelV (.ref C) u → u = .ref C := fun _ h => h
theorem relV_ty {T : String} : ∀ u, RelV (.ty T) u → u = .type T := fun _ h => h
end Sb
namespace Sb
open PySem PySem.Spec PyProof.Rows L2
theorem seqT {K : PySem.W.Frag} {H H' : Hp} {a : Addr} {xs : List V} (e : Same H H') (h : SqT K H a xs) : SqT K H' a xs := by
  rcases h with (h | ⟨o, h⟩) | h
  · exact .inl (.inl (e _ _ h))
  · exact .inl (.inr ⟨o, e _ _ h⟩)
  · exact .inr h
mutual
theorem dpSame {K : PySem.W.Frag} {H H' : Hp} (s : Same H H') : ∀ {v : V} {d : PyData}, Dp K H v d → Dp K H' v d
  | _, _, .non => .non
  | _, _, .bl b => .bl b
  | _, _, .int i => .int i
  | _, _, .str x => .str x
  | _, _, .lst a b => .lst (s.seq a) (dpSameAll s b)
  | _, _, .tup a b => .tup (seqT s a) (dpSameAll s b)
theorem dpSameAll {K : PySem.W.Frag} {H H' : Hp} (s : Same H H') : ∀ {vs : List V} {ds : List PyData}, DpAll K H vs ds → DpAll K H' vs ds
  | _, _, .nil => .nil
  | _, _, .cons a b => .cons (dpSame s a) (dpSameAll s b)
end
end Sb
namespace Sb
open PySem PySem.Spec PyProof.Rows L2
theorem shows_of {d : PyData} (h1 : d.showable = true) (h2 : d.hasDict = false) (h3 : d.depth ≤ 60) (h4 : PyData.leavesShort 1921 d = true) (h5 : d.weight ≤ 8000) : Shows d := by
  refine ⟨h1, h2, h3, ?_⟩
  have := PyData.shown_le 1921 (by decide) d h4
  rw [sizeLine_eq]
  have : (1921 + 2) * d.weight ≤ 1923 * 8000 := Nat.mul_le_mul_left _ h5
  omega
theorem log_of {i : Int} (h : i.natAbs < 2 ^ 1900) : i.natAbs.log2 < 1900 := by
  by_cases e : i.natAbs = 0
  · rw [e]
    decide
  · exact (Nat.log2_lt e).mpr h
theorem int_okB {i : Int} (h : i.natAbs < 2 ^ 1900) : Shows (.int i) := int_ok (Nat.lt_trans (log_of h) (by decide))
theorem one_data {i : Int} (h : i.natAbs < 2 ^ 1900) : PyData.showableAll [.int i] = true ∧ PyData.hasDictAll [.int i] = false ∧ PyData.depthAll [.int i] ≤ 1 ∧ PyData.leavesShortAll 1921 [.int i] = true ∧ PyData.weightAll [.int i] ≤ 2000 := by
  have l := log_of h
  refine ⟨?_, ?_, ?_, ?_, ?_⟩
  · show (decide (i.natAbs.log2 < 1920) && true) = true
    rw [decide_eq_true (show i.natAbs.log2 < 1920 by omega)]
    rfl
  · rfl
  · simp [PyData.depthAll, PyData.depth]
  · show (decide ((PyData.shown (.int i)).length ≤ 1921) && true) = true
    rw [PyData.shown_int, decide_eq_true (int_text_len_1921 (show i.natAbs.log2 < 1920 by omega))]
    rfl
  · show (if (i == 0) = true then 0 else i.natAbs.log2 + 1) + 1 + 0 ≤ 2000
    split <;> omega
theorem list1_ok {i : Int} (h : i.natAbs < 2 ^ 1900) : Shows (.list [.int i]) := by
  obtain ⟨h1, h2, h3, h4, h5⟩ := one_data h
  exact shows_of h1 h2 (show PyData.depthAll [.int i] + 1 ≤ 60 by omega) h4 (show PyData.weightAll [.int i] ≤ 8000 by omega)
theorem tup1_ok {i : Int} (h : i.natAbs < 2 ^ 1900) : Shows (.tuple [.int i]) := by
  obtain ⟨h1, h2, h3, h4, h5⟩ := one_data h
  exact shows_of h1 h2 (show PyData.depthAll [.int i] + 1 ≤ 60 by omega) h4 (show PyData.weightAll [.int i] ≤ 8000 by omega)
theorem bool_ok (b : Bool) : Shows (.bool b) := by cases b <;> exact ⟨by decide, by decide, by decide, by decide +kernel⟩
theorem none_ok : Shows .none := ⟨by decide, by decide, by decide, by decide +kernel⟩
theorem nil_ok : Shows (.list []) := ⟨by decide, by decide, by decide, by decide +kernel⟩
theorem unit_ok : Shows (.tuple []) := ⟨by decide, by decide, by decide, by decide +kernel⟩
end Sb

set_option Elab.async false
set_option linter.all false
set_option maxRecDepth 100000
set_option maxHeartbeats 4000000
namespace Sb
open PySem PySem.Spec PyProof.Rows L2
def topS (i : Nat) : Stmt := PySem.Challenge.pw_shortestbytes_k04_numbers_refused.main.body.getD i (.Pass ⟨0, 0, 0, 0⟩)
section
variable {P : Program} {w : World} {K : PySem.W.Frag} {mg : Str → Option Value} {base : Heap}
def spBag (K : PySem.W.Frag) : Sp := fun vs H Q _ => ∃ (a : Addr) (ns : List Int) (i : Nat), vs = [.ref a, .int (i : Int)] ∧ SqL K H a (ns.map V.int) ∧ i ≤ 63 ∧
  ∀ p H', Same H H' → H p = none → BagAt H' p 0 → Q (.ref p) H'
abbrev s__law_bag : Stmt := topS 13
theorem sc__law_bag : FnScope ["_law_script", "_law_at", "_law_cell", "_law_digits"] ["_law_script", "_law_at"] (defScope s__law_bag) := ⟨rfl, rfl, rfl, by decide +kernel, rfl, by decide +kernel, by decide +kernel⟩
theorem ok__law_bag {f : Addr} {fd : FuncData} (F : Fun K "_law_bag" "_law_bag" s__law_bag f fd) (m_len : mg "len" = none) (m_abs : mg "abs" = none) (m_int : mg "int" = none) : Told P w K mg base CX0 1 f fd ["_law_script", "_law_at"] (spBag K) := by
  refine told F sc__law_bag (fun vs H Q E h => ?_) (fun cdv A outer s H vs Q E clr hr h => ?_)
  · obtain ⟨a, ns, i, rfl, hS, hi, k⟩ := h
    rfl
  · obtain ⟨a, ns, i, rfl, hS, hi, k⟩ := h
    refine ⟨_, (pss_cons (ps_set (i := 2) sc__law_bag.nd rfl (Or.inl rfl) (pe_ifExp (pt_cmpR op_lt (pv 1) (pe_callB call_len_seq (by rfl) m_len PySem.boot_len (pa_cons (pv 0) pa_nil)) (nomark _)) (pe_ix ix_list (pv 0) (pv 1) (fun _ _ => rfl)) pe_int))
    (pss_cons (ps_set (i := 3) sc__law_bag.nd rfl (Or.inl rfl) (pe_ifExp (pt_cmpR op_ge (pe_callB call_abs (by rfl) m_abs (by decide +kernel) (pa_cons (pv 2) pa_nil)) (pe_op op_pow pe_int pe_int) (nomark _)) (pe_callB call_abs (by rfl) m_abs (by decide +kernel) (pa_cons (pv 2) pa_nil)) pe_int))
    (pss_one (ps_ret (pe_lst (pa_cons (pv 3) (pa_cons (pe_op op_add (pe_op op_add (pe_op op_mod (pe_callTy call_int1 (by rfl) m_int (by decide +kernel) (pa_cons (pv 2) pa_nil)) pe_int) (pe_op op_mul pe_int (pv 1))) pe_int) (pa_cons pe_int pa_nil)))))))), ?_⟩
    refine if_val (fun v => ∃ c : Int, v = .int c) (fun Q' q' => ?_) ?_
    · refine ⟨_, rfl, _, rfl, a, _, rfl, .inl hS, _, _, rfl, rfl, _, rfl, ite2 (fun e => ?_) (fun _ => q' _ ⟨_, rfl⟩)⟩
      have hl : i < ns.length := by
        have := of_decide_eq_true e
        rw [List.length_map] at this
        omega
      refine ⟨_, rfl, _, rfl, a, _, _, .int ns[i], rfl, rfl, hS, atI_nat ?_, q' _ ⟨_, rfl⟩⟩
      rw [List.getElem?_map, List.getElem?_eq_getElem hl]
      rfl
    · rintro _ ⟨c, rfl⟩
      unfold gName
      dsimp only
      refine if_val (fun v => ∃ d : Int, v = .int d ∧ 0 ≤ d) (fun Q' q' => ?_) ?_
      · refine ⟨_, rfl, _, rfl, _, _, rfl, rfl, ⟨by decide, by decide, by decide⟩, _, _, rfl, rfl, _, rfl, ite2 (fun _ => ?_) (fun _ => q' _ ⟨_, rfl, Int.le_refl _⟩)⟩
        refine ⟨_, rfl, _, rfl, q' _ ⟨_, rfl, ?_⟩⟩
        split <;> omega
      · rintro _ ⟨d, rfl, hd⟩
        refine ⟨_, rfl, _, rfl, .inl ⟨_, rfl, _, _, rfl, rfl, (show (0 : Int) < 2147483629 by decide), _, rfl, _, _, rfl, rfl, .inl ⟨by decide, by decide⟩, _, _, rfl, rfl, _, _, rfl, rfl, sz (show 3 ≤ 1000000 by decide), fun p np => ?_⟩⟩
        refine k p _ (same_new np) np ⟨_, _, _, upd_same, hd, ?_, ?_, Int.le_refl _, Int.le_refl _⟩ <;> omega

def spTake : Sp := fun vs H Q _ => ∃ (p : Addr) (m n : Nat), vs = [.ref p, .int (m : Int)] ∧ BagAt H p n ∧ n ≤ 100000 ∧ 0 < m ∧ m < 1073741824 ∧
  ∀ (r : Nat) H', r < m → But p H H' → BagAt H' p (n + 1) → Q (.int (r : Int)) H'
abbrev s__law_take : Stmt := topS 14
theorem sc__law_take : FnScope ["_law_bag_here", "_law_many", "_law_digit", "_law_place", "_law_mixed"] ["_law_bag_here", "_law_many"] (defScope s__law_take) := ⟨rfl, rfl, rfl, by decide +kernel, rfl, by decide +kernel, by decide +kernel⟩
theorem ok__law_take {f : Addr} {fd : FuncData} (F : Fun K "_law_take" "_law_take" s__law_take f fd) (m_int : mg "int" = none) : Told P w K mg base CX0 1 f fd ["_law_bag_here", "_law_many"] spTake := by
  refine told F sc__law_take (fun vs H Q E h => ?_) (fun cdv A outer s H vs Q E clr hr h => ?_)
  · obtain ⟨p, m, n, rfl, hB, hn, hm0, hm1, k⟩ := h
    rfl
  · obtain ⟨p, m, n, rfl, hB, hn, hm0, hm1, k⟩ := h
    refine ⟨_, (pss_cons (ps_if (pt_cmpR op_gt (pe_ix ix_list (pv 0) pe_int (fun _ _ => rfl)) pe_int (nomark _))
    (pss_cons (ps_set (i := 2) sc__law_take.nd rfl (Or.inl rfl) (pe_op op_mod (pe_callTy call_int1 (by rfl) m_int (by decide +kernel) (pa_cons (pe_ix ix_list (pv 0) pe_int (fun _ _ => rfl)) pa_nil)) (pv 1)))
    (pss_cons (ps_asg (pe_op op_fdiv (pe_ix ix_list (pv 0) pe_int (fun _ _ => rfl)) (pv 1)) (pg_sub (pv 0) pe_int set_list))
    (pss_one (ps_ret (pv 2)))))
    pss_nil)
    (pss_cons (ps_asg (pe_op op_add (pe_ix ix_list (pv 0) pe_int (fun _ _ => rfl)) pe_int) (pg_sub (pv 0) pe_int set_list))
    (pss_cons (ps_set (i := 3) sc__law_take.nd rfl (Or.inl rfl) (pe_op op_add (pe_ix ix_list (pv 0) pe_int (fun _ _ => rfl)) (pe_op op_mul pe_int (pe_ix ix_list (pv 0) pe_int (fun _ _ => rfl)))))
    (pss_cons (ps_set (i := 4) sc__law_take.nd rfl (Or.inl rfl) (pe_op op_mod (pe_callTy call_int1 (by rfl) m_int (by decide +kernel) (pa_cons (pe_op op_add (pe_op op_pow (pv 3) pe_int) (pe_op op_mul pe_int (pe_ix ix_list (pv 0) pe_int (fun _ _ => rfl)))) pa_nil)) pe_int))
    (pss_cons (ps_set (i := 4) sc__law_take.nd rfl (Or.inl rfl) (pe_op op_mod (pe_callTy call_int1 (by rfl) m_int (by decide +kernel) (pa_cons (pe_op op_add (pe_op op_add (pe_op op_mul (pv 4) (pv 4)) (pe_op op_mul pe_int (pe_ix ix_list (pv 0) pe_int (fun _ _ => rfl)))) pe_int) pa_nil)) pe_int))
    (pss_one (ps_ret (pe_op op_mod (pe_callTy call_int1 (by rfl) m_int (by decide +kernel) (pa_cons (pe_op op_fdiv (pv 4) pe_int) pa_nil)) (pv 1))))))))), ?_⟩
    obtain ⟨d, s, c, hp, hd, hs, hs2, hc, hcn⟩ := hB
    have k' : ∀ (r : Int) H', 0 ≤ r → r < m → But p H H' → BagAt H' p (n + 1) → Q (.int r) H' := by
      intro r H' h0 h1 hb hB
      obtain ⟨j, rfl⟩ := Int.eq_ofNat_of_zero_le h0
      exact k j H' (by omega) hb hB
    have hm : (0 : Int) < m := by omega
    have at0 : ∀ x y z : V, atI [x, y, z] 0 = some x := fun _ _ _ => rfl
    have at1 : ∀ x y z : V, atI [x, y, z] 1 = some y := fun _ _ _ => rfl
    have at2 : ∀ x y z : V, atI [x, y, z] 2 = some z := fun _ _ _ => rfl
    refine ⟨_, rfl, p, _, _, _, rfl, rfl, seq_of hp, at0 _ _ _, _, _, rfl, rfl, _, rfl, ite2 (fun _ => ?_) (fun _ => ?_)⟩
    · refine ⟨_, rfl, p, _, _, _, rfl, rfl, seq_of hp, at0 _ _ _, .inl ⟨_, rfl, _, rfl, _, _, rfl, rfl, hm, ?_⟩⟩
      refine ⟨_, rfl, p, _, _, _, rfl, rfl, seq_of hp, at0 _ _ _, _, rfl, _, _, rfl, rfl, ⟨hm, by omega⟩, _, rfl, p, _, _, _, rfl, rfl, hp, rfl, _, rfl, ?_⟩
      refine k' _ _ (Int.emod_nonneg _ (by omega)) (Int.emod_lt_of_pos _ hm) But.put ⟨_, _, _, upd_same, Int.ediv_nonneg hd (by omega), hs, hs2, hc, by omega⟩
    · refine ⟨_, rfl, p, _, _, _, rfl, rfl, seq_of hp, at2 _ _ _, _, _, rfl, rfl, _, rfl, p, _, _, _, rfl, rfl, hp, rfl, ?_⟩
      have hp' : (upd H p (.lst [.int d, .int s, .int (c + 1)])) p = some (.lst [.int d, .int s, .int (c + 1)]) := upd_same
      refine ⟨_, rfl, p, _, _, _, rfl, rfl, seq_of hp', at1 _ _ _, _, rfl, p, _, _, _, rfl, rfl, seq_of hp', at2 _ _ _, _, _, rfl, rfl, .inl ⟨by decide, by decide⟩, _, _, rfl, rfl, ?_⟩
      have hpl : (s + 15485863 * (c + 1)).natAbs < 2 ^ 64 := by omega
      refine ⟨_, rfl, _, _, rfl, rfl, ⟨by decide, by decide, hpl⟩, _, rfl, p, _, _, _, rfl, rfl, seq_of hp', at2 _ _ _, _, _, rfl, rfl, .inl ⟨by decide, by decide⟩, _, _, rfl, rfl, .inl ⟨_, rfl, _, _, rfl, rfl, (show (0 : Int) < 2305843009213693951 by decide), ?_⟩⟩
      generalize (s + 15485863 * (c + 1)) ^ (3 : Int).toNat + 104729 * (c + 1) = y
      refine ⟨_, rfl, _, rfl, _, _, rfl, rfl, .inl ⟨by omega, by omega⟩, _, rfl, p, _, _, _, rfl, rfl, seq_of hp', at1 _ _ _, _, _, rfl, rfl, .inl ⟨by decide, by decide⟩, _, _, rfl, rfl, _, _, rfl, rfl, .inl ⟨_, rfl, _, _, rfl, rfl, (show (0 : Int) < 2305843009213693921 by decide), ?_⟩⟩
      refine ⟨_, rfl, _, _, rfl, rfl, ⟨by decide, by decide⟩, .inl ⟨_, rfl, _, rfl, _, _, rfl, rfl, hm, ?_⟩⟩
      exact k' _ _ (Int.emod_nonneg _ (by omega)) (Int.emod_lt_of_pos _ hm) But.put ⟨d, s, c + 1, hp', hd, hs, hs2, by omega, by omega⟩

def spOf (K : PySem.W.Frag) : Sp := fun vs H Q _ => ∃ (p l : Addr) (n : Nat) (xs : List V), vs = [.ref p, .ref l] ∧ BagAt H p n ∧ n ≤ 100000 ∧ SqL K H l xs ∧ l ≠ p ∧ 0 < xs.length ∧ xs.length ≤ 1000000 ∧
  ∀ (j : Nat) (v : V) H', xs[j]? = some v → But p H H' → BagAt H' p (n + 1) → Q v H'
abbrev s__law_of : Stmt := topS 15
theorem sc__law_of : FnScope ["_law_bag_here", "_law_some"] ["_law_bag_here", "_law_some"] (defScope s__law_of) := ⟨rfl, rfl, rfl, by decide +kernel, rfl, by decide +kernel, by decide +kernel⟩
theorem ok__law_of {f : Addr} {fd : FuncData} (F : Fun K "_law_of" "_law_of" s__law_of f fd) (m_len : mg "len" = none) {f__law_take : Addr} {fd__law_take : FuncData} (G__law_take : Told P w K mg base CX0 1 f__law_take fd__law_take ["_law_bag_here", "_law_many"] spTake) (b__law_take : Binds K fd__law_take ["_law_bag_here", "_law_many"] []) (g__law_take : mg "_law_take" = some (.ref f__law_take)) (k__law_take : PySem.W.keepIn K (.ref f__law_take) = true) : Told P w K mg base CX0 2 f fd ["_law_bag_here", "_law_some"] (spOf K) := by
  refine told F sc__law_of (fun vs H Q E h => ?_) (fun cdv A outer s H vs Q E clr hr h => ?_)
  · obtain ⟨p, l, n, xs, rfl, hB, hn, hS, hne, h0, h1, k⟩ := h
    rfl
  · obtain ⟨p, l, n, xs, rfl, hB, hn, hS, hne, h0, h1, k⟩ := h
    refine ⟨_, (pss_one (ps_ret (pe_ix ix_list (pv 1) (pe_told G__law_take clr (hr.mono (by decide)) (by rfl) g__law_take k__law_take b__law_take .nil pass0 (pa_cons (pv 0) (pa_cons (pe_callB call_len_seq (by rfl) m_len PySem.boot_len (pa_cons (pv 1) pa_nil)) pa_nil))) (fun _ _ => rfl)))), ?_⟩
    refine ⟨_, rfl, _, rfl, _, rfl, l, xs, rfl, .inl hS, p, xs.length, n, rfl, hB, hn, h0, by omega, fun r H' hr hb hB' => ?_⟩
    exact ⟨l, xs, _, xs[r], rfl, rfl, hb.seq hne hS, atI_nat (List.getElem?_eq_getElem hr), k r _ _ (List.getElem?_eq_getElem hr) hb hB'⟩

def spNumber : Sp := fun vs H Q _ => ∃ (p : Addr) (n : Nat), vs = [.ref p] ∧ BagAt H p n ∧ n ≤ 50000 ∧ ∀ (N : Nat) H', N < 256 ^ 63 → But p H H' → BagAt H' p (n + 70) → Q (.int (N : Int)) H'
theorem bag_ne {H : Hp} {p l : Addr} {n : Nat} (b : BagAt H p n) (h : H l = none) : l ≠ p := fun e => by
  obtain ⟨d, s, k, hp, _⟩ := b
  rw [e, hp] at h
  cases h
abbrev s__law_number : Stmt := topS 16
theorem sc__law_number : FnScope ["_law_bag_here", "_law_road", "_law_number_here", "_law_turn"] ["_law_bag_here"] (defScope s__law_number) := ⟨rfl, rfl, rfl, by decide +kernel, rfl, by decide +kernel, by decide +kernel⟩
theorem ok__law_number {f : Addr} {fd : FuncData} (F : Fun K "_law_number" "_law_number" s__law_number f fd) (m_range : mg "range" = none) {f__law_take : Addr} {fd__law_take : FuncData} (G__law_take : Told P w K mg base CX0 1 f__law_take fd__law_take ["_law_bag_here", "_law_many"] spTake) (b__law_take : Binds K fd__law_take ["_law_bag_here", "_law_many"] []) (g__law_take : mg "_law_take" = some (.ref f__law_take)) (k__law_take : PySem.W.keepIn K (.ref f__law_take) = true) {f__law_of : Addr} {fd__law_of : FuncData} (G__law_of : Told P w K mg base CX0 2 f__law_of fd__law_of ["_law_bag_here", "_law_some"] (spOf K)) (b__law_of : Binds K fd__law_of ["_law_bag_here", "_law_some"] []) (g__law_of : mg "_law_of" = some (.ref f__law_of)) (k__law_of : PySem.W.keepIn K (.ref f__law_of) = true) : Told P w K mg base CX0 3 f fd ["_law_bag_here"] spNumber := by
  refine told F sc__law_number (fun vs H Q E h => ?_) (fun cdv A outer s H vs Q E clr hr h => ?_)
  · obtain ⟨p, n, rfl, hB, hn, k⟩ := h
    rfl
  · obtain ⟨p, n, rfl, hB, hn, k⟩ := h
    refine ⟨_, (pss_cons (ps_set (i := 1) sc__law_number.nd rfl (Or.inl rfl) (pe_told G__law_take clr (hr.mono (by decide)) (by rfl) g__law_take k__law_take b__law_take .nil pass0 (pa_cons (pv 0) (pa_cons pe_int pa_nil))))
    (pss_cons (ps_if (pt_cmpR op_eq (pv 1) pe_int (nomark _))
    (pss_one (ps_ret (pe_told G__law_of clr (hr.mono (by decide)) (by rfl) g__law_of k__law_of b__law_of .nil pass0 (pa_cons (pv 0) (pa_cons (pe_lst (pa_cons pe_int (pa_cons pe_int (pa_cons pe_int (pa_cons pe_int (pa_cons pe_int (pa_cons pe_int (pa_cons pe_int (pa_cons pe_int (pa_cons pe_int (pa_cons pe_int (pa_cons pe_int (pa_cons (pe_op op_pow pe_int pe_int) (pa_cons (pe_op op_sub (pe_op op_pow pe_int pe_int) pe_int) pa_nil)))))))))))))) pa_nil)))))
    pss_nil)
    (pss_cons (ps_if (pt_cmpR op_eq (pv 1) pe_int (nomark _))
    (pss_one (ps_ret (pe_told G__law_take clr (hr.mono (by decide)) (by rfl) g__law_take k__law_take b__law_take .nil pass0 (pa_cons (pv 0) (pa_cons pe_int pa_nil)))))
    pss_nil)
    (pss_cons (ps_set (i := 2) sc__law_number.nd rfl (Or.inl rfl) pe_int)
    (pss_cons (ps_for PassesOwn.never rfl (pi_range1 (by rfl) m_range (pa_cons (pe_op op_add pe_int (pe_told G__law_take clr (hr.mono (by decide)) (by rfl) g__law_take k__law_take b__law_take .nil pass0 (pa_cons (pv 0) (pa_cons (pe_ix ix_list (pe_lst (pa_cons pe_int (pa_cons pe_int pa_nil))) (pe_op op_sub (pv 1) pe_int) (fun _ _ => rfl)) pa_nil)))) pa_nil)) (pg_name (i := 3) sc__law_number.nd rfl (Or.inl rfl))
    (pss_one (ps_set (i := 2) sc__law_number.nd rfl (Or.inl rfl) (pe_op op_add (pe_op op_mul (pv 2) pe_int) (pe_told G__law_take clr (hr.mono (by decide)) (by rfl) g__law_take k__law_take b__law_take .nil pass0 (pa_cons (pv 0) (pa_cons pe_int pa_nil)))))))
    (pss_one (ps_ret (pv 2)))))))), ?_⟩
    refine ⟨_, rfl, p, 4, n, rfl, hB, by omega, by decide, by decide, fun r H1 hr b1 B1 => ?_⟩
    refine ⟨_, rfl, rfl, _, rfl, ite2 (fun e => ?_) (fun e0 => ?_)⟩
    · refine ⟨_, rfl, _, _, rfl, rfl, ⟨by decide, by decide, by decide⟩, _, _, rfl, rfl, ⟨by decide, by decide, by decide⟩, _, _, rfl, rfl, sz (show 13 ≤ 1000000 by decide), fun l hl => ?_⟩
      refine ⟨p, l, n + 1, _, rfl, B1.same (same_new hl), by omega, seq_new, bag_ne B1 hl, by decide, by decide, fun j v H2 hv b2 B2 => ?_⟩
      have all : ∀ x ∈ ([.int 0, .int 1, .int 190, .int 191, .int 192, .int 193, .int 255, .int 256, .int 257, .int 65535, .int 65536, .int (256 ^ (62 : Int).toNat), .int (256 ^ (63 : Int).toNat - 1)] : List V), ∃ N : Nat, x = .int (N : Int) ∧ N < 256 ^ 63 := by
        intro x hx
        simp only [List.mem_cons, List.not_mem_nil, or_false] at hx
        rcases hx with rfl | rfl | rfl | rfl | rfl | rfl | rfl | rfl | rfl | rfl | rfl | rfl | rfl
        · exact ⟨0, rfl, by decide⟩
        · exact ⟨1, rfl, by decide⟩
        · exact ⟨190, rfl, by decide⟩
        · exact ⟨191, rfl, by decide⟩
        · exact ⟨192, rfl, by decide⟩
        · exact ⟨193, rfl, by decide⟩
        · exact ⟨255, rfl, by decide⟩
        · exact ⟨256, rfl, by decide⟩
        · exact ⟨257, rfl, by decide⟩
        · exact ⟨65535, rfl, by decide⟩
        · exact ⟨65536, rfl, by decide⟩
        · exact ⟨256 ^ 62, by decide +kernel, by decide +kernel⟩
        · exact ⟨256 ^ 63 - 1, by decide +kernel, by decide +kernel⟩
      obtain ⟨N, rfl, hN⟩ := all v (List.mem_of_getElem? hv)
      exact k N H2 hN ((b1.same (same_new hl)).trans b2) (B2.mono (by omega))
    · refine ⟨_, rfl, rfl, _, rfl, ite2 (fun e => ?_) (fun e1 => ?_)⟩
      · refine ⟨_, rfl, p, 400, n + 1, rfl, B1, by omega, by decide, by decide, fun r2 H2 hr2 b2 B2 => ?_⟩
        exact k r2 H2 (Nat.lt_trans hr2 (by decide +kernel)) (b1.trans b2) (B2.mono (by omega))
      · have hr0 : r ≠ 0 := fun z => e0 (decide_eq_true (by rw [z]; rfl))
        have hr1 : r ≠ 1 := fun z => e1 (decide_eq_true (by rw [z]; rfl))
        have at2 : ∃ m : Nat, atI [V.int 3, V.int 63] ((r : Int) - 2) = some (.int (m : Int)) ∧ 0 < m ∧ m ≤ 63 := by
          have : r = 2 ∨ r = 3 := by omega
          rcases this with rfl | rfl
          · exact ⟨3, rfl, by decide, by decide⟩
          · exact ⟨63, rfl, by decide, by decide⟩
        obtain ⟨m, hat, hm0, hm1⟩ := at2
        refine ⟨_, rfl, sz (show 2 ≤ 1000000 by decide), fun l hl => ?_⟩
        refine ⟨_, rfl, _, _, rfl, rfl, l, _, _, _, rfl, rfl, seq_new, hat, p, m, n + 1, rfl, B1.same (same_new hl), by omega, hm0, by omega, fun t H2 ht b2 B2 => ?_⟩
        have b12 := (b1.same (same_new hl)).trans b2
        refine ⟨_, _, rfl, rfl, _, rfl, by omega, by omega, ?_⟩
        have en : ((1 : Int) + (t : Int)).toNat = t + 1 := by omega
        rw [en]
        refine for_range (lo := 0) (n := t + 1) (fun i σ H' => ∃ (z : Nat) (v : Option V), σ = [some (.ref p), some (.int (r : Int)), some (.int (z : Int)), v] ∧ z < 256 ^ i ∧ But p H H' ∧ BagAt H' p (n + 2 + i)) ⟨0, _, rfl, by decide, b12, B2⟩ ?_ ?_
        · rintro i σ H' hi ⟨z, v, rfl, hz, b3, B3⟩
          refine ⟨_, rfl, _, _, rfl, rfl, .inr ⟨by decide, by decide⟩, _, rfl, p, 256, n + 2 + i, rfl, B3, by omega, by decide, by decide, fun r3 H3 hr3 b4 B4 => ?_⟩
          refine ⟨_, _, rfl, rfl, z * 256 + r3, some (.int (0 + (i : Int))), ?_, ?_, b3.trans b4, B4⟩
          · rw [Int.natCast_add, Int.natCast_mul]
            rfl
          · rw [Nat.pow_succ]
            omega
        · rintro σ H' ⟨z, v, rfl, hz, b3, B3⟩
          refine ⟨_, rfl, k z H' (Nat.lt_of_lt_of_le hz (Nat.pow_le_pow_right (by decide) (by omega))) b3 (B3.mono (by omega))⟩

def spCode : Sp := fun vs H Q _ => ∃ (N : Nat), vs = [.int (N : Int)] ∧ N < 256 ^ 63 ∧ ∀ q H', Same H H' → H q = none → H' q = some (.lst ((codeN N).map vN)) → Q (.ref q) H'
def muNum (σ : L2.St) (_ : Hp) : Nat := match σ with
  | some (.int z) :: _ => z.toNat
  | _ => 0
abbrev s__law_code : Stmt := topS 17
theorem sc__law_code : FnScope ["_law_number_here", "_law_digits"] ["_law_number_here"] (defScope s__law_code) := ⟨rfl, rfl, rfl, by decide +kernel, rfl, by decide +kernel, by decide +kernel⟩
theorem ok__law_code {f : Addr} {fd : FuncData} (F : Fun K "_law_code" "_law_code" s__law_code f fd) (m_int : mg "int" = none) (m_len : mg "len" = none) : Told P w K mg base CX0 1 f fd ["_law_number_here"] spCode := by
  refine told F sc__law_code (fun vs H Q E h => ?_) (fun cdv A outer s H vs Q E clr hr h => ?_)
  · obtain ⟨N, rfl, hN, k⟩ := h
    rfl
  · obtain ⟨N, rfl, hN, k⟩ := h
    refine ⟨_, (pss_cons (ps_if (pt_cmpR op_lt (pv 0) pe_int (nomark _))
    (pss_one (ps_ret (pe_lst (pa_cons (pv 0) pa_nil))))
    pss_nil)
    (pss_cons (ps_set (i := 1) sc__law_code.nd rfl (Or.inl rfl) (pe_lst pa_nil))
    (pss_cons (ps_while PassesOwn.never (pt_cmpR op_gt (pv 0) pe_int (nomark _))
    (pss_cons (ps_set (i := 1) sc__law_code.nd rfl (Or.inl rfl) (pe_op op_cat (pe_lst (pa_cons (pe_op op_mod (pe_callTy call_int1 (by rfl) m_int (by decide +kernel) (pa_cons (pv 0) pa_nil)) pe_int) pa_nil)) (pv 1)))
    (pss_one (ps_set (i := 0) sc__law_code.nd rfl (Or.inl rfl) (pe_op op_fdiv (pv 0) pe_int)))))
    (pss_one (ps_ret (pe_op op_cat (pe_lst (pa_cons (pe_op op_add pe_int (pe_callB call_len_seq (by rfl) m_len PySem.boot_len (pa_cons (pv 1) pa_nil))) pa_nil)) (pv 1))))))), ?_⟩
    refine ⟨_, rfl, _, _, rfl, rfl, _, rfl, ite2 (fun e => ?_) (fun e => ?_)⟩
    · have hs : N < 192 := by
        have := of_decide_eq_true e
        omega
      refine ⟨_, rfl, sz (show 1 ≤ 1000000 by decide), fun q hq => k q _ (same_new hq) hq ?_⟩
      rw [upd_same, codeN_small hs]
      rfl
    · have hs : ¬ N < 192 := fun z => e (decide_eq_true (by omega))
      refine ⟨Nat.zero_le _, fun l0 hl0 => ?_⟩
      refine while_by (fun σ H' => ∃ (n : Nat) (l : Addr) (ds : List Nat), σ = [some (.int (n : Int)), some (.ref l)] ∧ digs N = digs n ++ ds ∧ Same H H' ∧ H l = none ∧ H' l = some (.lst (ds.map vN))) muNum
        ⟨N, l0, [], rfl, by rw [List.append_nil], same_new hl0, hl0, upd_same⟩ ?_ (fun σ H Q Q' h ⟨v, e, i, j, e1, e2, b, eb, q⟩ => ⟨v, e, i, j, e1, e2, b, eb, h _ _ q⟩)
      rintro σ H' ⟨n, l, ds, rfl, ed, sm, nl, hl⟩
      have len63 : (digs n).length + ds.length ≤ 63 := by
        have := digs_len_le 63 N hN
        rw [ed, List.length_append] at this
        exact this
      refine ⟨_, rfl, _, _, rfl, rfl, _, rfl, ite2 (fun e => ?_) (fun e => ?_)⟩
      · have hn : n ≠ 0 := by
          have := of_decide_eq_true e
          omega
        refine ⟨_, rfl, .inl ⟨_, rfl, _, _, rfl, rfl, (show (0 : Int) < 256 by decide), sz (show 1 ≤ 1000000 by decide), fun l2 hl2 => ?_⟩⟩
        have hl' : (upd H' l2 (.lst [.int ((n : Int) % 256)])) l = some (.lst (ds.map vN)) := by
          rw [upd_ne (ne_of_none hl hl2)]
          exact hl
        refine ⟨_, rfl, _, _, _, _, rfl, rfl, upd_same, hl', ?_, fun l3 hl3 => ?_⟩
        · refine sz ?_
          rw [List.length_map]
          show 1 + ds.length ≤ _
          omega
        · refine ⟨_, rfl, _, _, rfl, rfl, ⟨by decide, by decide⟩, ⟨n / 256, l3, n % 256 :: ds, ?_, ?_, ?_, ?_, ?_⟩, ?_⟩
          · rw [Int.natCast_ediv]
            rfl
          · rw [ed, digs_pos hn, List.append_assoc]
            rfl
          · exact sm.trans ((same_new hl2).trans (same_new hl3))
          · exact sm.free ((same_new hl2).free hl3)
          · rw [upd_same, List.map_cons]
            rfl
          · show ((n : Int) / 256).toNat < (n : Int).toNat
            omega
      · have hn : n = 0 := by
          by_cases z : n = 0
          · exact z
          · exact absurd (decide_eq_true (by omega)) e
        subst hn
        rw [digs_zero, List.nil_append] at ed
        refine ⟨_, rfl, l, _, rfl, .inl (seq_of hl), _, _, rfl, rfl, sz (show 1 ≤ 1000000 by decide), fun l2 hl2 => ?_⟩
        have hl' : (upd H' l2 (.lst [.int (191 + ((ds.map vN).length : Int))])) l = some (.lst (ds.map vN)) := by
          rw [upd_ne (ne_of_none hl hl2)]
          exact hl
        refine ⟨_, rfl, _, _, _, _, rfl, rfl, upd_same, hl', ?_, fun l3 hl3 => ?_⟩
        · refine sz ?_
          rw [List.length_map]
          show 1 + ds.length ≤ _
          omega
        · refine k l3 _ (sm.trans ((same_new hl2).trans (same_new hl3))) (sm.free ((same_new hl2).free hl3)) ?_
          rw [upd_same, codeN_big hs, ed, List.length_map]
          rfl

/-- is_int: an int; a bool; a thing of another type -/
def spIsInt (K : PySem.W.Frag) : Sp := fun vs H Q _ => ∃ x : V, vs = [x] ∧ ((∃ i, x = .int i ∧ Q (.bl true) H) ∨ (∃ b, x = .bl b ∧ Q (.bl false) H) ∨ (∃ t : String, TyX K H x (.type t) ∧ kitB t "int" = some false ∧ Q (.bl false) H))
abbrev s_is_int : Stmt := topS 8
theorem sc_is_int : FnScope ["thing"] ["thing"] (defScope s_is_int) := ⟨rfl, rfl, rfl, by decide +kernel, rfl, by decide +kernel, by decide +kernel⟩
theorem ok_is_int {f : Addr} {fd : FuncData} (F : Fun K "is_int" "is_int" s_is_int f fd) (m_isinstance : mg "isinstance" = none) (m_bool : mg "bool" = none) (m_int : mg "int" = none) : Told P w K mg base CX0 1 f fd ["thing"] (spIsInt K) := by
  refine told F sc_is_int (fun vs H Q E h => ?_) (fun cdv A outer s H vs Q E clr hr h => ?_)
  · obtain ⟨x, rfl, h⟩ := h
    rfl
  · obtain ⟨x, rfl, h⟩ := h
    refine ⟨_, (pss_one (ps_ret (pe_and (pe_callB call_isi (by rfl) m_isinstance (by decide +kernel) (pa_cons (pv 0) (pa_cons (pe_bltn (by rfl) m_int (by decide +kernel) (show RelV (.ty "int") (.type "int") from rfl)) pa_nil))) (pe_one (pe_not (pe_callB call_isi (by rfl) m_isinstance (by decide +kernel) (pa_cons (pv 0) (pa_cons (pe_bltn (by rfl) m_bool (by decide +kernel) (show RelV (.ty "bool") (.type "bool") from rfl)) pa_nil)))))))), ?_⟩
    rcases h with ⟨i, rfl, q⟩ | ⟨b, rfl, q⟩ | ⟨t, ty, kt, q⟩
    · refine ⟨_, rfl, _, _, _, _, _, rfl, .ty "int", .base (.int i), kit_ty (by decide +kernel), _, rfl, iteT ?_⟩
      refine ⟨_, rfl, _, _, _, _, _, rfl, .ty "bool", .base (.int i), kit_ty (b := "bool") (r := false) (by decide +kernel), _, rfl, q⟩
    · refine ⟨_, rfl, _, _, _, _, _, rfl, .ty "int", .base (.bl b), kit_ty (by decide +kernel), _, rfl, iteT ?_⟩
      refine ⟨_, rfl, _, _, _, _, _, rfl, .ty "bool", .base (.bl b), kit_ty (b := "bool") (r := true) (by decide +kernel), _, rfl, q⟩
    · exact ⟨_, rfl, _, _, _, _, _, rfl, .ty "int", ty, kit_ty kt, _, rfl, iteF q⟩

def spIsNumber (K : PySem.W.Frag) : Sp := fun vs H Q _ => ∃ x : V, vs = [x] ∧ ((∃ i : Int, x = .int i ∧ Q (.bl (decide (0 ≤ i ∧ i < 256 ^ 63))) H) ∨ (∃ b, x = .bl b ∧ Q (.bl false) H) ∨ (∃ t : String, TyX K H x (.type t) ∧ kitB t "int" = some false ∧ Q (.bl false) H))
abbrev s_is_number : Stmt := topS 9
theorem sc_is_number : FnScope ["thing"] ["thing"] (defScope s_is_number) := ⟨rfl, rfl, rfl, by decide +kernel, rfl, by decide +kernel, by decide +kernel⟩
theorem ok_is_number {f : Addr} {fd : FuncData} (F : Fun K "is_number" "is_number" s_is_number f fd) {t_MOST : Tok} (g_MOST : mg "MOST" = some (.int (52374249726338269920211035149241586435466272736689036631732661889538140742474792878132321477214466514414186946040961136147476104734166288853256441430015) t_MOST)) {f_is_int : Addr} {fd_is_int : FuncData} (G_is_int : Told P w K mg base CX0 1 f_is_int fd_is_int ["thing"] (spIsInt K)) (b_is_int : Binds K fd_is_int ["thing"] []) (g_is_int : mg "is_int" = some (.ref f_is_int)) (k_is_int : PySem.W.keepIn K (.ref f_is_int) = true) : Told P w K mg base CX0 2 f fd ["thing"] (spIsNumber K) := by
  refine told F sc_is_number (fun vs H Q E h => ?_) (fun cdv A outer s H vs Q E clr hr h => ?_)
  · obtain ⟨x, rfl, h⟩ := h
    rfl
  · obtain ⟨x, rfl, h⟩ := h
    refine ⟨_, (pss_one (ps_ret (pe_and (pe_told G_is_int clr (hr.mono (by decide)) (by rfl) g_is_int k_is_int b_is_int .nil pass0 (pa_cons (pv 0) pa_nil)) (pe_one (pe_chain op_le op_le pe_int (pv 0) (pe_glob (v := .int (52374249726338269920211035149241586435466272736689036631732661889538140742474792878132321477214466514414186946040961136147476104734166288853256441430015)) (by rfl) g_MOST ⟨_, rfl⟩)))))), ?_⟩
    rcases h with ⟨i, rfl, q⟩ | ⟨b, rfl, q⟩ | ⟨t, ty, kt, q⟩
    · refine ⟨_, rfl, _, rfl, .inl ⟨i, rfl, _, rfl, iteT ?_⟩⟩
      refine ⟨_, rfl, _, _, rfl, rfl, _, rfl, ite2 (fun e => ?_) (fun e => ?_)⟩
      · have h0 : 0 ≤ i := of_decide_eq_true e
        have most : (256 : Int) ^ 63 = 52374249726338269920211035149241586435466272736689036631732661889538140742474792878132321477214466514414186946040961136147476104734166288853256441430016 := by decide +kernel
        rw [most] at q
        refine ⟨_, _, rfl, rfl, ?_⟩
        by_cases c : i < 52374249726338269920211035149241586435466272736689036631732661889538140742474792878132321477214466514414186946040961136147476104734166288853256441430016
        · rw [decide_eq_true ⟨h0, c⟩] at q
          dsimp only
          rw [decide_eq_true (by omega)]
          exact q
        · rw [decide_eq_false (fun z => c z.2)] at q
          dsimp only
          rw [decide_eq_false (by omega)]
          exact q
      · rw [decide_eq_false (fun z : 0 ≤ i ∧ i < 256 ^ 63 => e (decide_eq_true z.1))] at q
        exact q
    · exact ⟨_, rfl, _, rfl, .inr (.inl ⟨b, rfl, _, rfl, iteF q⟩)⟩
    · exact ⟨_, rfl, _, rfl, .inr (.inr ⟨t, ty, kt, _, rfl, iteF q⟩)⟩

def spDigs : Sp := fun vs H Q _ => ∃ (N : Nat), vs = [.int (N : Int)] ∧ N < 256 ^ 63 ∧ ∀ q H', Same H H' → H q = none → H' q = some (.lst ((digs N).map vN)) → Q (.ref q) H'
theorem shr_and (N k : Nat) : ((N : Int) / 2 ^ ((8 : Int) * (k : Int)).toNat) % 2 ^ 8 = ((N / 256 ^ k % 256 : Nat) : Int) := by
  have e : ((8 : Int) * (k : Int)).toNat = 8 * k := by omega
  rw [e, Nat.pow_mul (a := 2) (m := 8) (n := k) |> fun z => (by exact_mod_cast congrArg (Nat.cast : Nat → Int) z : (2 : Int) ^ (8 * k) = (2 ^ 8 : Nat) ^ k)]
  simp
abbrev s_base_256 : Stmt := topS 10
theorem sc_base_256 : FnScope ["number", "many", "place"] ["number"] (defScope s_base_256) := ⟨rfl, rfl, rfl, by decide +kernel, rfl, by decide +kernel, by decide +kernel⟩
theorem ok_base_256 {f : Addr} {fd : FuncData} (F : Fun K "base_256" "base_256" s_base_256 f fd) (m_range : mg "range" = none) : Told P w K mg base CX0 1 f fd ["number"] spDigs := by
  refine told F sc_base_256 (fun vs H Q E h => ?_) (fun cdv A outer s H vs Q E clr hr h => ?_)
  · obtain ⟨N, rfl, hN, k⟩ := h
    rfl
  · obtain ⟨N, rfl, hN, k⟩ := h
    refine ⟨_, (pss_cons (ps_set (i := 1) sc_base_256.nd rfl (Or.inl rfl) (pe_op op_fdiv (pe_op op_add (pe_bits (pv 0)) pe_int) pe_int))
    (pss_one (ps_ret (pe_lc (own := [("place", 2)]) (g := gName 2) (tt := tYes) rfl sc_base_256.nd (pi_range3 (by rfl) m_range (pa_cons (pe_op op_sub (pv 1) pe_int) (pa_cons (pe_un un_neg pe_int) (pa_cons (pe_un un_neg pe_int) pa_nil)))) (blkOk_by (N := ["number", "many", "place"]) (sc := defScope s_base_256) (by decide +kernel)) (fun _ _ _ _ _ => pg_name (i := 2) sc_base_256.nd rfl (Or.inl rfl)) (fun _ _ _ _ _ => pts_nil) (fun _ _ _ _ _ => (pe_op op_andM (pe_op op_shr (pv 0) (pe_op op_mul pe_int (pv 2))) pe_int)))))), ?_⟩
    refine ⟨_, rfl, _, rfl, _, _, rfl, rfl, _, _, rfl, rfl, ⟨by decide, by decide⟩, ?_⟩
    have hm : ((Builtin.Int.intBits (N : Int) : Nat) + 7 : Int) / 8 = ((digs N).length : Int) := by
      rw [digs_len N]
      omega
    have h63 := digs_len_le 63 N hN
    generalize hL : (digs N).length = L at hm h63
    refine ⟨_, rfl, _, _, rfl, rfl, _, rfl, _, rfl, _, _, _, _, rfl, RgC.neg ?_ ?_ (by decide) (by decide), fun D hD => ?_⟩
    · rw [hm]
      omega
    · rw [hm]
      omega
    have turns : ((Builtin.Int.intBits (N : Int) + 7 : Int) / 8 - 1 - -1).toNat = L := by
      rw [hm]
      omega
    show ∃ W : Nat → Nat → Hp → Prop, _
    rw [turns]
    refine lc_it walk_rangeC (fun i H' => Same H H' ∧ H' D = some (.lst (((digs N).take i).map vN))) ⟨same_new hD, upd_same⟩ (fun _ _ _ _ => trivial) ?_ ?_
    · rintro i x H' _ hi ⟨sm, hd⟩ ⟨rfl, rfl⟩
      have ep : (Builtin.Int.intBits (N : Int) + 7 : Int) / 8 - 1 + (i : Int) * -1 = ((L - 1 - i : Nat) : Int) := by
        rw [hm]
        omega
      refine ⟨rfl, _, rfl, _, rfl, _, _, rfl, rfl, .inl ⟨by decide, by decide⟩, _, _, rfl, rfl, ?_, _, 8, rfl, rfl, _, hd, ?_, ?_, ?_⟩
      · rw [ep]
        omega
      · rw [List.length_map, List.length_take]
        exact sz_lt (by omega)
      · exact fun b o z => by
          have hne : b ≠ D := ne_of_none z hD
          rw [upd_ne hne]
          exact sm b o z
      · rw [upd_same, ep]
        have g := digs_at N i (by omega)
        rw [hL] at g
        rw [List.take_add_one, g, List.map_append]
        show some (HO.lst (_ ++ [V.int _])) = _
        rw [shr_and]
        rfl
    · rintro H' ⟨sm, hd⟩
      refine k D H' sm hD ?_
      rw [hd, List.take_of_length_le (by omega)]

abbrev sI_BadNumber : Stmt := inClass (topS 2) 0
theorem okI_BadNumber {f : Addr} {fd : FuncData} (F : Fun K "__init__" "BadNumber.__init__" sI_BadNumber f fd) : FnOk P w K mg base CX0 1 f fd ["self", "number"] (spInit K "number") :=
  ok_initBy F ⟨rfl, rfl, rfl, by decide +kernel, rfl, by decide +kernel, by decide +kernel⟩ fun _ _ _ _ _ _ => pss_one (ps_ost (pv 0) (pv 1))
abbrev sI_BadValue : Stmt := inClass (topS 3) 0
theorem okI_BadValue {f : Addr} {fd : FuncData} (F : Fun K "__init__" "BadValue.__init__" sI_BadValue f fd) : FnOk P w K mg base CX0 1 f fd ["self", "path"] (spInit K "path") :=
  ok_initBy F ⟨rfl, rfl, rfl, by decide +kernel, rfl, by decide +kernel, by decide +kernel⟩ fun _ _ _ _ _ _ => pss_one (ps_ost (pv 0) (pv 1))
def NoNum (K : PySem.W.Frag) (H : Hp) (x : V) : Prop := (∃ i : Int, x = .int i ∧ ¬ (0 ≤ i ∧ i < 256 ^ 63)) ∨ (∃ b, x = .bl b) ∨ (∃ t : String, TyX K H x (.type t) ∧ kitB t "int" = some false)
def spNumCode (K : PySem.W.Frag) (C : Addr) : Sp := fun vs H Q E => ∃ x : V, vs = [x] ∧ ((∃ N : Nat, x = .int (N : Int) ∧ N < 256 ^ 63 ∧ ∀ q H', Same H H' → H q = none → H' q = some (.lst ((codeN N).map vN)) → Q (.ref q) H') ∨
  (NoNum K H x ∧ ∀ d H', H d = none → Same H H' → H' d = some (.xd [("number", x)]) → E (.ref C) (some d) H'))
abbrev s_number_code : Stmt := topS 11
theorem sc_number_code : FnScope ["number", "digits"] ["number"] (defScope s_number_code) := ⟨rfl, rfl, rfl, by decide +kernel, rfl, by decide +kernel, by decide +kernel⟩
theorem ok_number_code {f : Addr} {fd : FuncData} (F : Fun K "number_code" "number_code" s_number_code f fd) (m_len : mg "len" = none) {t_FIRST_LONG : Tok} (g_FIRST_LONG : mg "FIRST_LONG" = some (.int (192) t_FIRST_LONG)) {t_LONG : Tok} (g_LONG : mg "LONG" = some (.int (191) t_LONG)) {c_BadNumber : Addr} (E_BadNumber : Err P w K mg base "BadNumber" "number" c_BadNumber) {f_is_number : Addr} {fd_is_number : FuncData} (G_is_number : Told P w K mg base CX0 2 f_is_number fd_is_number ["thing"] (spIsNumber K)) (b_is_number : Binds K fd_is_number ["thing"] []) (g_is_number : mg "is_number" = some (.ref f_is_number)) (k_is_number : PySem.W.keepIn K (.ref f_is_number) = true) {f_base_256 : Addr} {fd_base_256 : FuncData} (G_base_256 : Told P w K mg base CX0 1 f_base_256 fd_base_256 ["number"] spDigs) (b_base_256 : Binds K fd_base_256 ["number"] []) (g_base_256 : mg "base_256" = some (.ref f_base_256)) (k_base_256 : PySem.W.keepIn K (.ref f_base_256) = true) : Told P w K mg base (L2.CX P w) 3 f fd ["number"] (spNumCode K c_BadNumber) := by
  refine toldX F sc_number_code (fun vs H Q E h => ?_) (fun cdv A outer s H vs Q E clr hr h => ?_)
  · obtain ⟨x, rfl, hx⟩ := h
    rfl
  · obtain ⟨x, rfl, hx⟩ := h
    refine ⟨_, (pss_cons (ps_if (pt_not (pt_val (pe_told G_is_number clr (hr.mono (by decide)) (by rfl) g_is_number k_is_number b_is_number .nil pass0 (pa_cons (pv 0) pa_nil))))
    (pss_one (ps_raise rfl (takes_of rfl rfl rfl rfl) (pmk_err E_BadNumber (hr.mono (by decide)) (by rfl) (pa_cons (pv 0) pa_nil))))
    pss_nil)
    (pss_cons (ps_if (pt_cmpR op_lt (pv 0) (pe_glob (v := .int (192)) (by rfl) g_FIRST_LONG ⟨_, rfl⟩) (nomark _))
    (pss_one (ps_ret (pe_lst (pa_cons (pv 0) pa_nil))))
    pss_nil)
    (pss_cons (ps_set (i := 1) sc_number_code.nd rfl (Or.inl rfl) (pe_told G_base_256 clr (hr.mono (by decide)) (by rfl) g_base_256 k_base_256 b_base_256 .nil pass0 (pa_cons (pv 0) pa_nil)))
    (pss_one (ps_ret (pe_op op_cat (pe_lst (pa_cons (pe_op op_add (pe_glob (v := .int (191)) (by rfl) g_LONG ⟨_, rfl⟩) (pe_callB call_len_seq (by rfl) m_len PySem.boot_len (pa_cons (pv 1) pa_nil))) pa_nil)) (pv 1))))))), ?_⟩
    rcases hx with ⟨N, rfl, hN, k⟩ | ⟨no, k⟩
    · have inR : decide (0 ≤ (N : Int) ∧ (N : Int) < 256 ^ 63) = true := decide_eq_true ⟨by omega, by exact_mod_cast hN⟩
      refine ⟨_, rfl, _, rfl, .inl ⟨_, rfl, ?_⟩⟩
      rw [inR]
      refine ⟨_, rfl, iteF ?_⟩
      refine ⟨_, rfl, _, _, rfl, rfl, _, rfl, ite2 (fun e => ?_) (fun e => ?_)⟩
      · have hs : N < 192 := by
          have := of_decide_eq_true e
          omega
        refine ⟨_, rfl, sz (show 1 ≤ 1000000 by decide), fun q hq => k q _ (same_new hq) hq ?_⟩
        rw [upd_same, codeN_small hs]
        rfl
      · have hs : ¬ N < 192 := fun z => e (decide_eq_true (by omega))
        refine ⟨_, rfl, N, rfl, hN, fun l H1 sm nl hl => ?_⟩
        have h63 := digs_len_le 63 N hN
        refine ⟨_, rfl, l, _, rfl, .inl (seq_of hl), _, _, rfl, rfl, sz (show 1 ≤ 1000000 by decide), fun l2 hl2 => ?_⟩
        have hl' : (upd H1 l2 (.lst [.int (191 + (((digs N).map vN).length : Int))])) l = some (.lst ((digs N).map vN)) := by
          rw [upd_ne (ne_of_none hl hl2)]
          exact hl
        refine ⟨_, rfl, _, _, _, _, rfl, rfl, upd_same, hl', ?_, fun l3 hl3 => ?_⟩
        · refine sz ?_
          rw [List.length_map]
          show 1 + (digs N).length ≤ _
          omega
        · refine k l3 _ (sm.trans ((same_new hl2).trans (same_new hl3))) (sm.free ((same_new hl2).free hl3)) ?_
          rw [upd_same, codeN_big hs, List.length_map]
          rfl
    · refine ⟨_, rfl, x, rfl, ?_⟩
      rcases no with ⟨i, rfl, hi⟩ | ⟨b, rfl⟩ | ⟨t, ty, kt⟩
      · refine .inl ⟨i, rfl, ?_⟩
        rw [decide_eq_false hi]
        exact ⟨_, rfl, iteT ⟨_, rfl, err_made E_BadNumber.T E_BadNumber.no k⟩⟩
      · exact .inr (.inl ⟨b, rfl, _, rfl, iteT ⟨_, rfl, err_made E_BadNumber.T E_BadNumber.no k⟩⟩)
      · exact .inr (.inr ⟨t, ty, kt, _, rfl, iteT ⟨_, rfl, err_made E_BadNumber.T E_BadNumber.no k⟩⟩)

def spRefused (K : PySem.W.Frag) : Sp := fun vs H Q _ => ∃ (x : V) (d : PyData), vs = [x] ∧ NoNum K H x ∧ Dp K H x d ∧ Shows d ∧ ∀ H', Same H H' → Q (.bl true) H'
abbrev s__law_refused : Stmt := topS 18
theorem sc__law_refused : FnScope ["_law_thing", "e"] ["_law_thing"] (defScope s__law_refused) := ⟨rfl, rfl, rfl, by decide +kernel, rfl, by decide +kernel, by decide +kernel⟩
theorem ok__law_refused {f : Addr} {fd : FuncData} (F : Fun K "_law_refused" "_law_refused" s__law_refused f fd) (m_isinstance : mg "isinstance" = none) (m_ValueError : mg "ValueError" = none) (m_repr : mg "repr" = none) {c_ShortestBytesError : Addr} (g_ShortestBytesError : mg "ShortestBytesError" = some (.ref c_ShortestBytesError)) {c_BadValue : Addr} (E_BadValue : Err P w K mg base "BadValue" "path" c_BadValue) {c_BadNumber : Addr} (E_BadNumber : Err P w K mg base "BadNumber" "number" c_BadNumber) {f_number_code : Addr} {fd_number_code : FuncData} (G_number_code : Told P w K mg base (L2.CX P w) 3 f_number_code fd_number_code ["number"] (spNumCode K c_BadNumber)) (b_number_code : Binds K fd_number_code ["number"] []) (g_number_code : mg "number_code" = some (.ref f_number_code)) (k_number_code : PySem.W.keepIn K (.ref f_number_code) = true) (s_BN_SBE : PySem.W.subIn K (.ref c_BadNumber) (.ref c_ShortestBytesError) = some true) (s_SBE_B : PySem.W.subIn K (.ref c_ShortestBytesError) (.type "BaseException") = some true) (h_SBE : PySem.W.hasDictIn K c_ShortestBytesError = true) (t_SBE : PySem.W.typeIn K (.ref c_ShortestBytesError) = some (.type "type")) (s_BN_BN : PySem.W.subIn K (.ref c_BadNumber) (.ref c_BadNumber) = some true) (s_BN_BV : PySem.W.subIn K (.ref c_BadNumber) (.ref c_BadValue) = some false) (s_BN_VE : PySem.W.subIn K (.ref c_BadNumber) (.type "ValueError") = some true) : Told P w K mg base CX0 4 f fd ["_law_thing"] (spRefused K) := by
  refine told F sc__law_refused (fun vs H Q E h => ?_) (fun cdv A outer s H vs Q E clr hr h => ?_)
  · obtain ⟨x, dt, rfl, no, dp, sh, k⟩ := h
    rfl
  · obtain ⟨x, dt, rfl, no, dp, sh, k⟩ := h
    refine ⟨_, (pss_cons (ps_try_as (i := 1) rfl rfl sc__law_refused.nd rfl rfl ⟨rfl, by decide, .inl g_ShortestBytesError⟩ takes0 (fun W pn xe tk _ => (pss_one (ps_expr (pe_toldS G_number_code clr (hr.mono (by decide)) (by rfl) g_number_code k_number_code b_number_code .nil (fun σ => passAt tk σ) (pa_cons (pv 0) pa_nil))))) (fun a oe cls d pn hz hf => (pss_cons (ps_if (PW.pt (pw_or (pt_not (pt_val (pe_callB (call_isX hz hf) (by rfl) m_isinstance (by decide +kernel) (pa_cons (pv 1) (pa_cons (pe_glob (v := .ref c_BadNumber) (by rfl) E_BadNumber.g rfl) pa_nil))))) (pw_or (pt_val (pe_callB (call_isX hz hf) (by rfl) m_isinstance (by decide +kernel) (pa_cons (pv 1) (pa_cons (pe_glob (v := .ref c_BadValue) (by rfl) E_BadValue.g rfl) pa_nil)))) (pw_or1 (pt_not (pt_val (pe_callB (call_isX hz hf) (by rfl) m_isinstance (by decide +kernel) (pa_cons (pv 1) (pa_cons (pe_bltn (by rfl) m_ValueError (by decide +kernel) (show RelV (.ty "ValueError") (.type "ValueError") from rfl)) pa_nil)))))))))
    (pss_one (ps_ret pe_bl))
    pss_nil)
    (pss_one (ps_ret (pe_cmpR op_eq (pe_callB (call_reprDs clr hr.units) (by rfl) m_repr (by decide +kernel) (pa_cons (pe_xf E_BadNumber.X E_BadNumber.no hz hf (pv 1)) pa_nil)) (pe_callB (call_reprDs clr hr.units) (by rfl) m_repr (by decide +kernel) (pa_cons (pv 0) pa_nil)) (nomark _)))))))
    (pss_one (ps_ret pe_bl))), ?_⟩
    refine ⟨_, rfl, x, rfl, .inr ⟨no, fun d H' nd sm hd => ?_⟩⟩
    refine ⟨true, exm_own s_SBE_B h_SBE t_SBE s_BN_SBE, fun _ a na => ?_, fun q => Bool.noConfusion q⟩
    refine ⟨_, rfl, _, d, _, _, _, _, rfl, rfl, E_BadNumber.I, rfl, hd, relV_ref, kit_own (fun z => Bool.noConfusion z) E_BadNumber.I.cl E_BadNumber.T.tyC s_BN_BN, _, rfl, iteF ?_⟩
    refine ⟨_, rfl, _, d, _, _, _, _, rfl, rfl, E_BadNumber.I, rfl, hd, relV_ref, kit_own (fun _ => ne_sub s_BN_BN s_BN_BV) E_BadValue.I.cl E_BadValue.T.tyC s_BN_BV, _, rfl, iteF ?_⟩
    refine ⟨_, rfl, _, d, _, _, _, _, rfl, rfl, E_BadNumber.I, rfl, hd, relV_ty, kit_type (T := "ValueError") (by decide +kernel) s_BN_VE, _, rfl, iteF ?_⟩
    have dp' := dpSame sm dp
    refine ⟨_, rfl, rfl, rfl, d, _, x, rfl, hd, rfl, _, _, rfl, dp', sh.1, sh.2.1, sh.2.2.1, sh.2.2.2, _, rfl, _, _, rfl, dp', sh.1, sh.2.1, sh.2.2.1, sh.2.2.2, rfl, ?_⟩
    rw [decide_eq_true rfl]
    exact k _ sm

def spLaw (K : PySem.W.Frag) : Sp := fun vs H Q _ => ∃ (a : Addr) (ns : List Int), vs = [.ref a] ∧ SqL K H a (ns.map V.int) ∧ ns.length ≤ 63 ∧ ∀ H', Q (.bl true) H'
theorem cells_lt (ns : List Int) (c : Int) (h : ns.length ≤ 63) : (if ((cutV (ns.map V.int) none (some c)).length : Int) > 1 then ((cutV (ns.map V.int) none (some c)).length : Int) else 1).toNat ≤ 63 ∧
    -(2 ^ 62) ≤ (if ((cutV (ns.map V.int) none (some c)).length : Int) > 1 then ((cutV (ns.map V.int) none (some c)).length : Int) else 1) ∧ (if ((cutV (ns.map V.int) none (some c)).length : Int) > 1 then ((cutV (ns.map V.int) none (some c)).length : Int) else 1) < 2 ^ 62 := by
  have := cutV_length (ns.map V.int) none (some c)
  rw [List.length_map] at this
  refine ⟨turns_le (by omega) (by decide), ?_, ?_⟩
  · split <;> omega
  · split <;> omega
theorem pow504 {N : Nat} (h : N < 256 ^ 63) : N < 2 ^ 504 := Nat.lt_of_lt_of_le h (by decide +kernel)
theorem small_abs {i : Int} (h1 : -(2 ^ 600) < i) (h2 : i < 2 ^ 600) : i.natAbs < 2 ^ 1900 := by
  have e : (2 : Int) ^ 600 = ((2 ^ 600 : Nat) : Int) := by decide +kernel
  have h : i.natAbs < 2 ^ 600 := by
    generalize 2 ^ 600 = m at e
    omega
  exact Nat.lt_trans h (by decide +kernel)
abbrev s_law : Stmt := topS 19
theorem sc_law : FnScope ["_law_script", "_law_at", "_law_bag_here", "_law_number_here"] ["_law_script"] (defScope s_law) := ⟨rfl, rfl, rfl, by decide +kernel, rfl, by decide +kernel, by decide +kernel⟩
theorem ok_law {f : Addr} {fd : FuncData} (F : Fun K "law" "law" s_law f fd) (m_range : mg "range" = none) (m_max : mg "max" = none) (m_len : mg "len" = none) (m_repr : mg "repr" = none) {f__law_bag : Addr} {fd__law_bag : FuncData} (G__law_bag : Told P w K mg base CX0 1 f__law_bag fd__law_bag ["_law_script", "_law_at"] (spBag K)) (b__law_bag : Binds K fd__law_bag ["_law_script", "_law_at"] []) (g__law_bag : mg "_law_bag" = some (.ref f__law_bag)) (k__law_bag : PySem.W.keepIn K (.ref f__law_bag) = true) {f__law_number : Addr} {fd__law_number : FuncData} (G__law_number : Told P w K mg base CX0 3 f__law_number fd__law_number ["_law_bag_here"] spNumber) (b__law_number : Binds K fd__law_number ["_law_bag_here"] []) (g__law_number : mg "_law_number" = some (.ref f__law_number)) (k__law_number : PySem.W.keepIn K (.ref f__law_number) = true) {f__law_refused : Addr} {fd__law_refused : FuncData} (G__law_refused : Told P w K mg base CX0 4 f__law_refused fd__law_refused ["_law_thing"] (spRefused K)) (b__law_refused : Binds K fd__law_refused ["_law_thing"] []) (g__law_refused : mg "_law_refused" = some (.ref f__law_refused)) (k__law_refused : PySem.W.keepIn K (.ref f__law_refused) = true) {f__law_of : Addr} {fd__law_of : FuncData} (G__law_of : Told P w K mg base CX0 2 f__law_of fd__law_of ["_law_bag_here", "_law_some"] (spOf K)) (b__law_of : Binds K fd__law_of ["_law_bag_here", "_law_some"] []) (g__law_of : mg "_law_of" = some (.ref f__law_of)) (k__law_of : PySem.W.keepIn K (.ref f__law_of) = true) {f_number_code : Addr} {fd_number_code : FuncData} (G_number_code : Told P w K mg base (L2.CX P w) 3 f_number_code fd_number_code ["number"] (spNumCode K c_BadNumber)) (b_number_code : Binds K fd_number_code ["number"] []) (g_number_code : mg "number_code" = some (.ref f_number_code)) (k_number_code : PySem.W.keepIn K (.ref f_number_code) = true) {f__law_code : Addr} {fd__law_code : FuncData} (G__law_code : Told P w K mg base CX0 1 f__law_code fd__law_code ["_law_number_here"] spCode) (b__law_code : Binds K fd__law_code ["_law_number_here"] []) (g__law_code : mg "_law_code" = some (.ref f__law_code)) (k__law_code : PySem.W.keepIn K (.ref f__law_code) = true) : Told P w K mg base CX0 5 f fd ["_law_script"] (spLaw K) := by
  refine told F sc_law (fun vs H Q E h => ?_) (fun cdv A outer s H vs Q E clr hr h => ?_)
  · obtain ⟨a, ns, rfl, hS, h63, k⟩ := h
    rfl
  · obtain ⟨a, ns, rfl, hS, h63, k⟩ := h
    refine ⟨_, (pss_cons (ps_for PassesOwn.never rfl (pi_range1 (by rfl) m_range (pa_cons (pe_callB (call_max2 rfl) (by rfl) m_max (by decide +kernel) (pa_cons pe_int (pa_cons (pe_callB call_len_seq (by rfl) m_len PySem.boot_len (pa_cons (pe_slice sl_list (pv 0) po_none (po_some pe_int)) pa_nil)) pa_nil))) pa_nil)) (pg_name (i := 1) sc_law.nd rfl (Or.inl rfl))
    (pss_cons (ps_set (i := 2) sc_law.nd rfl (Or.inl rfl) (pe_told G__law_bag clr (hr.mono (by decide)) (by rfl) g__law_bag k__law_bag b__law_bag .nil pass0 (pa_cons (pv 0) (pa_cons (pv 1) pa_nil))))
    (pss_cons (ps_set (i := 3) sc_law.nd rfl (Or.inl rfl) (pe_told G__law_number clr (hr.mono (by decide)) (by rfl) g__law_number k__law_number b__law_number .nil pass0 (pa_cons (pv 2) pa_nil)))
    (pss_cons (ps_if (PW.pt (pw_or (pt_not (pt_val (pe_told G__law_refused clr (hr.mono (by decide)) (by rfl) g__law_refused k__law_refused b__law_refused .nil pass0 (pa_cons (pe_op op_add (pv 3) (pe_op op_pow pe_int pe_int)) pa_nil)))) (pw_or1 (pt_not (pt_val (pe_told G__law_refused clr (hr.mono (by decide)) (by rfl) g__law_refused k__law_refused b__law_refused .nil pass0 (pa_cons (pe_op op_sub (pe_un un_neg pe_int) (pv 3)) pa_nil)))))))
    (pss_one (ps_ret pe_bl))
    pss_nil)
    (pss_cons (ps_if (pt_not (pt_val (pe_told G__law_refused clr (hr.mono (by decide)) (by rfl) g__law_refused k__law_refused b__law_refused .nil pass0 (pa_cons (pe_told G__law_of clr (hr.mono (by decide)) (by rfl) g__law_of k__law_of b__law_of .nil pass0 (pa_cons (pv 2) (pa_cons (pe_lst (pa_cons pe_bl (pa_cons pe_bl (pa_cons pe_non (pa_cons pe_str (pa_cons (pe_tup (pa_cons (pv 3) pa_nil)) (pa_cons (pe_lst pa_nil) (pa_cons (pe_lst (pa_cons (pv 3) pa_nil)) (pa_cons pe_str (pa_cons (pe_tup pa_nil) pa_nil)))))))))) pa_nil))) pa_nil))))
    (pss_one (ps_ret pe_bl))
    pss_nil)
    (pss_one (ps_if (PW.pt (pw_or (pt_not (pt_val (pe_told G__law_refused clr (hr.mono (by decide)) (by rfl) g__law_refused k__law_refused b__law_refused .nil pass0 (pa_cons (pe_cmpR op_ge (pv 3) pe_int (nomark _)) pa_nil)))) (pw_or1 (pt_cmpR op_ne (pe_callB (call_reprD clr hr.units) (by rfl) m_repr (by decide +kernel) (pa_cons (pe_told (E := E0) G_number_code clr (hr.mono (by decide)) (by rfl) g_number_code k_number_code b_number_code .nil passL (pa_cons (pv 3) pa_nil)) pa_nil)) (pe_callB (call_reprD clr hr.units) (by rfl) m_repr (by decide +kernel) (pa_cons (pe_told G__law_code clr (hr.mono (by decide)) (by rfl) g__law_code k__law_code b__law_code .nil pass0 (pa_cons (pv 3) pa_nil)) pa_nil)) (nomark _)))))
    (pss_one (ps_ret pe_bl))
    pss_nil)))))))
    (pss_one (ps_ret pe_bl))), ?_⟩
    refine ⟨_, rfl, _, rfl, a, _, rfl, hS, fun c nc => ?_⟩
    have hS1 : SqL K (upd H c (.lst (cutV (ns.map V.int) none (some 20)))) a (ns.map V.int) := (same_new nc).seq hS
    obtain ⟨ht, hlo, hhi⟩ := cells_lt ns 20 h63
    refine ⟨c, _, rfl, .inl seq_new, _, _, rfl, _, rfl, hlo, hhi, ?_⟩
    generalize hM : (if ((cutV (ns.map V.int) none (some 20)).length : Int) > 1 then ((cutV (ns.map V.int) none (some 20)).length : Int) else 1).toNat = M at ht
    refine for_range (lo := 0) (n := M) (fun i σ H' => ∃ y1 y2 y3, σ = [some (.ref a), y1, y2, y3] ∧ SqL K H' a (ns.map V.int)) ⟨_, _, _, rfl, hS1⟩ ?_ ?_
    · rintro i σ H' hi ⟨y1, y2, y3, rfl, hSi⟩
      refine ⟨_, rfl, _, rfl, a, ns, i, ?_, hSi, by omega, fun p H1 sm np B => ?_⟩
      · rw [Int.zero_add]
        rfl
      refine ⟨_, rfl, p, 0, rfl, B, by omega, fun N H2 hN b2 B2 => ?_⟩
      have big : (256 : Int) ^ 63 = 52374249726338269920211035149241586435466272736689036631732661889538140742474792878132321477214466514414186946040961136147476104734166288853256441430016 := by decide +kernel
      have p600 : (2 : Int) ^ 600 = 4149515568880992958512407863691161151012446232242436899995657329690652811412908146399707048947103794288197886611300789182395151075411775307886874834113963687061181803401509523685376 := by decide +kernel
      have bigN : (256 : Nat) ^ 63 = 52374249726338269920211035149241586435466272736689036631732661889538140742474792878132321477214466514414186946040961136147476104734166288853256441430016 := by decide +kernel
      have hN' := hN
      rw [bigN] at hN'
      have okN : ((N : Int)).natAbs < 2 ^ 1900 := small_abs (by rw [p600]; omega) (by rw [p600]; omega)
      -- number + 256 ** 63, -1 - number
      refine ⟨_, rfl, _, _, rfl, rfl, ⟨by decide, by decide, by decide⟩, _, _, rfl, rfl, _, _, rfl, .inl ⟨_, rfl, ?_⟩, .int _, int_okB ?_, fun H3 s3 => ⟨_, rfl, iteF ?_⟩⟩
      · show ¬ (0 ≤ (N : Int) + 256 ^ 63 ∧ (N : Int) + 256 ^ 63 < 256 ^ 63)
        rw [big]
        omega
      · show ((N : Int) + 256 ^ 63).natAbs < 2 ^ 1900
        refine small_abs ?_ ?_ <;> rw [p600, big] <;> omega
      refine ⟨_, rfl, _, rfl, _, _, rfl, rfl, _, _, rfl, .inl ⟨_, rfl, ?_⟩, .int _, int_okB ?_, fun H4 s4 => ⟨_, rfl, iteF ?_⟩⟩
      · show ¬ (0 ≤ -1 - (N : Int) ∧ -1 - (N : Int) < 256 ^ 63)
        omega
      · show (-1 - (N : Int)).natAbs < 2 ^ 1900
        refine small_abs ?_ ?_ <;> rw [p600] <;> omega
      have b4 := (b2.same s3).same s4
      have B4 := (B2.same s3).same s4
      -- one of nine things
      refine ⟨_, rfl, _, rfl, sz (show 1 ≤ 1000000 by decide), fun t1 n1 => ⟨Nat.zero_le _, fun l1 n2 => ⟨_, rfl, sz (show 1 ≤ 1000000 by decide), fun l2 n3 => ⟨Nat.zero_le _, fun t2 n4 => ⟨sz (show 9 ≤ 1000000 by decide), fun l n5 => ?_⟩⟩⟩⟩⟩
      have s1 := same_new (o := .tup [.int (N : Int)]) n1
      have s2 := same_new (o := .lst []) n2
      have s3' := same_new (o := .lst [.int (N : Int)]) n3
      have s4' := same_new (o := .tup []) n4
      have s5 := same_new (o := .lst [.bl true, .bl false, .non, .str "5", .ref t1, .ref l1, .ref l2, .str "", .ref t2]) n5
      have B5 : BagAt _ p 70 := ((((B4.same s1).same s2).same s3').same s4').same s5
      have ne1 : t1 ≠ p := bag_ne B4 n1
      have ne2 : l1 ≠ p := bag_ne (B4.same s1) n2
      have ne3 : l2 ≠ p := bag_ne ((B4.same s1).same s2) n3
      have ne4 : t2 ≠ p := bag_ne (((B4.same s1).same s2).same s3') n4
      have ne5 : l ≠ p := bag_ne ((((B4.same s1).same s2).same s3').same s4') n5
      refine ⟨p, l, 70, _, rfl, B5, by omega, seq_new, ne5, (show 0 < 9 by decide), (show 9 ≤ 1000000 by decide), fun j v H6 hv b6 B6 => ?_⟩
      have e1 : H6 t1 = some (.tup [.int (N : Int)]) := b6 _ _ ne1 (s5 _ _ (s4' _ _ (s3' _ _ (s2 _ _ upd_same))))
      have e2 : H6 l1 = some (.lst []) := b6 _ _ ne2 (s5 _ _ (s4' _ _ (s3' _ _ upd_same)))
      have e3 : H6 l2 = some (.lst [.int (N : Int)]) := b6 _ _ ne3 (s5 _ _ (s4' _ _ upd_same))
      have e4 : H6 t2 = some (.tup []) := b6 _ _ ne4 (s5 _ _ upd_same)
      have told : ∃ d, NoNum K H6 v ∧ Dp K H6 v d ∧ Shows d := by
        have hm := List.mem_of_getElem? hv
        simp only [List.mem_cons, List.not_mem_nil, or_false] at hm
        rcases hm with rfl | rfl | rfl | rfl | rfl | rfl | rfl | rfl | rfl
        · exact ⟨_, .inr (.inl ⟨_, rfl⟩), .bl _, bool_ok _⟩
        · exact ⟨_, .inr (.inl ⟨_, rfl⟩), .bl _, bool_ok _⟩
        · exact ⟨_, .inr (.inr ⟨"NoneType", .base .non, by decide +kernel⟩), .non, none_ok⟩
        · exact ⟨_, .inr (.inr ⟨"str", .base (.str _), by decide +kernel⟩), .str _, ⟨by decide, by decide, by decide, by decide +kernel⟩⟩
        · exact ⟨_, .inr (.inr ⟨"tuple", .base (.tup e1), by decide +kernel⟩), .tup (.inl (.inl e1)) (.cons (.int _) .nil), tup1_ok okN⟩
        · exact ⟨_, .inr (.inr ⟨"list", .base (.lst e2), by decide +kernel⟩), .lst (.inl (.inl e2)) .nil, nil_ok⟩
        · exact ⟨_, .inr (.inr ⟨"list", .base (.lst e3), by decide +kernel⟩), .lst (.inl (.inl e3)) (.cons (.int _) .nil), list1_ok okN⟩
        · exact ⟨_, .inr (.inr ⟨"str", .base (.str _), by decide +kernel⟩), .str _, ⟨by decide, by decide, by decide, by decide +kernel⟩⟩
        · exact ⟨_, .inr (.inr ⟨"tuple", .base (.tup e4), by decide +kernel⟩), .tup (.inl (.inl e4)) .nil, unit_ok⟩
      obtain ⟨dv, no, dp, sh⟩ := told
      refine ⟨v, dv, rfl, no, dp, sh, fun H7 s7 => ⟨_, rfl, iteF ?_⟩⟩
      -- number >= 0
      refine ⟨_, rfl, _, _, rfl, rfl, _, _, rfl, .inr (.inl ⟨_, rfl⟩), .bl _, bool_ok _, fun H8 s8 => ⟨_, rfl, iteF ?_⟩⟩
      refine ⟨_, rfl, _, rfl, .inl ⟨N, rfl, hN, fun q H9 s9 nq hq => ?_⟩⟩
      have o := nums_ok (l := codeN N) (fun x hx => Nat.lt_trans (codeN_lt hN x hx) (by decide)) (Nat.le_trans (codeN_len hN) (by decide))
      refine ⟨_, _, rfl, .lst (seq_of hq) (dp_nums' _), o.1, o.2.1, o.2.2.1, o.2.2.2, _, rfl, N, rfl, hN, fun r H10 s10 nr hr' => ?_⟩
      refine ⟨_, _, rfl, .lst (seq_of hr') (dp_nums' _), o.1, o.2.1, o.2.2.1, o.2.2.2, rfl, _, rfl, iteNS rfl ?_⟩
      exact ⟨_, _, _, rfl, seq_but hSi np sm (((((b4.same s1).same s2).same s3').same s4').same s5 |>.trans b6 |>.same s7 |>.same s8 |>.same s9 |>.same s10)⟩
    · rintro σ H' ⟨y1, y2, y3, rfl, hSi⟩
      exact k H'
end

theorem all_mk {l : PySem.W.OpenLaw} {w : World} {K : PySem.W.Frag} {h : Heap} {mg : Str → Option Value} {fa f__law_bag f__law_take f__law_of f__law_number f__law_code f_is_int f_is_number f_base_256 f_number_code f__law_refused f_law c_ShortestBytesError c_BadNumber N_BadNumber fI_BadNumber c_BadValue N_BadValue fI_BadValue : Addr} (X : K.In h) (G : h.Ns mainGlobals mg) (hfa : mg "law" = some (.ref fa))
    {od__law_bag an__law_bag od__law_take an__law_take od__law_of an__law_of od__law_number an__law_number od__law_code an__law_code od_is_int an_is_int od_is_number an_is_number od_base_256 an_base_256 od_number_code an_number_code od__law_refused an__law_refused od_law an_law odI_BadNumber anI_BadNumber dd_BadNumber odI_BadValue anI_BadValue dd_BadValue : Option Addr} {sl__law_bag sl__law_take sl__law_of sl__law_number sl__law_code sl_is_int sl_is_number sl_base_256 sl_number_code sl__law_refused sl_law slI_BadNumber slI_BadValue : Array (Option Value)} {oc__law_bag kV__law_bag dc__law_bag pm__law_bag cd__law_bag ct__law_bag oc__law_take kV__law_take dc__law_take pm__law_take cd__law_take ct__law_take oc__law_of kV__law_of dc__law_of pm__law_of cd__law_of ct__law_of oc__law_number kV__law_number dc__law_number pm__law_number cd__law_number ct__law_number oc__law_code kV__law_code dc__law_code pm__law_code cd__law_code ct__law_code oc_is_int kV_is_int dc_is_int pm_is_int cd_is_int ct_is_int oc_is_number kV_is_number dc_is_number pm_is_number cd_is_number ct_is_number oc_base_256 kV_base_256 dc_base_256 pm_base_256 cd_base_256 ct_base_256 oc_number_code kV_number_code dc_number_code pm_number_code cd_number_code ct_number_code oc__law_refused kV__law_refused dc__law_refused pm__law_refused cd__law_refused ct__law_refused oc_law kV_law dc_law pm_law cd_law ct_law ocI_BadNumber kVI_BadNumber dcI_BadNumber pmI_BadNumber cdI_BadNumber ctI_BadNumber ocI_BadValue kVI_BadValue dcI_BadValue pmI_BadValue cdI_BadValue ctI_BadValue : Value} {t_MOST t_FIRST_LONG t_LONG : Tok} {nm_BadNumber q_BadNumber : Str} {bs_BadNumber bm_BadNumber : List Value} {sn_BadNumber : List Str} {sub_BadNumber : List Value} {ab_BadNumber : Bool} {col_BadNumber : Option Bool} {k0_BadNumber k1_BadNumber k2_BadNumber k3_BadNumber k5_BadNumber : Option Value} {nm_BadValue q_BadValue : Str} {bs_BadValue bm_BadValue : List Value} {sn_BadValue : List Str} {sub_BadValue : List Value} {ab_BadValue : Bool} {col_BadValue : Option Bool} {k0_BadValue k1_BadValue k2_BadValue k3_BadValue k5_BadValue : Option Value}
    (a__law_bag : PySem.W.nsIn K mainGlobals "_law_bag" = some (some (.ref f__law_bag))) (l__law_bag : K.lookup f__law_bag = some ⟨oc__law_bag, od__law_bag, .func (PySem.W.fnOf "_law_bag" "_law_bag" (defArgs s__law_bag) (defBody s__law_bag) (defScope s__law_bag) .none kV__law_bag dc__law_bag pm__law_bag an__law_bag cd__law_bag ct__law_bag), sl__law_bag⟩) (c__law_bag : PySem.W.codeIn K cd__law_bag "_law_bag" = true) (k__law_bag : PySem.W.keepIn K (.ref f__law_bag) = true)
    (a__law_take : PySem.W.nsIn K mainGlobals "_law_take" = some (some (.ref f__law_take))) (l__law_take : K.lookup f__law_take = some ⟨oc__law_take, od__law_take, .func (PySem.W.fnOf "_law_take" "_law_take" (defArgs s__law_take) (defBody s__law_take) (defScope s__law_take) .none kV__law_take dc__law_take pm__law_take an__law_take cd__law_take ct__law_take), sl__law_take⟩) (c__law_take : PySem.W.codeIn K cd__law_take "_law_take" = true) (k__law_take : PySem.W.keepIn K (.ref f__law_take) = true)
    (a__law_of : PySem.W.nsIn K mainGlobals "_law_of" = some (some (.ref f__law_of))) (l__law_of : K.lookup f__law_of = some ⟨oc__law_of, od__law_of, .func (PySem.W.fnOf "_law_of" "_law_of" (defArgs s__law_of) (defBody s__law_of) (defScope s__law_of) .none kV__law_of dc__law_of pm__law_of an__law_of cd__law_of ct__law_of), sl__law_of⟩) (c__law_of : PySem.W.codeIn K cd__law_of "_law_of" = true) (k__law_of : PySem.W.keepIn K (.ref f__law_of) = true)
    (a__law_number : PySem.W.nsIn K mainGlobals "_law_number" = some (some (.ref f__law_number))) (l__law_number : K.lookup f__law_number = some ⟨oc__law_number, od__law_number, .func (PySem.W.fnOf "_law_number" "_law_number" (defArgs s__law_number) (defBody s__law_number) (defScope s__law_number) .none kV__law_number dc__law_number pm__law_number an__law_number cd__law_number ct__law_number), sl__law_number⟩) (c__law_number : PySem.W.codeIn K cd__law_number "_law_number" = true) (k__law_number : PySem.W.keepIn K (.ref f__law_number) = true)
    (a__law_code : PySem.W.nsIn K mainGlobals "_law_code" = some (some (.ref f__law_code))) (l__law_code : K.lookup f__law_code = some ⟨oc__law_code, od__law_code, .func (PySem.W.fnOf "_law_code" "_law_code" (defArgs s__law_code) (defBody s__law_code) (defScope s__law_code) .none kV__law_code dc__law_code pm__law_code an__law_code cd__law_code ct__law_code), sl__law_code⟩) (c__law_code : PySem.W.codeIn K cd__law_code "_law_code" = true) (k__law_code : PySem.W.keepIn K (.ref f__law_code) = true)
    (a_is_int : PySem.W.nsIn K mainGlobals "is_int" = some (some (.ref f_is_int))) (l_is_int : K.lookup f_is_int = some ⟨oc_is_int, od_is_int, .func (PySem.W.fnOf "is_int" "is_int" (defArgs s_is_int) (defBody s_is_int) (defScope s_is_int) .none kV_is_int dc_is_int pm_is_int an_is_int cd_is_int ct_is_int), sl_is_int⟩) (c_is_int : PySem.W.codeIn K cd_is_int "is_int" = true) (k_is_int : PySem.W.keepIn K (.ref f_is_int) = true)
    (a_is_number : PySem.W.nsIn K mainGlobals "is_number" = some (some (.ref f_is_number))) (l_is_number : K.lookup f_is_number = some ⟨oc_is_number, od_is_number, .func (PySem.W.fnOf "is_number" "is_number" (defArgs s_is_number) (defBody s_is_number) (defScope s_is_number) .none kV_is_number dc_is_number pm_is_number an_is_number cd_is_number ct_is_number), sl_is_number⟩) (c_is_number : PySem.W.codeIn K cd_is_number "is_number" = true) (k_is_number : PySem.W.keepIn K (.ref f_is_number) = true)
    (a_base_256 : PySem.W.nsIn K mainGlobals "base_256" = some (some (.ref f_base_256))) (l_base_256 : K.lookup f_base_256 = some ⟨oc_base_256, od_base_256, .func (PySem.W.fnOf "base_256" "base_256" (defArgs s_base_256) (defBody s_base_256) (defScope s_base_256) .none kV_base_256 dc_base_256 pm_base_256 an_base_256 cd_base_256 ct_base_256), sl_base_256⟩) (c_base_256 : PySem.W.codeIn K cd_base_256 "base_256" = true) (k_base_256 : PySem.W.keepIn K (.ref f_base_256) = true)
    (a_number_code : PySem.W.nsIn K mainGlobals "number_code" = some (some (.ref f_number_code))) (l_number_code : K.lookup f_number_code = some ⟨oc_number_code, od_number_code, .func (PySem.W.fnOf "number_code" "number_code" (defArgs s_number_code) (defBody s_number_code) (defScope s_number_code) .none kV_number_code dc_number_code pm_number_code an_number_code cd_number_code ct_number_code), sl_number_code⟩) (c_number_code : PySem.W.codeIn K cd_number_code "number_code" = true) (k_number_code : PySem.W.keepIn K (.ref f_number_code) = true)
    (a__law_refused : PySem.W.nsIn K mainGlobals "_law_refused" = some (some (.ref f__law_refused))) (l__law_refused : K.lookup f__law_refused = some ⟨oc__law_refused, od__law_refused, .func (PySem.W.fnOf "_law_refused" "_law_refused" (defArgs s__law_refused) (defBody s__law_refused) (defScope s__law_refused) .none kV__law_refused dc__law_refused pm__law_refused an__law_refused cd__law_refused ct__law_refused), sl__law_refused⟩) (c__law_refused : PySem.W.codeIn K cd__law_refused "_law_refused" = true) (k__law_refused : PySem.W.keepIn K (.ref f__law_refused) = true)
    (a_law : PySem.W.nsIn K mainGlobals "law" = some (some (.ref f_law))) (l_law : K.lookup f_law = some ⟨oc_law, od_law, .func (PySem.W.fnOf "law" "law" (defArgs s_law) (defBody s_law) (defScope s_law) .none kV_law dc_law pm_law an_law cd_law ct_law), sl_law⟩) (c_law : PySem.W.codeIn K cd_law "law" = true) (k_law : PySem.W.keepIn K (.ref f_law) = true)
    (z_len : PySem.W.nsIn K mainGlobals "len" = some none)
    (z_abs : PySem.W.nsIn K mainGlobals "abs" = some none)
    (z_int : PySem.W.nsIn K mainGlobals "int" = some none)
    (z_range : PySem.W.nsIn K mainGlobals "range" = some none)
    (z_isinstance : PySem.W.nsIn K mainGlobals "isinstance" = some none)
    (z_bool : PySem.W.nsIn K mainGlobals "bool" = some none)
    (z_ValueError : PySem.W.nsIn K mainGlobals "ValueError" = some none)
    (z_repr : PySem.W.nsIn K mainGlobals "repr" = some none)
    (z_max : PySem.W.nsIn K mainGlobals "max" = some none)
    (z_MOST : PySem.W.nsIn K mainGlobals "MOST" = some (some (.int (52374249726338269920211035149241586435466272736689036631732661889538140742474792878132321477214466514414186946040961136147476104734166288853256441430015) t_MOST)))
    (z_FIRST_LONG : PySem.W.nsIn K mainGlobals "FIRST_LONG" = some (some (.int (192) t_FIRST_LONG)))
    (z_LONG : PySem.W.nsIn K mainGlobals "LONG" = some (some (.int (191) t_LONG)))
    (z_ShortestBytesError : PySem.W.nsIn K mainGlobals "ShortestBytesError" = some (some (.ref c_ShortestBytesError)))
    (z_BadNumber : PySem.W.nsIn K mainGlobals "BadNumber" = some (some (.ref c_BadNumber)))
    (lC_BadNumber : K.lookup c_BadNumber = some (excClassObj nm_BadNumber q_BadNumber c_BadNumber N_BadNumber bs_BadNumber bm_BadNumber true sn_BadNumber sub_BadNumber ab_BadNumber col_BadNumber dd_BadNumber k0_BadNumber k1_BadNumber k2_BadNumber k3_BadNumber k5_BadNumber "ValueError.__new__"))
    (rv_BadNumber : PySem.HandSPX.refsVE bm_BadNumber = true)
    (sa_BadNumber : PySem.W.findIn K (.ref c_BadNumber) "__setattr__" = some (some (.builtin "object.__setattr__")))
    (ex_BadNumber : PySem.W.subIn K (.ref c_BadNumber) (.type "BaseException") = some true)
    (ty_BadNumber : PySem.W.typeIn K (.ref c_BadNumber) = some (.type "type"))
    (kp_BadNumber : PySem.W.keepIn K (.ref c_BadNumber) = true)
    (ga_BadNumber : PySem.W.findIn K (.ref c_BadNumber) "__getattribute__" = some (some (.builtin "BaseException.__getattribute__")))
    (gg_BadNumber : PySem.W.findIn K (.ref c_BadNumber) "__getattr__" = some none)
    (hd_BadNumber : PySem.W.hasDictIn K c_BadNumber = true)
    (cc_BadNumber : PySem.W.findIn K (.ref c_BadNumber) "__class__" = some (some (.builtin "object.__class__")))
    (ob_BadNumber : PySem.W.mroIn K c_BadNumber (.type "object") = some true)
    (no_BadNumber : PySem.W.findIn K (.ref c_BadNumber) "number" = some none)
    (in_BadNumber : PySem.W.findIn K (.ref c_BadNumber) "__init__" = some (some (.ref fI_BadNumber)))
    (ti_BadNumber : PySem.W.typeIn K (.ref fI_BadNumber) = some (.type "function"))
    (lI_BadNumber : K.lookup fI_BadNumber = some ⟨ocI_BadNumber, odI_BadNumber, .func (PySem.W.fnOf "__init__" "BadNumber.__init__" (defArgs sI_BadNumber) (defBody sI_BadNumber) (defScope sI_BadNumber) .none kVI_BadNumber dcI_BadNumber pmI_BadNumber anI_BadNumber cdI_BadNumber ctI_BadNumber), slI_BadNumber⟩)
    (cI_BadNumber : PySem.W.codeIn K cdI_BadNumber "BadNumber.__init__" = true)
    (kI_BadNumber : PySem.W.keepIn K (.ref fI_BadNumber) = true)
    (z_BadValue : PySem.W.nsIn K mainGlobals "BadValue" = some (some (.ref c_BadValue)))
    (lC_BadValue : K.lookup c_BadValue = some (excClassObj nm_BadValue q_BadValue c_BadValue N_BadValue bs_BadValue bm_BadValue true sn_BadValue sub_BadValue ab_BadValue col_BadValue dd_BadValue k0_BadValue k1_BadValue k2_BadValue k3_BadValue k5_BadValue "ValueError.__new__"))
    (rv_BadValue : PySem.HandSPX.refsVE bm_BadValue = true)
    (sa_BadValue : PySem.W.findIn K (.ref c_BadValue) "__setattr__" = some (some (.builtin "object.__setattr__")))
    (ex_BadValue : PySem.W.subIn K (.ref c_BadValue) (.type "BaseException") = some true)
    (ty_BadValue : PySem.W.typeIn K (.ref c_BadValue) = some (.type "type"))
    (kp_BadValue : PySem.W.keepIn K (.ref c_BadValue) = true)
    (ga_BadValue : PySem.W.findIn K (.ref c_BadValue) "__getattribute__" = some (some (.builtin "BaseException.__getattribute__")))
    (gg_BadValue : PySem.W.findIn K (.ref c_BadValue) "__getattr__" = some none)
    (hd_BadValue : PySem.W.hasDictIn K c_BadValue = true)
    (cc_BadValue : PySem.W.findIn K (.ref c_BadValue) "__class__" = some (some (.builtin "object.__class__")))
    (ob_BadValue : PySem.W.mroIn K c_BadValue (.type "object") = some true)
    (no_BadValue : PySem.W.findIn K (.ref c_BadValue) "path" = some none)
    (in_BadValue : PySem.W.findIn K (.ref c_BadValue) "__init__" = some (some (.ref fI_BadValue)))
    (ti_BadValue : PySem.W.typeIn K (.ref fI_BadValue) = some (.type "function"))
    (lI_BadValue : K.lookup fI_BadValue = some ⟨ocI_BadValue, odI_BadValue, .func (PySem.W.fnOf "__init__" "BadValue.__init__" (defArgs sI_BadValue) (defBody sI_BadValue) (defScope sI_BadValue) .none kVI_BadValue dcI_BadValue pmI_BadValue anI_BadValue cdI_BadValue ctI_BadValue), slI_BadValue⟩)
    (cI_BadValue : PySem.W.codeIn K cdI_BadValue "BadValue.__init__" = true)
    (kI_BadValue : PySem.W.keepIn K (.ref fI_BadValue) = true)
    (ge : PySem.W.specialIn K (.builtin "object.__class__") "__get__" = some (some (.builtin "getset_descriptor.__get__"))) (tk : PySem.W.takesIn K (.builtin "object.__class__") = some true)
    (s_BN_SBE : PySem.W.subIn K (.ref c_BadNumber) (.ref c_ShortestBytesError) = some true)
    (s_SBE_B : PySem.W.subIn K (.ref c_ShortestBytesError) (.type "BaseException") = some true)
    (h_SBE : PySem.W.hasDictIn K c_ShortestBytesError = true)
    (t_SBE : PySem.W.typeIn K (.ref c_ShortestBytesError) = some (.type "type"))
    (s_BN_BN : PySem.W.subIn K (.ref c_BadNumber) (.ref c_BadNumber) = some true)
    (s_BN_BV : PySem.W.subIn K (.ref c_BadNumber) (.ref c_BadValue) = some false)
    (s_BN_VE : PySem.W.subIn K (.ref c_BadNumber) (.type "ValueError") = some true) :
    ∃ fd : FuncData, (∀ (s : Shared) (v : Value), BindsTo s fd ⟨[v], []⟩ [("_law_script", v)]) ∧ ∀ base : Heap, K.In base → base.Ns mainGlobals mg → Told l.prog w K mg base CX0 5 fa fd ["_law_script"] (spLaw K) := by
  have e := hfa.symm.trans (PySem.W.mg_of X G a_law)
  cases e
  have F__law_bag := fun_mk (st := s__law_bag) l__law_bag c__law_bag k__law_bag
  have b__law_bag := F__law_bag.binds (ps := ["_law_script", "_law_at"]) fun _ _ _ _ _ _ us hl => match us, hl with | [_, _], _ => rfl
  have F__law_take := fun_mk (st := s__law_take) l__law_take c__law_take k__law_take
  have b__law_take := F__law_take.binds (ps := ["_law_bag_here", "_law_many"]) fun _ _ _ _ _ _ us hl => match us, hl with | [_, _], _ => rfl
  have F__law_of := fun_mk (st := s__law_of) l__law_of c__law_of k__law_of
  have b__law_of := F__law_of.binds (ps := ["_law_bag_here", "_law_some"]) fun _ _ _ _ _ _ us hl => match us, hl with | [_, _], _ => rfl
  have F__law_number := fun_mk (st := s__law_number) l__law_number c__law_number k__law_number
  have b__law_number := F__law_number.binds (ps := ["_law_bag_here"]) fun _ _ _ _ _ _ us hl => match us, hl with | [_], _ => rfl
  have F__law_code := fun_mk (st := s__law_code) l__law_code c__law_code k__law_code
  have b__law_code := F__law_code.binds (ps := ["_law_number_here"]) fun _ _ _ _ _ _ us hl => match us, hl with | [_], _ => rfl
  have F_is_int := fun_mk (st := s_is_int) l_is_int c_is_int k_is_int
  have b_is_int := F_is_int.binds (ps := ["thing"]) fun _ _ _ _ _ _ us hl => match us, hl with | [_], _ => rfl
  have F_is_number := fun_mk (st := s_is_number) l_is_number c_is_number k_is_number
  have b_is_number := F_is_number.binds (ps := ["thing"]) fun _ _ _ _ _ _ us hl => match us, hl with | [_], _ => rfl
  have F_base_256 := fun_mk (st := s_base_256) l_base_256 c_base_256 k_base_256
  have b_base_256 := F_base_256.binds (ps := ["number"]) fun _ _ _ _ _ _ us hl => match us, hl with | [_], _ => rfl
  have F_number_code := fun_mk (st := s_number_code) l_number_code c_number_code k_number_code
  have b_number_code := F_number_code.binds (ps := ["number"]) fun _ _ _ _ _ _ us hl => match us, hl with | [_], _ => rfl
  have F__law_refused := fun_mk (st := s__law_refused) l__law_refused c__law_refused k__law_refused
  have b__law_refused := F__law_refused.binds (ps := ["_law_thing"]) fun _ _ _ _ _ _ us hl => match us, hl with | [_], _ => rfl
  have F_law := fun_mk (st := s_law) l_law c_law k_law
  have m_len := PySem.W.mg_none_of X G z_len
  have m_abs := PySem.W.mg_none_of X G z_abs
  have m_int := PySem.W.mg_none_of X G z_int
  have m_range := PySem.W.mg_none_of X G z_range
  have m_isinstance := PySem.W.mg_none_of X G z_isinstance
  have m_bool := PySem.W.mg_none_of X G z_bool
  have m_ValueError := PySem.W.mg_none_of X G z_ValueError
  have m_repr := PySem.W.mg_none_of X G z_repr
  have m_max := PySem.W.mg_none_of X G z_max
  have g_MOST := PySem.W.mg_of X G z_MOST
  have g_FIRST_LONG := PySem.W.mg_of X G z_FIRST_LONG
  have g_LONG := PySem.W.mg_of X G z_LONG
  have g_ShortestBytesError := PySem.W.mg_of X G z_ShortestBytesError
  have FI_BadNumber := fun_mk (st := sI_BadNumber) lI_BadNumber cI_BadNumber kI_BadNumber
  have bI_BadNumber := FI_BadNumber.binds (ps := ["self", "number"]) fun _ _ _ _ _ _ us hl => match us, hl with | [_, _], _ => rfl
  have FI_BadValue := fun_mk (st := sI_BadValue) lI_BadValue cI_BadValue kI_BadValue
  have bI_BadValue := FI_BadValue.binds (ps := ["self", "path"]) fun _ _ _ _ _ _ us hl => match us, hl with | [_, _], _ => rfl
  refine ⟨PySem.W.fnOf "law" "law" (defArgs s_law) (defBody s_law) (defScope s_law) .none kV_law dc_law pm_law an_law cd_law ct_law, fun s v => .of_eq rfl, fun base _ _ => ?_⟩
  have E_BadNumber : Err l.prog w K mg base "BadNumber" "number" c_BadNumber := ⟨PySem.W.mg_of X G z_BadNumber, ⟨⟨_, _, _, _, _, _, _, _, _, _, _, _, _, _, _, lC_BadNumber, rv_BadNumber⟩, sa_BadNumber, ex_BadNumber, ty_BadNumber, kp_BadNumber⟩, ⟨ga_BadNumber, gg_BadNumber, ex_BadNumber, hd_BadNumber⟩, ⟨cls_some hd_BadNumber, ga_BadNumber, gg_BadNumber, ex_BadNumber, cc_BadNumber, ge, tk, ob_BadNumber⟩, no_BadNumber, ⟨_, _, in_BadNumber, ti_BadNumber, okI_BadNumber FI_BadNumber, bI_BadNumber⟩⟩
  have E_BadValue : Err l.prog w K mg base "BadValue" "path" c_BadValue := ⟨PySem.W.mg_of X G z_BadValue, ⟨⟨_, _, _, _, _, _, _, _, _, _, _, _, _, _, _, lC_BadValue, rv_BadValue⟩, sa_BadValue, ex_BadValue, ty_BadValue, kp_BadValue⟩, ⟨ga_BadValue, gg_BadValue, ex_BadValue, hd_BadValue⟩, ⟨cls_some hd_BadValue, ga_BadValue, gg_BadValue, ex_BadValue, cc_BadValue, ge, tk, ob_BadValue⟩, no_BadValue, ⟨_, _, in_BadValue, ti_BadValue, okI_BadValue FI_BadValue, bI_BadValue⟩⟩
  have G__law_bag : Told l.prog w K mg base CX0 1 f__law_bag _ ["_law_script", "_law_at"] (spBag K) := ok__law_bag F__law_bag m_len m_abs m_int
  have G__law_take : Told l.prog w K mg base CX0 1 f__law_take _ ["_law_bag_here", "_law_many"] spTake := ok__law_take F__law_take m_int
  have G__law_of : Told l.prog w K mg base CX0 2 f__law_of _ ["_law_bag_here", "_law_some"] (spOf K) := ok__law_of F__law_of m_len G__law_take b__law_take (PySem.W.mg_of X G a__law_take) k__law_take
  have G__law_number : Told l.prog w K mg base CX0 3 f__law_number _ ["_law_bag_here"] spNumber := ok__law_number F__law_number m_range G__law_take b__law_take (PySem.W.mg_of X G a__law_take) k__law_take G__law_of b__law_of (PySem.W.mg_of X G a__law_of) k__law_of
  have G__law_code : Told l.prog w K mg base CX0 1 f__law_code _ ["_law_number_here"] spCode := ok__law_code F__law_code m_int m_len
  have G_is_int : Told l.prog w K mg base CX0 1 f_is_int _ ["thing"] (spIsInt K) := ok_is_int F_is_int m_isinstance m_bool m_int
  have G_is_number : Told l.prog w K mg base CX0 2 f_is_number _ ["thing"] (spIsNumber K) := ok_is_number F_is_number g_MOST G_is_int b_is_int (PySem.W.mg_of X G a_is_int) k_is_int
  have G_base_256 : Told l.prog w K mg base CX0 1 f_base_256 _ ["number"] spDigs := ok_base_256 F_base_256 m_range
  have G_number_code : Told l.prog w K mg base (L2.CX l.prog w) 3 f_number_code _ ["number"] (spNumCode K c_BadNumber) := ok_number_code F_number_code m_len g_FIRST_LONG g_LONG E_BadNumber G_is_number b_is_number (PySem.W.mg_of X G a_is_number) k_is_number G_base_256 b_base_256 (PySem.W.mg_of X G a_base_256) k_base_256
  have G__law_refused : Told l.prog w K mg base CX0 4 f__law_refused _ ["_law_thing"] (spRefused K) := ok__law_refused F__law_refused m_isinstance m_ValueError m_repr g_ShortestBytesError E_BadValue E_BadNumber G_number_code b_number_code (PySem.W.mg_of X G a_number_code) k_number_code s_BN_SBE s_SBE_B h_SBE t_SBE s_BN_BN s_BN_BV s_BN_VE
  exact ok_law F_law m_range m_max m_len m_repr G__law_bag b__law_bag (PySem.W.mg_of X G a__law_bag) k__law_bag G__law_number b__law_number (PySem.W.mg_of X G a__law_number) k__law_number G__law_refused b__law_refused (PySem.W.mg_of X G a__law_refused) k__law_refused G__law_of b__law_of (PySem.W.mg_of X G a__law_of) k__law_of G_number_code b_number_code (PySem.W.mg_of X G a_number_code) k_number_code G__law_code b__law_code (PySem.W.mg_of X G a__law_code) k__law_code
end Sb
open PySem PySem.W PyProof.Rows in
set_option maxRecDepth 100000 in
set_option maxHeartbeats 0 in
theorem PySem.Challenge.cw_shortestbytes_k04_numbers_refused_holds : PySem.Challenge.rw_shortestbytes_k04_numbers_refused.Holds := by
  w_on; o_law; k_head; (case hw => w_witness2)
  k_fill
  refine Sb.end_law (l := PySem.Challenge.rw_shortestbytes_k04_numbers_refused) (k := 5) (x := "_law_script") (sp := (fun K => Sb.spLaw K)) rfl rfl ⟨rfl, by decide, by decide⟩ (fun w h Y => PySem.W.kIn_of Y) ?F (fun K H a ns hl hS => ⟨a, ns, rfl, hS, hl, fun _ => rfl⟩)
  case F =>
    intro w mg fa h KX G hmg
    refine' Sb.all_mk KX G hmg ?a__law_bag ?l__law_bag ?c__law_bag ?k__law_bag ?a__law_take ?l__law_take ?c__law_take ?k__law_take ?a__law_of ?l__law_of ?c__law_of ?k__law_of ?a__law_number ?l__law_number ?c__law_number ?k__law_number ?a__law_code ?l__law_code ?c__law_code ?k__law_code ?a_is_int ?l_is_int ?c_is_int ?k_is_int ?a_is_number ?l_is_number ?c_is_number ?k_is_number ?a_base_256 ?l_base_256 ?c_base_256 ?k_base_256 ?a_number_code ?l_number_code ?c_number_code ?k_number_code ?a__law_refused ?l__law_refused ?c__law_refused ?k__law_refused ?a_law ?l_law ?c_law ?k_law ?z_len ?z_abs ?z_int ?z_range ?z_isinstance ?z_bool ?z_ValueError ?z_repr ?z_max ?z_MOST ?z_FIRST_LONG ?z_LONG ?z_ShortestBytesError ?z_BadNumber ?lC_BadNumber ?rv_BadNumber ?sa_BadNumber ?ex_BadNumber ?ty_BadNumber ?kp_BadNumber ?ga_BadNumber ?gg_BadNumber ?hd_BadNumber ?cc_BadNumber ?ob_BadNumber ?no_BadNumber ?in_BadNumber ?ti_BadNumber ?lI_BadNumber ?cI_BadNumber ?kI_BadNumber ?z_BadValue ?lC_BadValue ?rv_BadValue ?sa_BadValue ?ex_BadValue ?ty_BadValue ?kp_BadValue ?ga_BadValue ?gg_BadValue ?hd_BadValue ?cc_BadValue ?ob_BadValue ?no_BadValue ?in_BadValue ?ti_BadValue ?lI_BadValue ?cI_BadValue ?kI_BadValue ?ge ?tk ?s_BN_SBE ?s_SBE_B ?h_SBE ?t_SBE ?s_BN_BN ?s_BN_BV ?s_BN_VE
    (case a__law_bag => k_is)
    (case l__law_bag => k_is)
    (case c__law_bag => k_is)
    (case k__law_bag => k_is)
    (case a__law_take => k_is)
    (case l__law_take => k_is)
    (case c__law_take => k_is)
    (case k__law_take => k_is)
    (case a__law_of => k_is)
    (case l__law_of => k_is)
    (case c__law_of => k_is)
    (case k__law_of => k_is)
    (case a__law_number => k_is)
    (case l__law_number => k_is)
    (case c__law_number => k_is)
    (case k__law_number => k_is)
    (case a__law_code => k_is)
    (case l__law_code => k_is)
    (case c__law_code => k_is)
    (case k__law_code => k_is)
    (case a_is_int => k_is)
    (case l_is_int => k_is)
    (case c_is_int => k_is)
    (case k_is_int => k_is)
    (case a_is_number => k_is)
    (case l_is_number => k_is)
    (case c_is_number => k_is)
    (case k_is_number => k_is)
    (case a_base_256 => k_is)
    (case l_base_256 => k_is)
    (case c_base_256 => k_is)
    (case k_base_256 => k_is)
    (case a_number_code => k_is)
    (case l_number_code => k_is)
    (case c_number_code => k_is)
    (case k_number_code => k_is)
    (case a__law_refused => k_is)
    (case l__law_refused => k_is)
    (case c__law_refused => k_is)
    (case k__law_refused => k_is)
    (case a_law => k_is)
    (case l_law => k_is)
    (case c_law => k_is)
    (case k_law => k_is)
    (case z_len => k_is)
    (case z_abs => k_is)
    (case z_int => k_is)
    (case z_range => k_is)
    (case z_isinstance => k_is)
    (case z_bool => k_is)
    (case z_ValueError => k_is)
    (case z_repr => k_is)
    (case z_max => k_is)
    (case z_MOST => k_is)
    (case z_FIRST_LONG => k_is)
    (case z_LONG => k_is)
    (case z_ShortestBytesError => k_is)
    (case z_BadNumber => k_is)
    (case lC_BadNumber => k_is)
    (case rv_BadNumber => decide +kernel)
    (case sa_BadNumber => k_is)
    (case ex_BadNumber => k_is)
    (case ty_BadNumber => k_is)
    (case kp_BadNumber => k_is)
    (case ga_BadNumber => k_is)
    (case gg_BadNumber => k_is)
    (case hd_BadNumber => k_is)
    (case cc_BadNumber => k_is)
    (case ob_BadNumber => k_is)
    (case no_BadNumber => k_is)
    (case in_BadNumber => k_is)
    (case ti_BadNumber => k_is)
    (case lI_BadNumber => k_is)
    (case cI_BadNumber => k_is)
    (case kI_BadNumber => k_is)
    (case z_BadValue => k_is)
    (case lC_BadValue => k_is)
    (case rv_BadValue => decide +kernel)
    (case sa_BadValue => k_is)
    (case ex_BadValue => k_is)
    (case ty_BadValue => k_is)
    (case kp_BadValue => k_is)
    (case ga_BadValue => k_is)
    (case gg_BadValue => k_is)
    (case hd_BadValue => k_is)
    (case cc_BadValue => k_is)
    (case ob_BadValue => k_is)
    (case no_BadValue => k_is)
    (case in_BadValue => k_is)
    (case ti_BadValue => k_is)
    (case lI_BadValue => k_is)
    (case cI_BadValue => k_is)
    (case kI_BadValue => k_is)
    (case ge => k_is)
    (case tk => k_is)
    (case s_BN_SBE => k_is)
    (case s_SBE_B => k_is)
    (case h_SBE => k_is)
    (case t_SBE => k_is)
    (case s_BN_BN => k_is)
    (case s_BN_BV => k_is)
    (case s_BN_VE => k_is)



