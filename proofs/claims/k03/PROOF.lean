import PyProof.Rows.All
import Wide.All
import OpenK.AllK
import Wide.FinOn
import PyProof.EqAt
import PyProof.EqKinds
import PyProof.TupleCall
import PyProof.ReprRoads
import HandS.Base
import HandS.Call
import HandS.List
import HandS.Comp
import HandS.Ends
import HandS.Iter
import HandS.Words
import HandS.WordsList
import HandS.Wide
import HandS.WideBits
import HandS.IsInst
import HandS.Walk
import HandS.Defaults
import KE.KExcIs
import HandS.Exc
import HandS.ExcOwn
import HandS.ExcInit
import HandS.ExcField
import HandS.TryOnly
import HandS.WordsExc
import PySem.Challenge.RW_shortestbytes_k03_wrong_codes
set_option Elab.async false
set_option linter.all false
set_option maxRecDepth 100000
set_option maxHeartbeats 2000000
namespace Sb
open PySem PySem.Spec PyProof.Rows L2

/-! ### promises of defs that are called while nothing is being shown by repr -/
def Clr (A : Around) : Prop := A.guards = some []

structure Told (P : Program) (w : World) (K : PySem.W.Frag) (mg : Str → Option Value) (base : Heap) (CX : CXT) (k : Nat) (f : Addr) (fd : FuncData) (ps : List Str) (sp : Sp) : Prop where
  arity : ∀ {vs H Q E}, sp vs H Q E → vs.length = ps.length
  go : ∀ {A : Around} {outer : List Env} {s : Shared} {H : Hp} {args : Args} {us : List Value} {vs : List V} {Q : VK} {E : XK}, Clr A → Room k A → Env0 P w K mg base A outer s H →
    BindsTo s fd args (ps.zip us) → Vals vs us → sp vs H Q E → codeAny (model P w) A (.call (.ref f) args) (CR CX outer P w H s Q E) s

section
variable {P : Program} {w : World} {K : PySem.W.Frag} {mg : Str → Option Value} {base : Heap} {CX : CXT} {k : Nat} {f : Addr} {fd : FuncData} {ps : List Str} {sp : Sp}
theorem told_of (F : FnOk P w K mg base CX k f fd ps sp) : Told P w K mg base CX k f fd ps sp :=
  ⟨fun h => F.len _ _ _ _ h, fun _ hr e hb hv hs => F.run _ _ _ _ _ _ _ _ _ hr e hb hv hs⟩

theorem told_core {x qual : Str} {st : Stmt} {N : List Str} {oc dV kV doc pm cdv ct : Value} {od an : Option Addr} {osl : Array (Option Value)}
    (lk : K.lookup f = some ⟨oc, od, .func (PySem.W.fnOf x qual (defArgs st) (defBody st) (defScope st) dV kV doc pm an cdv ct), osl⟩) (code : PySem.W.codeIn K cdv qual = true) (S : FnScope N ps (defScope st)) (ar : ∀ vs H Q E, sp vs H Q E → vs.length = ps.length)
    (body : ∀ (cdv : Value) (A : Around) (outer : List Env) (s : Shared) (H : Hp) (vs : List V) (Q : VK) (E : XK), Clr (A.deeper (envOfC qual (defScope st) s.heap.objs.size f cdv)) →
      Room k (A.deeper (envOfC qual (defScope st) s.heap.objs.size f cdv)) → sp vs H Q E →
      ∃ t, PSs (cxOf CX P w K mg base N qual (defScope st) f cdv A outer s H E) (defBody st) t ∧ t { nx := fun _ H' => Q .non H', rt := Q } (start N vs) H) :
    Told P w K mg base CX (k + 1) f (PySem.W.fnOf x qual (defArgs st) (defBody st) (defScope st) dV kV doc pm an cdv ct) ps sp := by
  refine ⟨fun h => ar _ _ _ _ h, ?_⟩
  intro A outer s H args us vs Q E clr room e0 bind rv say
  have hin : K.In s.heap := e0.mod.kin.keeps (fun b o z => (e0.bs b o z).1)
  have nolim : s.heap.NoLimit := e0.mod.nolimit.keeps (fun b o z => (e0.bs b o z).1)
  have slotsOf : ∀ y ∈ ps.zip us, (defScope st).names.lookup y.1 = some .local ∨
      ((defScope st).names.lookup y.1 = some .cell ∧ ((cellsFrom (s.heap.objs.size + 1) (defScope st).names []).lookup y.1).isSome = true) := by
    intro y hy
    have hp : y.1 ∈ ps := (List.of_mem_zip (show (y.1, y.2) ∈ ps.zip us from hy)).1
    cases S.par y.1 hp with
    | inl q => exact .inl q
    | inr q => exact .inr ⟨q, PySem.W.cellsFrom_some _ _ _ (.inl q)⟩
  apply codeAny_call_function room.depth (hin _ _ lk) rfl S.co S.gen rfl (PySem.W.codeRec_of hin code)
  refine bind _ _ _ _ ?_
  apply wpAny_newFunctionEnv_cells S.kind slotsOf
  intro env he s1 call
  subst he
  refine ⟨nolim.keeps call.toInCall.keep, codeAny_func ?_⟩
  obtain ⟨t, run, want⟩ := body cdv A outer s H vs Q E clr (room.deeper _) say
  have inv : Inv (cxOf CX P w K mg base N qual (defScope st) f cdv A outer s H E) [] (start N vs) H s1 := inv_start S room.hd e0 (ar _ _ _ _ say) rv call
  refine wpAny_mono (run.run [] s1 _ H _ inv want) ?_ (fun _ _ h => h)
  intro fl s' h
  cases fl with
  | ret u => exact let ⟨v, _, H', J, r, q⟩ := h; ⟨v, H', J.os, J.bare, J.base, J.hok, r, q⟩
  | next => exact let ⟨_, H', J, q⟩ := h; ⟨V.non, H', J.os, J.bare, J.base, J.hok, rfl, q⟩
  | brk => exact let ⟨_, _, _, q⟩ := h; q.elim
  | cont => exact let ⟨_, _, _, q⟩ := h; q.elim

theorem toldX {x qual : Str} {st : Stmt} {N : List Str} (F : Fun K x qual st f fd) (S : FnScope N ps (defScope st)) (ar : ∀ vs H Q E, sp vs H Q E → vs.length = ps.length)
    (body : ∀ (cdv : Value) (A : Around) (outer : List Env) (s : Shared) (H : Hp) (vs : List V) (Q : VK) (E : XK), Clr (A.deeper (envOfC qual (defScope st) s.heap.objs.size f cdv)) →
      Room k (A.deeper (envOfC qual (defScope st) s.heap.objs.size f cdv)) → sp vs H Q E →
      ∃ t, PSs (cxOf CX P w K mg base N qual (defScope st) f cdv A outer s H E) (defBody st) t ∧ t { nx := fun _ H' => Q .non H', rt := Q } (start N vs) H) :
    Told P w K mg base CX (k + 1) f fd ps sp := by
  obtain ⟨oc, od, kV, doc, pm, an, cdv, ct, osl, rfl, lk, code⟩ := F.ex
  exact told_core lk code S ar body
/-- the same for a def with defaults -/
theorem toldD {x qual : Str} {st : Stmt} {N : List Str} {dvs : List V} {kws : List (Str × V)} (F : FunD K x qual (defArgs st) (defBody st) (defScope st) dvs kws f fd) (S : FnScope N ps (defScope st)) (ar : ∀ vs H Q E, sp vs H Q E → vs.length = ps.length)
    (body : ∀ (cdv : Value) (A : Around) (outer : List Env) (s : Shared) (H : Hp) (vs : List V) (Q : VK) (E : XK), Clr (A.deeper (envOfC qual (defScope st) s.heap.objs.size f cdv)) →
      Room k (A.deeper (envOfC qual (defScope st) s.heap.objs.size f cdv)) → sp vs H Q E →
      ∃ t, PSs (cxOf CX P w K mg base N qual (defScope st) f cdv A outer s H E) (defBody st) t ∧ t { nx := fun _ H' => Q .non H', rt := Q } (start N vs) H) :
    Told P w K mg base CX (k + 1) f fd ps sp := by
  obtain ⟨oc, od, dV, kV, doc, pm, an, cdv, ct, osl, rfl, lk, code, _, _⟩ := F.ex
  exact told_core lk code S ar body
end

section
variable {P : Program} {w : World} {K : PySem.W.Frag} {mg : Str → Option Value} {base : Heap} {CX : CXT} {k : Nat} {f : Addr} {fd : FuncData} {ps : List Str} {sp : Sp}
/-- the same for a def that lets no exception out -/
theorem told {x qual : Str} {st : Stmt} {N : List Str} (F : Fun K x qual st f fd) (S : FnScope N ps (defScope st)) (ar : ∀ vs H Q E, sp vs H Q E → vs.length = ps.length)
    (body : ∀ (cdv : Value) (A : Around) (outer : List Env) (s : Shared) (H : Hp) (vs : List V) (Q : VK) (E : XK), Clr (A.deeper (envOfC qual (defScope st) s.heap.objs.size f cdv)) →
      Room k (A.deeper (envOfC qual (defScope st) s.heap.objs.size f cdv)) → sp vs H Q E →
      ∃ t, PSs (cxOf CX0 P w K mg base N qual (defScope st) f cdv A outer s H E).nox (defBody st) t ∧ t { nx := fun _ H' => Q .non H', rt := Q } (start N vs) H) :
    Told P w K mg base CX0 (k + 1) f fd ps sp :=
  toldX F S ar fun cdv A outer s H vs Q E clr room say => let ⟨t, run, want⟩ := body cdv A outer s H vs Q E clr room say; ⟨t, run.nox, want⟩
end

section
variable {X : Cx} {CX : CXT} {k : Nat} {f : Addr} {fd : FuncData} {ps : List Str} {sp : Sp} {dvs : List V} {ds : List Value} {E : XK} {x : Str} {p pos : Pos} {e : Expr} {es : List Expr} {t : TA}
/-- a call of such a def -/
theorem pe_told (T : Told X.prog X.w X.K X.mg X.base CX k f fd ps sp) (clr : Clr X.A) (room : Room k X.A) (hg : Gl X x) (hm : X.mg x = some (.ref f)) (hk : PySem.W.keepIn X.K (.ref f) = true)
    (hb : Binds X.K fd ps ds) (hd : Vals dvs ds) (pass : Passes CX X E) (ha : PA X (e :: es) t) (hdb : (x == ("__debug__" : Str)) = false := by decide)
    (he : starEach (e :: es) X.env = (false, eval e X.env) :: starEach es X.env := by rfl) (hpl : (backTo pos (starEach es X.env)).any (·.1) = false := by rfl) :
    PE X (.Call (.Name x p) (e :: es) [] pos) (tCall sp dvs E t) := by
  constructor
  intro pins s σ H Q I want
  apply wpAny_Call_Name_kw
  refine ld_glob I hg hm ?_ hdb
  apply PySem.W.callWith_K (h₀ := X.base) I.ok.mod.kin hk ?_ he hpl
  refine thn (ha.run pos pins s σ H _ I want) ?_
  intro us s1 got
  obtain ⟨vs, H1, I1, r, say⟩ := got
  refine ⟨I1.kIn, wpAny_call ?_⟩
  have rr := r.append hd
  have many : (us ++ ds).length = ps.length := rr.length.symm.trans (T.arity say)
  refine codeAny_mono (T.go clr room I1.env0 (hb s1 us I1.kIn many) rr say) ?_
  intro res s2 h
  match res, h with
  | .error er, h => exact pass pins σ H1 s1 er s2 I1 h
  | .ok (.ret u), h => exact I1.after h
  | .ok .next, h => exact h.elim
  | .ok .brk, h => exact h.elim
  | .ok .cont, h => exact h.elim
end

/-! ### repr of data -/
def rReprD (K : PySem.W.Frag) : List V → Hp → VK → Prop := fun xs H Q => ∃ (v : V) (d : PyData), xs = [v] ∧ Dp K H v d ∧ d.showable = true ∧ d.hasDict = false ∧ d.depth ≤ 60 ∧ d.shown.length ≤ sizeLine ∧ Q (.str d.shown) H

section
variable {X : Cx}
theorem call_reprD (clr : Clr X.A) (hu : X.A.units + 64 < cLine) : CallR X (.builtin "repr") (rReprD X.K) := by
  intro pins s σ H xs us Q I r h
  obtain ⟨v, d, rfl, hd, hs, hn, hz, hl, q⟩ := h
  obtain ⟨u, rfl, rv⟩ := vals1 r
  obtain ⟨as, rd⟩ := Dp.reads I d v u hd rv
  have byRef : ∀ a : Addr, u = .ref a → wpAny (model X.prog X.w) X.A (call (.builtin "repr") [u]) (EP X pins σ Q) X.xe s := by
    intro a e
    subst e
    refine repr_of_reads' rd hs (PyData.noDict_hsm hn) clr ?_ (fun _ _ z => z) (fun h' t tk keep => ⟨.str _, H, I.kept keep, ⟨t, rfl⟩, q⟩) hl
    omega
  cases hd with
  | non =>
    cases (show u = Value.none from rv)
    exact PySem.P.repr_of_none ⟨.str _, H, I.tok _, ⟨_, rfl⟩, PyData.shown_none ▸ q⟩
  | bl b =>
    cases (show u = Value.bool b from rv)
    refine PySem.P.repr_of_bool ⟨.str _, H, I.tok _, ⟨_, rfl⟩, ?_⟩
    rw [PyData.shown_bool] at q
    exact q
  | int i =>
    obtain ⟨t, rfl⟩ := rv
    refine PySem.P.repr_of_int ?_ ⟨.str _, H, I.tok _, ⟨_, rfl⟩, ?_⟩
    · simpa [PyData.showable] using hs
    · rw [PyData.shown_int] at q
      exact q
  | str x =>
    obtain ⟨t, rfl⟩ := rv
    refine PySem.P.repr_of_str ⟨.str _, H, I.tok _, ⟨_, rfl⟩, ?_⟩ ?_
    · rw [PyData.shown_str] at q
      exact q
    · rw [PyData.shown_str] at hl
      exact hl
  | lst a b => exact byRef _ rv
  | tup a b => exact byRef _ rv
end

/-! ### a law's end -/
section
variable {P : Program} {w : World} {K : PySem.W.Frag} {mg mb : Str → Option Value} {k : Nat} {fa a : Addr} {fd : FuncData} {x : Str} {sp : Sp} {s₁ : Shared} {vs : List Value} {ns : List Int}
/-- the heap of the layer that knows the script alone -/
def hpScript (a : Addr) (vs : List Value) (ns : List Int) : Hp := fun b => if b = a then some (.frz { cls := .type "list", data := .seq vs.toArray } (.lst (ns.map V.int))) else none
/-- a law's def, told over every base, called by the claim on a script of the heap -/
theorem call_law (hin : K.In s₁.heap) (names : s₁.heap.Ns mainGlobals mg) (bn : s₁.heap.Ns builtinsNs mb) (bb : ∀ x : Str, x ≠ "__name__" → mb x = bootBuiltins x) (nolim : s₁.heap.NoLimit) (nogen : s₁.gens = #[])
    (script : s₁.heap.get? a = some { cls := .type "list", data := .seq vs.toArray }) (nums : IntsAre vs ns) (short : ns.length ≤ sizeLine) (room : Room k callerA)
    (T : ∀ base : Heap, K.In base → base.Ns mainGlobals mg → Told P w K mg base CX0 k fa fd [x] sp) (bind : ∀ (s : Shared) (u : Value), BindsTo s fd ⟨[u], []⟩ [(x, u)])
    (say : ∀ H : Hp, Only H → SqL K H a (ns.map V.int) → sp [.ref a] H (fun v _ => v = .bl true) fun _ _ _ => False) :
    codeAny (model P w) callerA (.call (.ref fa) ⟨[.ref a], []⟩) (fun r s' => r = .ok (.ret (.bool true)) ∧ OldK s₁.heap s'.heap ∧ s'.os = s₁.os ∧ AllBare s'.gens) s₁ := by
  have rv := vals_ints nums
  have many := nums.length
  suffices main : ∀ H : Hp, Only H → SqL K H a (ns.map V.int) → HOk P w H s₁.heap → (∀ b u, H b = some u → b = a) → (∀ u, H a = some u → K.lookup a = none) →
      codeAny (model P w) callerA (.call (.ref fa) ⟨[.ref a], []⟩) (fun r s' => r = .ok (.ret (.bool true)) ∧ OldK s₁.heap s'.heap ∧ s'.os = s₁.os ∧ AllBare s'.gens) s₁ by
    by_cases inK : ∃ o, K.lookup a = some o
    · obtain ⟨o, ho⟩ := inK
      have eo := hin a o ho
      rw [script] at eo
      cases eo
      refine main (fun _ => none) (fun _ => .inl rfl) (.inr ⟨_, vs.toArray, _, ho, rfl, rfl, rfl, ?_, ?_⟩) (fun _ u z => nomatch (z : (none : Option HO) = some u)) (fun _ u z => nomatch (z : (none : Option HO) = some u)) (fun u z => nomatch (z : (none : Option HO) = some u))
      · rw [List.size_toArray, many]
        exact short
      · simpa using rv
    · have outK : K.lookup a = none := by
        cases q : K.lookup a with
        | none => rfl
        | some o => exact (inK ⟨o, q⟩).elim
      have only : ∀ b u, hpScript a vs ns b = some u → b = a := fun b u z => by
        by_cases e : b = a
        · exact e
        · exact nomatch (if_neg e).symm.trans z
      refine main (hpScript a vs ns) (fun b => ?_) (.inl (.inr ⟨_, if_pos rfl⟩)) (fun b u z => ?_) only (fun _ _ => outK)
      · by_cases e : b = a
        · exact .inr ⟨_, _, if_pos e⟩
        · exact .inl (if_neg e)
      · obtain rfl := only b u z
        cases (if_pos rfl).symm.trans z
        exact ⟨script, by simpa using short, vs, _, rv, script⟩
  intro H only seq ok alone outK
  have under : ∀ {b : Addr} {o : Obj}, s₁.heap.get? b = some o → H b = none → (hidT s₁.heap H).get? b = some o := fun z n => hidT_get z n
  have dictOut : ∀ {b : Addr} {o : Obj} {es : Array DictEntry} {ep : Nat}, s₁.heap.get? b = some o → o.data = .dict es ep → H b = none := by
    intro b o es ep z d
    cases q : H b with
    | none => rfl
    | some u =>
      obtain rfl := alone b u q
      rw [script] at z
      cases z
      exact nomatch (d : Data.seq vs.toArray _ = Data.dict es ep)
  have nsUnder : ∀ {b : Addr} {m : Str → Option Value}, s₁.heap.Ns b m → (hidT s₁.heap H).Ns b m := by
    intro b m z
    obtain ⟨o, es, ep, e, d, r⟩ := z
    exact ⟨o, es, ep, under e (dictOut e d), d, r⟩
  have inBase : K.In (hidT s₁.heap H) := by
    intro b o e
    refine under (hin b o e) ?_
    cases q : H b with
    | none => rfl
    | some u =>
      obtain rfl := alone b u q
      rw [outK u q] at e
      cases e
  obtain ⟨mc, lim1, lim2⟩ := nolim
  have e0 : Env0 P w K mg (hidT s₁.heap H) callerA [] s₁ H :=
    { frames := rfl, mod := ⟨inBase, nsUnder names, ⟨mb, nsUnder bn, bb⟩, ⟨mc, nsUnder lim1, lim2⟩⟩, bs := fun _ _ z => of_hidT z, bsz := Nat.le_of_eq (hidT_size _ _), funs := trivial
      frf := fun b z => absurd (show b ∈ ([] : List Addr) from z) List.not_mem_nil, hok := ok, bare := .of_eq nogen }
  have run := (T _ inBase (nsUnder names)).go (A := callerA) (us := [.ref a]) (vs := [.ref a]) rfl room e0 (bind s₁ (.ref a)) (.cons rfl .nil) (say H only seq)
  refine codeAny_mono run ?_
  intro r s' h
  match r, h with
  | .error _, h => exact h.elim
  | .ok .next, h => exact h.elim
  | .ok .brk, h => exact h.elim
  | .ok .cont, h => exact h.elim
  | .ok (.ret u), h =>
    obtain ⟨v, H', os, bare, un, ok', r', q⟩ := h
    cases (show v = .bl true from q)
    cases (show u = Value.bool true from r')
    refine ⟨rfl, OldK.of_keep ?_, os, bare⟩
    intro b o z
    rcases only b with e | ⟨ob, xs, e⟩
    · exact un.keep b o z e (fun y => absurd (show b ∈ ([] : List Addr) from y) List.not_mem_nil) (by simp)
    · have e' := un.frzs b ob _ e
      have h1 := (ok b _ e).1
      have h2 := (ok' b _ e').1
      rw [z] at h1
      cases h1
      exact h2

theorem end_law {l : PySem.W.OpenLaw} {k : Nat} {q : Program} {loose : List Str} {XP : (Str → Option Value) → Heap → Prop} {YP : World → Heap → Prop} {d : DefRec} {K : Params → PySem.W.Frag} {sp : PySem.W.Frag → Sp} {x : Str}
    (hn : l.most = some 63) (hdf : d.params.defaults = []) (room : Room k callerA) (hY : ∀ (w : World) (h : Heap), YP w h → (K w.params).In h)
    (F : ∀ (w : World) (mg : Str → Option Value) (fa : Addr) (h : Heap), (K w.params).In h → h.Ns mainGlobals mg → mg d.name = some (.ref fa) →
      ∃ fd : FuncData, (∀ (s : Shared) (u : Value), BindsTo s fd ⟨[u], []⟩ [(x, u)]) ∧ ∀ base : Heap, (K w.params).In base → base.Ns mainGlobals mg → Told l.prog w (K w.params) mg base CX0 k fa fd [x] (sp (K w.params)))
    (say : ∀ (K : PySem.W.Frag) (H : Hp) (a : Addr) (ns : List Int), ns.length ≤ 63 → SqL K H a (ns.map V.int) → sp K [.ref a] H (fun v _ => v = .bl true) fun _ _ _ => False) :
    PySem.W.WalkO q loose XP YP l.row.toRowW d [] (fun f vs => PySem.call f vs) := by
  apply Att.attach_call hn hdf
  intro w s₀ s₁ mg mb fa o pm cd doc a vs ns G Y ho hd hcd hmg script nums len nogen
  obtain ⟨fd, bind, T⟩ := F w mg fa _ (hY w _ Y) G.T.g hmg
  exact call_law (hY w _ Y) G.T.g G.T.b G.T.builtins G.T.nolimit nogen script nums (Nat.le_trans len (by decide)) room T bind fun H _ seq => say _ H a ns len seq
end
end Sb

set_option Elab.async false
set_option linter.all false
set_option maxRecDepth 100000
namespace Sb
open PySem PySem.Spec PyProof.Rows L2

/-! ### numbers in base 256, the most significant digit first -/
def digs (n : Nat) : List Nat := if h : n = 0 then [] else digs (n / 256) ++ [n % 256]
termination_by n
decreasing_by omega
theorem digs_zero : digs 0 = [] := by rw [digs]; rfl
theorem digs_pos {n : Nat} (h : n ≠ 0) : digs n = digs (n / 256) ++ [n % 256] := by
  rw [digs, dif_neg h]
theorem digs_at : ∀ (n j : Nat), j < (digs n).length → (digs n)[j]? = some (n / 256 ^ ((digs n).length - 1 - j) % 256) := by
  intro n
  induction n using Nat.strongRecOn with
  | _ n ih =>
    intro j hj
    by_cases h : n = 0
    · subst h
      rw [digs_zero] at hj
      exact absurd hj (Nat.not_lt_zero _)
    · rw [digs_pos h] at hj ⊢
      rw [List.length_append, List.length_singleton] at hj ⊢
      by_cases hl : j < (digs (n / 256)).length
      · rw [List.getElem?_append_left hl, ih (n / 256) (by omega) j hl, Nat.div_div_eq_div_mul]
        have e : (digs (n / 256)).length + 1 - 1 - j = ((digs (n / 256)).length - 1 - j) + 1 := by omega
        rw [e, Nat.pow_succ, Nat.mul_comm]
      · have e : j = (digs (n / 256)).length := by omega
        subst e
        rw [List.getElem?_append_right (Nat.le_refl _), Nat.sub_self]
        have e2 : (digs (n / 256)).length + 1 - 1 - (digs (n / 256)).length = 0 := by omega
        rw [e2, Nat.pow_zero, Nat.div_one]
        rfl
theorem digs_len_le : ∀ (k n : Nat), n < 256 ^ k → (digs n).length ≤ k
  | 0, n, h => by
    have e : n = 0 := by
      rw [Nat.pow_zero] at h
      omega
    rw [e, digs_zero]
    exact Nat.le_refl _
  | k + 1, n, h => by
    by_cases e : n = 0
    · rw [e, digs_zero]
      exact Nat.zero_le _
    · rw [digs_pos e, List.length_append, List.length_singleton]
      rw [Nat.pow_succ] at h
      have := digs_len_le k (n / 256) (by omega)
      omega
theorem digs_lt : ∀ (n d : Nat), d ∈ digs n → d < 256 := by
  intro n
  induction n using Nat.strongRecOn with
  | _ n ih =>
    intro d hd
    by_cases h : n = 0
    · rw [h, digs_zero] at hd
      cases hd
    · rw [digs_pos h] at hd
      rcases List.mem_append.mp hd with q | q
      · exact ih _ (by omega) d q
      · rw [List.mem_singleton] at q
        omega
theorem digs_len : ∀ n : Nat, (digs n).length = (Builtin.Int.intBits (n : Int) + 7) / 8 := by
  intro n
  induction n using Nat.strongRecOn with
  | _ n ih =>
    by_cases h : n = 0
    · subst h
      rw [digs_zero]
      decide
    · have bits : Builtin.Int.intBits (n : Int) = n.log2 + 1 := by
        unfold Builtin.Int.intBits
        rw [if_neg (by simpa using h)]
        rfl
      rw [bits, digs_pos h, List.length_append, List.length_singleton, ih (n / 256) (by omega)]
      by_cases hs : n < 256
      · have e : n / 256 = 0 := by omega
        rw [e]
        have hl : n.log2 < 8 := (Nat.log2_lt h).mpr hs
        have e0 : Builtin.Int.intBits ((0 : Nat) : Int) = 0 := by decide
        rw [e0]
        omega
      · have h0 : n / 256 ≠ 0 := by omega
        have bits2 : Builtin.Int.intBits ((n / 256 : Nat) : Int) = (n / 256).log2 + 1 := by
          unfold Builtin.Int.intBits
          rw [if_neg (by
            have := h0
            simp
            omega)]
          rfl
        rw [bits2]
        have e : n.log2 = (n / 256).log2 + 8 := by
          obtain ⟨h1, h2⟩ := (Nat.log2_eq_iff h0 (k := (n / 256).log2)).mp rfl
          refine (Nat.log2_eq_iff h).mpr ⟨?_, ?_⟩
          · rw [Nat.pow_add]
            omega
          · have e9 : (n / 256).log2 + 8 + 1 = ((n / 256).log2 + 1) + 8 := by omega
            rw [e9, Nat.pow_add]
            omega
        omega

/-- the code of a number -/
def codeN (n : Nat) : List Nat := if n < 192 then [n] else (191 + (digs n).length) :: digs n
theorem codeN_small {n : Nat} (h : n < 192) : codeN n = [n] := if_pos h
theorem codeN_big {n : Nat} (h : ¬ n < 192) : codeN n = (191 + (digs n).length) :: digs n := if_neg h
theorem codeN_len {n : Nat} (h : n < 256 ^ 63) : (codeN n).length ≤ 64 := by
  by_cases c : n < 192
  · rw [codeN_small c, List.length_singleton]
    omega
  · rw [codeN_big c, List.length_cons]
    have := digs_len_le 63 n h
    omega
theorem codeN_lt {n : Nat} (h : n < 256 ^ 63) : ∀ d ∈ codeN n, d < 256 := by
  intro d hd
  by_cases c : n < 192
  · rw [codeN_small c, List.mem_singleton] at hd
    omega
  · rw [codeN_big c] at hd
    rcases List.mem_cons.mp hd with q | q
    · have := digs_len_le 63 n h
      omega
    · exact digs_lt n d q

/-! ### heaps -/
/-- numbers as values -/
def vN (d : Nat) : V := .int (d : Int)
/-- all but what stands at p is as it was -/
def But (p : Addr) (H H' : Hp) : Prop := ∀ b o, b ≠ p → H b = some o → H' b = some o
theorem But.refl (p : Addr) (H : Hp) : But p H H := fun _ _ _ h => h
theorem But.trans {p : Addr} {H H1 H2 : Hp} (a : But p H H1) (b : But p H1 H2) : But p H H2 := fun c o n h => b c o n (a c o n h)
theorem But.put {p : Addr} {H : Hp} {o : HO} : But p H (upd H p o) := fun b u n h => by
  rw [upd_ne n]
  exact h
theorem But.seq {p a : Addr} {K : PySem.W.Frag} {H H' : Hp} {xs : List V} (e : But p H H') (n : a ≠ p) (h : SqL K H a xs) : SqL K H' a xs := by
  rcases h with (h | ⟨o, h⟩) | h
  · exact .inl (.inl (e _ _ n h))
  · exact .inl (.inr ⟨o, e _ _ n h⟩)
  · exact .inr h
theorem But.same {p : Addr} {H H1 H2 : Hp} (a : But p H H1) (b : Same H1 H2) : But p H H2 := fun c o n h => b c o (a c o n h)
theorem Same.but {p : Addr} {H H' : Hp} (a : Same H H') : But p H H' := fun c o _ h => a c o h
theorem same_new {H : Hp} {p : Addr} {o : HO} (h : H p = none) : Same H (upd H p o) := fun b u z => by
  rw [upd_ne (ne_of_none z h)]
  exact z
theorem seq_new {K : PySem.W.Frag} {H : Hp} {p : Addr} {xs : List V} : SqL K (upd H p (.lst xs)) p xs := .inl (.inl upd_same)
theorem seq_of {K : PySem.W.Frag} {H : Hp} {p : Addr} {xs : List V} (h : H p = some (.lst xs)) : SqL K H p xs := .inl (.inl h)
/-- the law's bag: two numbers to draw from, and how many draws there were (at most n) -/
def BagAt (H : Hp) (p : Addr) (n : Nat) : Prop := ∃ d s k : Int, H p = some (.lst [.int d, .int s, .int k]) ∧ 0 ≤ d ∧ 0 ≤ s ∧ s ≤ 2 ^ 40 ∧ 0 ≤ k ∧ k ≤ n
theorem BagAt.mono {H : Hp} {p : Addr} {n m : Nat} (b : BagAt H p n) (h : n ≤ m) : BagAt H p m := by
  obtain ⟨d, s, k, e, h1, h2, h3, h4, h5⟩ := b
  exact ⟨d, s, k, e, h1, h2, h3, h4, by omega⟩
theorem BagAt.same {H H' : Hp} {p : Addr} {n : Nat} (b : BagAt H p n) (s : Same H H') : BagAt H' p n := by
  obtain ⟨d, z, k, e, r⟩ := b
  exact ⟨d, z, k, s _ _ e, r⟩
theorem sz {n : Nat} (h : n ≤ 1000000) : n ≤ sizeLine := by
  rw [sizeLine_eq]
  omega
theorem sz_lt {n : Nat} (h : n ≤ 1000000) : n < sizeLine := by
  rw [sizeLine_eq]
  omega
/-- a conditional expression whose two ways both give what R says -/
theorem if_val {c : TT} {ta tb : TE} {σ : L2.St} {H : Hp} {Q : VK} (R : V → Prop) (go : ∀ Q' : VK, (∀ v, R v → Q' v H) → tIf c ta tb σ H Q') (k : ∀ v, R v → Q v H) : tIf c ta tb σ H Q := go Q k

/-! ### lists of numbers as data -/
theorem dp_nums {K : PySem.W.Frag} {H : Hp} : ∀ l : List Nat, DpAll K H (l.map vN) (l.map fun d : Nat => PyData.int (d : Int))
  | [] => .nil
  | d :: l => .cons (.int _) (dp_nums l)
theorem shown_len_append : True := trivial
end Sb
namespace Sb
open PySem PySem.Spec PyProof.Rows L2
def dN (d : Nat) : PyData := .int (d : Int)
theorem nums_data : ∀ (l : List Nat), (∀ d ∈ l, d < 1024) → PyData.showableAll (l.map dN) = true ∧ PyData.hasDictAll (l.map dN) = false ∧ PyData.depthAll (l.map dN) ≤ 1 ∧ PyData.leavesShortAll 13 (l.map dN) = true ∧ PyData.weightAll (l.map dN) ≤ 12 * l.length
  | [], _ => by decide
  | d :: l, h => by
    obtain ⟨h1, h2, h3, h4, h5⟩ := nums_data l fun x hx => h x (List.mem_cons_of_mem _ hx)
    have hd := h d List.mem_cons_self
    have hn : ((d : Int).natAbs) = d := Int.natAbs_natCast d
    have hl : ((d : Int).natAbs).log2 < 11 := by
      rw [hn]
      by_cases e : d = 0
      · subst e
        decide
      · have : d.log2 < 10 := (Nat.log2_lt e).mpr hd
        omega
    have hs : (PyData.shown (dN d)).length ≤ 13 := PyData.shown_int_le (by rw [hn]; omega)
    refine ⟨?_, ?_, ?_, ?_, ?_⟩
    · show (PyData.showable (dN d) && PyData.showableAll (l.map dN)) = true
      rw [h1, Bool.and_true]
      exact decide_eq_true (show ((d : Int).natAbs).log2 < 1920 by omega)
    · show (PyData.hasDict (dN d) || PyData.hasDictAll (l.map dN)) = false
      rw [h2]
      rfl
    · show max (PyData.depth (dN d)) (PyData.depthAll (l.map dN)) ≤ 1
      have : PyData.depth (dN d) ≤ 1 := by
        unfold dN
        simp [PyData.depth]
      omega
    · show (PyData.leavesShort 13 (dN d) && PyData.leavesShortAll 13 (l.map dN)) = true
      rw [h4, Bool.and_true]
      exact decide_eq_true hs
    · show PyData.weight (dN d) + 1 + PyData.weightAll (l.map dN) ≤ 12 * (l.length + 1)
      have : PyData.weight (dN d) ≤ 11 := by
        show (if ((d : Int) == 0) = true then 0 else (d : Int).natAbs.log2 + 1) ≤ 11
        split <;> omega
      omega
theorem dp_nums' {K : PySem.W.Frag} {H : Hp} : ∀ l : List Nat, DpAll K H (l.map vN) (l.map dN)
  | [] => .nil
  | d :: l => .cons (.int _) (dp_nums' l)
/-- repr of a list of small numbers -/
theorem repr_nums {K : PySem.W.Frag} {H : Hp} {a : Addr} {l : List Nat} {Q : VK} (h : SqL K H a (l.map vN)) (hs : ∀ d ∈ l, d < 1024) (hl : l.length ≤ 5000) (q : Q (.str (PyData.list (l.map dN)).shown) H) : rReprD K [.ref a] H Q := by
  obtain ⟨h1, h2, h3, h4, h5⟩ := nums_data l hs
  refine ⟨_, .list (l.map dN), rfl, .lst h (dp_nums' l), ?_, ?_, ?_, ?_, q⟩
  · exact h1
  · exact h2
  · show PyData.depthAll (l.map dN) + 1 ≤ 60
    omega
  · have := PyData.shown_le 13 (by decide) (.list (l.map dN)) h4
    have hw : PyData.weight (.list (l.map dN)) = PyData.weightAll (l.map dN) := by simp only [PyData.weight]
    rw [hw] at this
    rw [sizeLine_eq]
    omega
theorem repr_int {K : PySem.W.Frag} {H : Hp} {i : Int} {Q : VK} (h : i.natAbs.log2 < 1920) (q : Q (.str (PyData.int i).shown) H) : rReprD K [.int i] H Q := by
  refine ⟨_, .int i, rfl, .int i, ?_, ?_, ?_, ?_, q⟩
  · simpa [PyData.showable] using h
  · simp [PyData.hasDict]
  · simp [PyData.depth]
  · rw [PyData.shown_int]
    exact int_text_fits h
theorem seq_but {K : PySem.W.Frag} {H H1 H' : Hp} {a p : Addr} {xs : List V} (h : SqL K H a xs) (np : H p = none) (s : Same H H1) (b : But p H1 H') : SqL K H' a xs := by
  rcases h with (h | ⟨o, h⟩) | h
  · exact .inl (.inl (b _ _ (ne_of_none h np) (s _ _ h)))
  · exact .inl (.inr ⟨o, b _ _ (ne_of_none h np) (s _ _ h)⟩)
  · exact .inr h
/-- range(max(1, n)) -/
theorem turns_le {n m : Nat} (h : n ≤ m) (h1 : 1 ≤ m) : (if (n : Int) > 1 then (n : Int) else 1).toNat ≤ m := by
  split <;> omega
def Shows (d : PyData) : Prop := d.showable = true ∧ d.hasDict = false ∧ d.depth ≤ 60 ∧ d.shown.length ≤ sizeLine
theorem nums_ok {l : List Nat} (hs : ∀ d ∈ l, d < 1024) (hl : l.length ≤ 5000) : Shows (.list (l.map dN)) := by
  obtain ⟨h1, h2, h3, h4, h5⟩ := nums_data l hs
  refine ⟨h1, h2, ?_, ?_⟩
  · show PyData.depthAll (l.map dN) + 1 ≤ 60
    omega
  · have := PyData.shown_le 13 (by decide) (.list (l.map dN)) h4
    have hw : PyData.weight (.list (l.map dN)) = PyData.weightAll (l.map dN) := by simp only [PyData.weight]
    rw [hw] at this
    rw [sizeLine_eq]
    omega
theorem int_ok {i : Int} (h : i.natAbs.log2 < 1920) : Shows (.int i) := by
  refine ⟨?_, ?_, ?_, ?_⟩
  · simpa [PyData.showable] using h
  · simp [PyData.hasDict]
  · simp [PyData.depth]
  · rw [PyData.shown_int]
    exact int_text_fits h
/-- what is new since H1 may change -/
theorem But.mut {p f : Addr} {H H1 H2 : Hp} {o : HO} (a : But p H H1) (n : H1 f = none) (b : But p H1 H2) : But p H (upd H2 f o) := fun c u hc h => by
  have h1 := a c u hc h
  rw [upd_ne (ne_of_none h1 n)]
  exact b c u hc h1
theorem BagAt.mut {H H1 : Hp} {p f : Addr} {n : Nat} {o : HO} (b : BagAt H p n) (nf : H f = none) (s : Same H H1) : BagAt (upd H1 f o) p n := by
  obtain ⟨d, z, k, e, r⟩ := b
  exact ⟨d, z, k, by rw [upd_ne (ne_of_none e nf)]; exact s _ _ e, r⟩
theorem But.free {p q : Addr} {H H' : Hp} (b : But p H H') (n : H' q = none) (ne : q ≠ p) : H q = none := by
  cases z : H q with
  | none => rfl
  | some o =>
    rw [b q o ne z] at n
    cases n
end Sb
namespace Sb
open PySem PySem.Spec PyProof.Rows L2
/-- a conditional expression that may make objects -/
theorem tIf_all {c : TT} {ta tb : TE} {σ : L2.St} {H : Hp} {Q : VK} (R : V → Hp → Prop) (go : ∀ Q' : VK, (∀ v H', R v H' → Q' v H') → tIf c ta tb σ H Q') (k : ∀ v H', R v H' → Q v H') : tIf c ta tb σ H Q := go Q k
end Sb

set_option Elab.async false
set_option linter.all false
set_option maxRecDepth 100000
set_option maxHeartbeats 2000000
namespace Sb
open PySem PySem.Spec PyProof.Rows L2

/-! ### errors with one field, whose __init__ sets it -/
def spInit (K : PySem.W.Frag) (f : Str) : Sp := fun vs H Q _ => ∃ (a C : Addr) (v : V), vs = [.ref a, v] ∧ OexC K C ∧ PySem.W.findIn K (.ref C) f = some none ∧ H a = some (exo a C none) ∧
  ∀ dx, H dx = none → dx ≠ a → Q .non (upd (upd H dx (exd dx [(f, v)])) a (exo a C (some dx)))
/-- what is asked of such a class for isinstance -/
structure IsC (K : PySem.W.Frag) (D : Addr) : Prop where
  cl : (PySem.W.clsIn K D).isSome = true
  ga : PySem.W.findIn K (.ref D) "__getattribute__" = some (some (.builtin "BaseException.__getattribute__"))
  gg : PySem.W.findIn K (.ref D) "__getattr__" = some none
  ex : PySem.W.subIn K (.ref D) (.type "BaseException") = some true
  cc : PySem.W.findIn K (.ref D) "__class__" = some (some (.builtin "object.__class__"))
  ge : PySem.W.specialIn K (.builtin "object.__class__") "__get__" = some (some (.builtin "getset_descriptor.__get__"))
  tk : PySem.W.takesIn K (.builtin "object.__class__") = some true
  ob : PySem.W.mroIn K D (.type "object") = some true
/-- the class x of the program, at C, with the field f -/
structure Err (P : Program) (w : World) (K : PySem.W.Frag) (mg : Str → Option Value) (base : Heap) (x f : Str) (C : Addr) : Prop where
  g : mg x = some (.ref C)
  T : OexC K C
  X : XfC K C
  I : IsC K C
  no : PySem.W.findIn K (.ref C) f = some none
  maker : ∃ fI fd, PySem.W.findIn K (.ref C) "__init__" = some (some (.ref fI)) ∧ PySem.W.typeIn K (.ref fI) = some (.type "function") ∧ FnOk P w K mg base CX0 1 fI fd ["self", f] (spInit K f) ∧ Binds K fd ["self", f] []
section
variable {X : Cx} {x f : Str} {C : Addr} {e : Expr} {es : List Expr} {ta : TA} {p pos : Pos}
theorem pmk_err (R : Err X.prog X.w X.K X.mg X.base x f C) (room : Room 2 X.A) (hg : Gl X x) (ha : PA X (e :: es) ta)
    (hdb : (x == ("__debug__" : Str)) = false := by decide) (he : starEach (e :: es) X.env = (false, eval e X.env) :: starEach es X.env := by rfl) (hpl : (backTo pos (starEach es X.env)).any (·.1) = false := by rfl) :
    PMk X (.Call (.Name x p) (e :: es) [] pos) (tMkO C (spInit X.K f) [] ta) := by
  obtain ⟨fI, fd, h1, h2, h3, h4⟩ := R.maker
  exact pmk_oex R.T h1 h2 h3 room h4 .nil pass0 hg R.g ha hdb he hpl
end
theorem err_made {K : PySem.W.Frag} {C : Addr} {f : Str} {v : V} {H : Hp} {R : XK} (T : OexC K C) (no : PySem.W.findIn K (.ref C) f = some none) (k : ∀ d H', H d = none → Same H H' → H' d = some (.xd [(f, v)]) → R (.ref C) (some d) H') :
    ([v] : List V).length ≤ 1000 ∧ ∀ a, H a = none → spInit K f (.ref a :: ([v] ++ [])) (upd H a (exo a C none)) (fun u H2 => u = .non ∧ ∃ (d : Addr) (fs : List (Str × V)), H2 a = some (exo a C (some d)) ∧ H2 d = some (exd d fs) ∧ H d = none ∧
      R (.ref C) (some d) (upd (del H2 a) d (.xd fs))) (fun _ _ _ => False) := by
  refine ⟨Nat.le_trans (Nat.le_refl 1) (by decide), fun a na => ⟨a, C, v, rfl, T, no, upd_same, fun dx nd ne => ⟨rfl, dx, [(f, v)], upd_same, ?_, ?_, ?_⟩⟩⟩
  · rw [upd_ne ne, upd_same]
  · rw [upd_ne ne] at nd
    exact nd
  · rw [upd_ne ne] at nd
    refine k dx _ nd ?_ upd_same
    intro b o z
    have hb : b ≠ a := ne_of_none z na
    have hd : b ≠ dx := ne_of_none z nd
    rw [upd_ne hd, del_ne hb, upd_ne hb, upd_ne hd, upd_ne hb]
    exact z

/-! the __init__ of such a class, as it stands in the text -/
section
variable {P : Program} {w : World} {K : PySem.W.Frag} {mg : Str → Option Value} {base : Heap}
theorem ok_initBy {q : Str} {st : Stmt} {f : Addr} {fd : FuncData} {fld : Str} (F : Fun K "__init__" q st f fd) (S : FnScope ["self", fld] ["self", fld] (defScope st))
    (body : ∀ (cdv : Value) (A : Around) (outer : List Env) (s : Shared) (H : Hp) (E : XK), PSs (cxOf CX0 P w K mg base ["self", fld] q (defScope st) f cdv A outer s H E).nox (defBody st) (tOst K fld (tVar 0) (tVar 1))) :
    FnOk P w K mg base CX0 1 f fd ["self", fld] (spInit K fld) := by
  refine F.ok S (fun vs H Q E h => ?_) (fun cdv A outer s H vs Q E hr h => ?_)
  · obtain ⟨a, C, v, rfl, _⟩ := h
    rfl
  · obtain ⟨a, C, v, rfl, T, no, ha, k⟩ := h
    exact ⟨_, body cdv A outer s H E, _, rfl, _, rfl, a, C, rfl, T, no, .inl ⟨ha, fun dx n ne => k dx n ne⟩⟩
end

/-! ### isinstance of the caught error -/
def rIsX (K : PySem.W.Frag) (cls : Value) (d : Option Addr) (a : Addr) : List V → Hp → VK → Prop := fun xs H Q =>
  ∃ (D dd : Addr) (fs : List (Str × V)) (c : V) (cv : Value) (b : Bool), xs = [.ref a, c] ∧ cls = .ref D ∧ IsC K D ∧ d = some dd ∧ H dd = some (.xd fs) ∧ (∀ u, RelV c u → u = cv) ∧ PySem.W.kitOne K (.ref D) cv = some b ∧ Q (.bl b) H
theorem call_isX {X : Cx} {a : Addr} {cls : Value} {d : Option Addr} {oe : Obj} {pn : List (Addr × Obj)} (hz : Zc cls d oe) (hf : ∃ vs, oe.data = .fields vs) : CallR (X.suite a ((a, oe) :: pn)) (.builtin "isinstance") (rIsX X.K cls d a) := by
  intro pins s σ H xs us Q I r h
  obtain ⟨D, dd, fs, c, cv, b, rfl, rfl, T, rfl, hd, rc, e, q⟩ := h
  obtain ⟨u1, u2, rfl, r1, r2⟩ := vals2 r
  cases (show u1 = Value.ref a from r1)
  cases rc _ r2
  obtain ⟨here, _⟩ := I.pin (a, oe) (List.mem_append.mpr (.inl List.mem_cons_self))
  obtain ⟨vs, hv⟩ := hf
  obtain ⟨mA, hns, _⟩ := (show ObjOk X.prog X.w H s.heap dd (.xd fs) from I.hok dd _ hd)
  obtain ⟨od, ho, _⟩ := lookIn_ns hns
  have J : PySem.W.InstAt s.heap a oe D (some od) := ⟨here, hz.1, by unfold PySem.W.notCls; rw [hv] <;> rfl, by rw [hz.2]; exact ho⟩
  exact PySem.W.kia_one (PySem.W.kitx_exc T.cl T.ga T.gg T.ex T.cc T.ge T.tk T.ob) I.kIn J e (fun z => nomatch z) fun tk => ⟨.bl b, H, I.tok tk, rfl, q⟩

/-! ### calls whose errors are wished for at the caller's slots -/
section
variable {X : Cx} {CX : CXT} {k : Nat} {f : Addr} {fd : FuncData} {ps : List Str} {sp : Sp} {ds : List Value} {dvs : List V} {E : L2.St → XK} {x : Str} {p pos : Pos} {e : Expr} {es : List Expr} {t : TA}
def tToldS (sp : Sp) (dvs : List V) (E : L2.St → XK) (t : TA) : TE := fun σ H Q => t σ H fun vs H1 => sp (vs ++ dvs) H1 Q (E σ)
theorem pe_toldS (T : Told X.prog X.w X.K X.mg X.base CX k f fd ps sp) (clr : Clr X.A) (room : Room k X.A) (hg : Gl X x) (hm : X.mg x = some (.ref f)) (hk : PySem.W.keepIn X.K (.ref f) = true)
    (hb : Binds X.K fd ps ds) (hd : Vals dvs ds) (pass : ∀ σ, PassesAt CX X σ (E σ)) (ha : PA X (e :: es) t) (hdb : (x == ("__debug__" : Str)) = false := by decide)
    (he : starEach (e :: es) X.env = (false, eval e X.env) :: starEach es X.env := by rfl) (hpl : (backTo pos (starEach es X.env)).any (·.1) = false := by rfl) :
    PE X (.Call (.Name x p) (e :: es) [] pos) (tToldS sp dvs E t) := by
  constructor
  intro pins s σ H Q I want
  apply wpAny_Call_Name_kw
  refine ld_glob I hg hm ?_ hdb
  apply PySem.W.callWith_K (h₀ := X.base) I.ok.mod.kin hk ?_ he hpl
  refine thn (ha.run pos pins s σ H _ I want) ?_
  intro us s1 got
  obtain ⟨vs, H1, I1, r, say⟩ := got
  refine ⟨I1.kIn, wpAny_call ?_⟩
  have rr := r.append hd
  have many : (us ++ ds).length = ps.length := rr.length.symm.trans (T.arity say)
  refine codeAny_mono (T.go clr room I1.env0 (hb s1 us I1.kIn many) rr say) ?_
  intro res s2 h
  match res, h with
  | .error er, h => exact pass σ pins H1 s1 er s2 I1 h
  | .ok (.ret u), h => exact I1.after h
  | .ok .next, h => exact h.elim
  | .ok .brk, h => exact h.elim
  | .ok .cont, h => exact h.elim
end

theorem call_reprDs {X : Cx} {a : Addr} {pn : List (Addr × Obj)} (clr : Clr X.A) (hu : X.A.units + 64 < cLine) : CallR (X.suite a pn) (.builtin "repr") (rReprD X.K) := call_reprD (X := X.suite a pn) clr hu

/-! ### isinstance by classes of the program -/
theorem cls_some {K : PySem.W.Frag} {C : Addr} (h : PySem.W.hasDictIn K C = true) : (PySem.W.clsIn K C).isSome = true := by
  obtain ⟨cd, hc, _⟩ := PySem.W.any_some h
  rw [hc]
  rfl
theorem kit_own {K : PySem.W.Frag} {D C : Addr} {b : Bool} (ne : b = false → D ≠ C) (cl : (PySem.W.clsIn K C).isSome = true) (ty : PySem.W.typeIn K (.ref C) = some (.type "type")) (s : PySem.W.subIn K (.ref D) (.ref C) = some b) : PySem.W.kitOne K (.ref D) (.ref C) = some b := by
  have e2 : ((PySem.W.clsIn K C).isSome && PySem.W.typeIn K (.ref C) == some (.type "type")) = true := by rw [cl, ty] <;> rfl
  have e3 : PySem.W.kitCls K (.ref D) (.ref C) = some b := by
    show (if ((PySem.W.clsIn K C).isSome && PySem.W.typeIn K (.ref C) == some (.type "type")) = true then PySem.W.subIn K (.ref D) (.ref C) else none) = some b
    rw [if_pos e2]
    exact s
  unfold PySem.W.kitOne
  by_cases h : (Value.ref D == Value.ref C) = true
  · rw [if_pos h]
    have e : D = C := Value.ref.inj (beq_iff_eq.mp h)
    cases b with
    | true => rfl
    | false => exact absurd e (ne rfl)
  · rw [if_neg h]
    exact e3
theorem kit_type {K : PySem.W.Frag} {D : Addr} {T : String} {b : Bool} (m : PySem.W.kitMeta T = true) (s : PySem.W.subIn K (.ref D) (.type T) = some b) : PySem.W.kitOne K (.ref D) (.type T) = some b := by
  have h : ¬ (Value.ref D == Value.type T) = true := fun z => nomatch (beq_iff_eq.mp z)
  unfold PySem.W.kitOne
  rw [if_neg h]
  show (if PySem.W.kitMeta T = true then PySem.W.subIn K (.ref D) (.type T) else none) = some b
  rw [if_pos m]
  exact s
theorem ne_sub {K : PySem.W.Frag} {D C : Addr} (h1 : PySem.W.subIn K (.ref D) (.ref D) = some true) (h2 : PySem.W.subIn K (.ref D) (.ref C) = some false) : D ≠ C := fun e => by
  rw [← e, h1] at h2
  cases h2
/-- what an except clause asks of a class S of the program -/
theorem exm_own {K : PySem.W.Frag} {D S : Addr} {b : Bool} (h1 : PySem.W.subIn K (.ref S) (.type "BaseException") = some true) (h2 : PySem.W.hasDictIn K S = true) (h3 : PySem.W.typeIn K (.ref S) = some (.type "type")) (h4 : PySem.W.subIn K (.ref D) (.ref S) = some b) :
    PySem.W.exmOne K (.ref D) (.ref S) = some b := by
  have e1 : (PySem.W.subIn K (.ref S) (.type "BaseException") == some true) = true := by rw [h1] <;> rfl
  have e2 : ((PySem.W.clsIn K S).isSome && PySem.W.typeIn K (.ref S) == some (.type "type")) = true := by rw [cls_some h2, h3] <;> rfl
  show (if (PySem.W.subIn K (.ref S) (.type "BaseException") == some true) = true then (if ((PySem.W.clsIn K S).isSome && PySem.W.typeIn K (.ref S) == some (.type "type")) = true then PySem.W.subIn K (.ref D) (.ref S) else none) else none) = some b
  rw [if_pos e1, if_pos e2]
  exact h4
theorem relV_ref {C : Addr} : ∀ u, RelV (.ref C) u → u = .ref C := fun _ h => h
theorem relV_ty {T : String} : ∀ u, RelV (.ty T) u → u = .type T := fun _ h => h
end Sb
namespace Sb
open PySem PySem.Spec PyProof.Rows L2
theorem seqT {K : PySem.W.Frag} {H H' : Hp} {a : Addr} {xs : List V} (e : Same H H') (h : SqT K H a xs) : SqT K H' a xs := by
  rcases h with (h | ⟨o, h⟩) | h
  · exact .inl (.inl (e _ _ h))
  · exact .inl (.inr ⟨o, e _ _ h⟩)
  · exact .inr h
mutual
theorem dpSame {K : PySem.W.Frag} {H H' : Hp} (s : Same H H') : ∀ {v : V} {d : PyData}, Dp K H v d → Dp K H' v d
  | _, _, .non => .non
  | _, _, .bl b => .bl b
  | _, _, .int i => .int i
  | _, _, .str x => .str x
  | _, _, .lst a b => .lst (s.seq a) (dpSameAll s b)
  | _, _, .tup a b => .tup (seqT s a) (dpSameAll s b)
theorem dpSameAll {K : PySem.W.Frag} {H H' : Hp} (s : Same H H') : ∀ {vs : List V} {ds : List PyData}, DpAll K H vs ds → DpAll K H' vs ds
  | _, _, .nil => .nil
  | _, _, .cons a b => .cons (dpSame s a) (dpSameAll s b)
end
end Sb
namespace Sb
open PySem PySem.Spec PyProof.Rows L2
theorem shows_of {d : PyData} (h1 : d.showable = true) (h2 : d.hasDict = false) (h3 : d.depth ≤ 60) (h4 : PyData.leavesShort 1921 d = true) (h5 : d.weight ≤ 8000) : Shows d := by
  refine ⟨h1, h2, h3, ?_⟩
  have := PyData.shown_le 1921 (by decide) d h4
  rw [sizeLine_eq]
  have : (1921 + 2) * d.weight ≤ 1923 * 8000 := Nat.mul_le_mul_left _ h5
  omega
theorem log_of {i : Int} (h : i.natAbs < 2 ^ 1900) : i.natAbs.log2 < 1900 := by
  by_cases e : i.natAbs = 0
  · rw [e]
    decide
  · exact (Nat.log2_lt e).mpr h
theorem int_okB {i : Int} (h : i.natAbs < 2 ^ 1900) : Shows (.int i) := int_ok (Nat.lt_trans (log_of h) (by decide))
theorem one_data {i : Int} (h : i.natAbs < 2 ^ 1900) : PyData.showableAll [.int i] = true ∧ PyData.hasDictAll [.int i] = false ∧ PyData.depthAll [.int i] ≤ 1 ∧ PyData.leavesShortAll 1921 [.int i] = true ∧ PyData.weightAll [.int i] ≤ 2000 := by
  have l := log_of h
  refine ⟨?_, ?_, ?_, ?_, ?_⟩
  · show (decide (i.natAbs.log2 < 1920) && true) = true
    rw [decide_eq_true (show i.natAbs.log2 < 1920 by omega)]
    rfl
  · rfl
  · simp [PyData.depthAll, PyData.depth]
  · show (decide ((PyData.shown (.int i)).length ≤ 1921) && true) = true
    rw [PyData.shown_int, decide_eq_true (int_text_len_1921 (show i.natAbs.log2 < 1920 by omega))]
    rfl
  · show (if (i == 0) = true then 0 else i.natAbs.log2 + 1) + 1 + 0 ≤ 2000
    split <;> omega
theorem list1_ok {i : Int} (h : i.natAbs < 2 ^ 1900) : Shows (.list [.int i]) := by
  obtain ⟨h1, h2, h3, h4, h5⟩ := one_data h
  exact shows_of h1 h2 (show PyData.depthAll [.int i] + 1 ≤ 60 by omega) h4 (show PyData.weightAll [.int i] ≤ 8000 by omega)
theorem tup1_ok {i : Int} (h : i.natAbs < 2 ^ 1900) : Shows (.tuple [.int i]) := by
  obtain ⟨h1, h2, h3, h4, h5⟩ := one_data h
  exact shows_of h1 h2 (show PyData.depthAll [.int i] + 1 ≤ 60 by omega) h4 (show PyData.weightAll [.int i] ≤ 8000 by omega)
theorem bool_ok (b : Bool) : Shows (.bool b) := by cases b <;> exact ⟨by decide, by decide, by decide, by decide +kernel⟩
theorem none_ok : Shows .none := ⟨by decide, by decide, by decide, by decide +kernel⟩
theorem nil_ok : Shows (.list []) := ⟨by decide, by decide, by decide, by decide +kernel⟩
theorem unit_ok : Shows (.tuple []) := ⟨by decide, by decide, by decide, by decide +kernel⟩
end Sb

set_option Elab.async false
set_option linter.all false
set_option maxRecDepth 100000
set_option maxHeartbeats 4000000
namespace Sb
open PySem PySem.Spec PyProof.Rows L2
/-! ### try with several clauses, each with a name -/
/-- behind a suite its name is gone -/
def bare (i : Nat) (D : Ends) : Ends := { nx := fun σ H => D.nx (σ.set i none) H, rt := D.rt, bk := fun σ H => D.bk (σ.set i none) H, ct := fun σ H => D.ct (σ.set i none) H }
abbrev Suite := Addr → Value → Option Addr → TS
def wClauses (K : PySem.W.Frag) (Wout : WX) (D : Ends) : List (Value × Nat × Suite) → WX
  | [] => Wout
  | (c, i, ts) :: rest => fun cls d σ H => ∃ b, PySem.W.exmOne K cls c = some b ∧ (b = true → ∀ a, H a = none → ts a cls d (bare i D) (σ.set i (some (.ref a))) H) ∧ (b = false → wClauses K Wout D rest cls d σ H)
inductive Clauses (X : Cx) : List ExceptHandler → List (Value × Nat × Suite) → Prop
  | nil : Clauses X [] []
  | cons {x n : Str} {c : Value} {i : Nat} {ts : Suite} {st : Stmt} {sts : List Stmt} {p1 p2 : Pos} {hs : List ExceptHandler} {l : List (Value × Nat × Suite)} (slot : X.N[i]? = some n) (loc : X.env.kindOf n = some .local) (cls : Names X x c)
      (run : ∀ (a : Addr) (oe : Obj) (cls : Value) (d : Option Addr) (pn : List (Addr × Obj)), Zc cls d oe → (∃ vs, oe.data = .fields vs) → PSs (X.suite a ((a, oe) :: pn)) (st :: sts) (ts a cls d)) (more : Clauses X hs l) :
      Clauses X (.ExceptHandler (some (.Name x p1)) (some n) (st :: sts) p2 :: hs) ((c, i, ts) :: l)
section
variable {X : Cx} {body : List Stmt} {h₀ : ExceptHandler} {hs : List ExceptHandler} {l : List (Value × Nat × Suite)} {pos : Pos} {tb : WX → TS} {Wout : WX}
theorem ps_try_clauses (stk : X.stack = X.env :: X.outer) (frm : X.env.frame = some X.env.locals) (nd : X.N.Nodup) (out : Takes X Wout) (cl : Clauses X (h₀ :: hs) l)
    (inner : ∀ (W : WX) (pn : List (Addr × Obj)) (xe : Value → Shared → Prop), Takes (X.tr pn xe) W → PassesOwn (model X.prog X.w) X.A X.env xe → PSs (X.tr pn xe) body (tb W)) :
    PS X (.Try body (h₀ :: hs) [] [] pos) (fun D σ H => tb (wClauses X.K Wout D l) D σ H) := by
  constructor
  intro pins s σ H D inv want
  have ok := inv.ok
  have frames : X.A.frames = some (X.env :: X.outer) := ok.frames.trans (congrArg some stk)
  apply wpAny_Try_except
  let caught : Value → Shared → Prop := fun e s₁ => wpAny (model X.prog X.w) X.A (noteFrame e X.env) (fun _ s₂ => wpAny (model X.prog X.w) X.A (setFlight e none) (fun _ s₃ => wpAny (model X.prog X.w) X.A (handleBy e X.env (h₀ :: hs)) (SP X pins D) X.xe s₃) X.xe s₂) X.xe s₁
  have land : Takes (X.tr (X.pn ++ pins) caught) (wClauses X.K Wout D l) := by
    intro u s' air
    obtain ⟨a, B, sI, pins', σ', H', cls, d, rfl, inv0, ground, up, sky, fresh, os, gens, wish⟩ := air
    have invI : Inv X pins σ' H' sI := inv0.ofTry ok
    show wpAny (model X.prog X.w) X.A (noteFrame (.ref a) X.env) _ _ _
    refine Sky.land Zc.steady frames frm (show Sky B (X.env :: X.outer) a (Zc cls d) X.env.locals s'.heap from stk ▸ sky) ?_
    intro h3 flying up3
    have inv3 : Inv X pins σ' H' { s' with heap := h3 } := invI.landed ground flying.1 (up.trans up3) os gens
    obtain ⟨oe, fs, here, zc, recd⟩ := flying.there
    have notFrame : a ∉ frs (X.env :: X.outer) := fun mem => by
      obtain ⟨_, o, ho, no⟩ := flying.2.2.1.mem mem
      rw [here] at ho
      cases ho
      exact no _ recd
    have notLocals : a ≠ X.env.locals := fun e => notFrame (List.mem_filterMap.mpr ⟨X.env, List.mem_cons_self, by rw [frm, e]⟩)
    have notOuter : a ∉ X.fs := fun mem => by
      obtain ⟨env, hm, q⟩ := List.mem_filterMap.mp mem
      exact notFrame (List.mem_filterMap.mpr ⟨env, List.mem_cons_of_mem _ hm, q⟩)
    have invS := inv3.suite here recd fresh notLocals notOuter
    have typ : PySem.W.Looks (model X.prog X.w) h3 (typeOf (.ref a)) cls := by
      intro A Q E s k q
      refine wpAny_typeOf_ref (k _ _ here) ?_
      rw [zc.1]
      exact q
    suffices each : ∀ {hs' : List ExceptHandler} {l' : List (Value × Nat × Suite)}, Clauses X hs' l' → wClauses X.K Wout D l' cls d σ' H' → wpAny (model X.prog X.w) X.A (handleBy (.ref a) X.env hs') (SP X pins D) X.xe { s' with heap := h3 } from each cl wish
    intro hs' l' cl'
    induction cl' with
    | nil =>
      intro wOut
      apply wpAny_handleBy_nil
      obtain ⟨_, _, _, oe', fs', T, oT, ts', e1, _, e2, e3, _⟩ := id flying
      unfold PySem.passOn
      refine wpAny_bind (wpAny_field e1 e2 e3 ?_)
      rw [if_neg (by simp)]
      have gone : wpAny (model X.prog X.w) X.A (setFlight (.ref a) X.env.frame) (fun _ s4 => wpAny (model X.prog X.w) X.A (throw (.ref a) : Sem Flow) (SP X pins D) X.xe s4) X.xe { s' with heap := h3 } := by
        rw [frm]
        apply HandSPX.setFlight_upZ flying
        intro h4 held up4
        exact wpAny_throw (out _ _ ⟨a, B, sI, pins, σ', H', cls, d, rfl, invI, ground, (up.trans up3).trans up4, .inr (.inr (stk.symm ▸ held)), fresh, os, gens, wOut⟩)
      first
        | exact wpAny_bind (wpAny_pure (wpAny_bind gone))
        | exact wpAny_bind gone
    | @cons x n c i ts st sts p1 p2 hs2 l2 slot loc named run more ih =>
      intro w1
      obtain ⟨b, ans, yes, no⟩ := w1
      refine wpAny_handleBy_cons (codeAny_handlers_test ?_) (fun z => nomatch z)
      have looks := PySem.W.exm_one (M := model X.prog X.w) inv3.kIn typ ans
      have clsRead : ∀ {Q : Value → Shared → Prop} {E : Value → Shared → Prop}, Q c { s' with heap := h3 } → wpAny (model X.prog X.w) (X.A.mark (some (.ref a))) (eval (.Name x p1) X.env) Q E { s' with heap := h3 } := by
        intro Q E q
        obtain ⟨hg, hdb, h | ⟨h, hv, hn⟩⟩ := named
        · exact ld_glob (X := X.suite a ((a, oe) :: (X.pn ++ pins))) invS hg h q hdb
        · exact ld_blt (X := X.suite a ((a, oe) :: (X.pn ++ pins))) invS hg h hv q hn hdb
      refine clsRead (looks.here ?_)
      match b, ans, yes, no with
      | false, _, _, no => exact ih (no rfl)
      | true, _, yes, _ =>
        apply codeAny_handlers_suite_as
        apply HandSPX.lands_againZ flying
        intro h4 fl4 up4
        have inv4 : Inv X pins σ' H' { s' with heap := h4 } := invI.landed ground fl4.1 ((up.trans up3).trans up4) os gens
        obtain ⟨oe4, fs4, here4, zc4, rec4⟩ := fl4.there
        have invS4 := inv4.suite here4 rec4 fresh notLocals notOuter
        refine store_ok (X := X.suite a ((a, oe4) :: (X.pn ++ pins))) (v := .ref a) invS4 nd slot (.inl loc) rfl (fun s5 inv5 => ?_) (.inr loc)
        refine wpAny_mono ((run a oe4 cls d (X.pn ++ pins) zc4 ⟨_, rec4⟩).run [] s5 _ H' _ inv5 (yes rfl a fresh)) ?_ (fun _ _ z => z.elim)
        intro fl s6 done
        have unname : ∀ {σ6 : L2.St} {H6 : Hp} {Q : Shared → Prop}, Inv (X.suite a ((a, oe4) :: (X.pn ++ pins))) [] σ6 H6 s6 → (∀ s7, Inv X pins (σ6.set i none) H6 s7 → Q s7) →
            wpAny (model X.prog X.w) X.A (do bindName X.env n .none; unbindBehindTheSuite X.env n p2) (fun _ s7 => Q s7) X.xe s6 := fun S6 q => gone_ok (S6.unsuite ok) nd slot loc q
        match fl, done with
        | .next, done => exact let ⟨_, _, S6, q6⟩ := done; unname S6 fun s7 J7 => ⟨_, _, J7, q6⟩
        | .brk, done => exact let ⟨_, _, S6, q6⟩ := done; unname S6 fun s7 J7 => ⟨_, _, J7, q6⟩
        | .cont, done => exact let ⟨_, _, S6, q6⟩ := done; unname S6 fun s7 J7 => ⟨_, _, J7, q6⟩
        | .ret u, done => exact let ⟨_, _, _, S6, r6, q6⟩ := done; unname S6 fun s7 J7 => ⟨_, _, _, J7, r6, q6⟩
  refine wpAny_mono ((inner _ (X.pn ++ pins) caught land PassesOwn.looking).run [] s σ H D (inv.toTry _) want) ?_ (fun _ _ z => z)
  intro fl s1 done
  match fl, done with
  | .next, done => exact let ⟨_, _, J, q⟩ := done; wpAny_execs_nil ⟨_, _, J.ofTry ok, q⟩
  | .brk, done => exact let ⟨_, _, J, q⟩ := done; ⟨_, _, J.ofTry ok, q⟩
  | .cont, done => exact let ⟨_, _, J, q⟩ := done; ⟨_, _, J.ofTry ok, q⟩
  | .ret u, done => exact let ⟨_, _, _, J, r, q⟩ := done; ⟨_, _, _, J.ofTry ok, r, q⟩
end
end Sb

set_option Elab.async false
set_option linter.all false
set_option maxRecDepth 100000
set_option maxHeartbeats 4000000
namespace Sb
open PySem PySem.Spec PyProof.Rows L2
def topS (i : Nat) : Stmt := PySem.Challenge.pw_shortestbytes_k03_wrong_codes.main.body.getD i (.Pass ⟨0, 0, 0, 0⟩)
section
variable {P : Program} {w : World} {K : PySem.W.Frag} {mg : Str → Option Value} {base : Heap}
def spBag (K : PySem.W.Frag) : Sp := fun vs H Q _ => ∃ (a : Addr) (ns : List Int) (i : Nat), vs = [.ref a, .int (i : Int)] ∧ SqL K H a (ns.map V.int) ∧ i ≤ 63 ∧
  ∀ p H', Same H H' → H p = none → BagAt H' p 0 → Q (.ref p) H'
abbrev s__law_bag : Stmt := topS 17
theorem sc__law_bag : FnScope ["_law_script", "_law_at", "_law_cell", "_law_digits"] ["_law_script", "_law_at"] (defScope s__law_bag) := ⟨rfl, rfl, rfl, by decide +kernel, rfl, by decide +kernel, by decide +kernel⟩
theorem ok__law_bag {f : Addr} {fd : FuncData} (F : Fun K "_law_bag" "_law_bag" s__law_bag f fd) (m_len : mg "len" = none) (m_abs : mg "abs" = none) (m_int : mg "int" = none) : Told P w K mg base CX0 1 f fd ["_law_script", "_law_at"] (spBag K) := by
  refine told F sc__law_bag (fun vs H Q E h => ?_) (fun cdv A outer s H vs Q E clr hr h => ?_)
  · obtain ⟨a, ns, i, rfl, hS, hi, k⟩ := h
    rfl
  · obtain ⟨a, ns, i, rfl, hS, hi, k⟩ := h
    refine ⟨_, (pss_cons (ps_set (i := 2) sc__law_bag.nd rfl (Or.inl rfl) (pe_ifExp (pt_cmpR op_lt (pv 1) (pe_callB call_len_seq (by rfl) m_len PySem.boot_len (pa_cons (pv 0) pa_nil)) (nomark _)) (pe_ix ix_list (pv 0) (pv 1) (fun _ _ => rfl)) pe_int))
    (pss_cons (ps_set (i := 3) sc__law_bag.nd rfl (Or.inl rfl) (pe_ifExp (pt_cmpR op_ge (pe_callB call_abs (by rfl) m_abs (by decide +kernel) (pa_cons (pv 2) pa_nil)) (pe_op op_pow pe_int pe_int) (nomark _)) (pe_callB call_abs (by rfl) m_abs (by decide +kernel) (pa_cons (pv 2) pa_nil)) pe_int))
    (pss_one (ps_ret (pe_lst (pa_cons (pv 3) (pa_cons (pe_op op_add (pe_op op_add (pe_op op_mod (pe_callTy call_int1 (by rfl) m_int (by decide +kernel) (pa_cons (pv 2) pa_nil)) pe_int) (pe_op op_mul pe_int (pv 1))) pe_int) (pa_cons pe_int pa_nil)))))))), ?_⟩
    refine if_val (fun v => ∃ c : Int, v = .int c) (fun Q' q' => ?_) ?_
    · refine ⟨_, rfl, _, rfl, a, _, rfl, .inl hS, _, _, rfl, rfl, _, rfl, ite2 (fun e => ?_) (fun _ => q' _ ⟨_, rfl⟩)⟩
      have hl : i < ns.length := by
        have := of_decide_eq_true e
        rw [List.length_map] at this
        omega
      refine ⟨_, rfl, _, rfl, a, _, _, .int ns[i], rfl, rfl, hS, atI_nat ?_, q' _ ⟨_, rfl⟩⟩
      rw [List.getElem?_map, List.getElem?_eq_getElem hl]
      rfl
    · rintro _ ⟨c, rfl⟩
      unfold gName
      dsimp only
      refine if_val (fun v => ∃ d : Int, v = .int d ∧ 0 ≤ d) (fun Q' q' => ?_) ?_
      · refine ⟨_, rfl, _, rfl, _, _, rfl, rfl, ⟨by decide, by decide, by decide⟩, _, _, rfl, rfl, _, rfl, ite2 (fun _ => ?_) (fun _ => q' _ ⟨_, rfl, Int.le_refl _⟩)⟩
        refine ⟨_, rfl, _, rfl, q' _ ⟨_, rfl, ?_⟩⟩
        split <;> omega
      · rintro _ ⟨d, rfl, hd⟩
        refine ⟨_, rfl, _, rfl, .inl ⟨_, rfl, _, _, rfl, rfl, (show (0 : Int) < 2147483629 by decide), _, rfl, _, _, rfl, rfl, .inl ⟨by decide, by decide⟩, _, _, rfl, rfl, _, _, rfl, rfl, sz (show 3 ≤ 1000000 by decide), fun p np => ?_⟩⟩
        refine k p _ (same_new np) np ⟨_, _, _, upd_same, hd, ?_, ?_, Int.le_refl _, Int.le_refl _⟩ <;> omega

def spTake : Sp := fun vs H Q _ => ∃ (p : Addr) (m n : Nat), vs = [.ref p, .int (m : Int)] ∧ BagAt H p n ∧ n ≤ 100000 ∧ 0 < m ∧ m < 1073741824 ∧
  ∀ (r : Nat) H', r < m → But p H H' → BagAt H' p (n + 1) → Q (.int (r : Int)) H'
abbrev s__law_take : Stmt := topS 18
theorem sc__law_take : FnScope ["_law_bag_here", "_law_many", "_law_digit", "_law_place", "_law_mixed"] ["_law_bag_here", "_law_many"] (defScope s__law_take) := ⟨rfl, rfl, rfl, by decide +kernel, rfl, by decide +kernel, by decide +kernel⟩
theorem ok__law_take {f : Addr} {fd : FuncData} (F : Fun K "_law_take" "_law_take" s__law_take f fd) (m_int : mg "int" = none) : Told P w K mg base CX0 1 f fd ["_law_bag_here", "_law_many"] spTake := by
  refine told F sc__law_take (fun vs H Q E h => ?_) (fun cdv A outer s H vs Q E clr hr h => ?_)
  · obtain ⟨p, m, n, rfl, hB, hn, hm0, hm1, k⟩ := h
    rfl
  · obtain ⟨p, m, n, rfl, hB, hn, hm0, hm1, k⟩ := h
    refine ⟨_, (pss_cons (ps_if (pt_cmpR op_gt (pe_ix ix_list (pv 0) pe_int (fun _ _ => rfl)) pe_int (nomark _))
    (pss_cons (ps_set (i := 2) sc__law_take.nd rfl (Or.inl rfl) (pe_op op_mod (pe_callTy call_int1 (by rfl) m_int (by decide +kernel) (pa_cons (pe_ix ix_list (pv 0) pe_int (fun _ _ => rfl)) pa_nil)) (pv 1)))
    (pss_cons (ps_asg (pe_op op_fdiv (pe_ix ix_list (pv 0) pe_int (fun _ _ => rfl)) (pv 1)) (pg_sub (pv 0) pe_int set_list))
    (pss_one (ps_ret (pv 2)))))
    pss_nil)
    (pss_cons (ps_asg (pe_op op_add (pe_ix ix_list (pv 0) pe_int (fun _ _ => rfl)) pe_int) (pg_sub (pv 0) pe_int set_list))
    (pss_cons (ps_set (i := 3) sc__law_take.nd rfl (Or.inl rfl) (pe_op op_add (pe_ix ix_list (pv 0) pe_int (fun _ _ => rfl)) (pe_op op_mul pe_int (pe_ix ix_list (pv 0) pe_int (fun _ _ => rfl)))))
    (pss_cons (ps_set (i := 4) sc__law_take.nd rfl (Or.inl rfl) (pe_op op_mod (pe_callTy call_int1 (by rfl) m_int (by decide +kernel) (pa_cons (pe_op op_add (pe_op op_pow (pv 3) pe_int) (pe_op op_mul pe_int (pe_ix ix_list (pv 0) pe_int (fun _ _ => rfl)))) pa_nil)) pe_int))
    (pss_cons (ps_set (i := 4) sc__law_take.nd rfl (Or.inl rfl) (pe_op op_mod (pe_callTy call_int1 (by rfl) m_int (by decide +kernel) (pa_cons (pe_op op_add (pe_op op_add (pe_op op_mul (pv 4) (pv 4)) (pe_op op_mul pe_int (pe_ix ix_list (pv 0) pe_int (fun _ _ => rfl)))) pe_int) pa_nil)) pe_int))
    (pss_one (ps_ret (pe_op op_mod (pe_callTy call_int1 (by rfl) m_int (by decide +kernel) (pa_cons (pe_op op_fdiv (pv 4) pe_int) pa_nil)) (pv 1))))))))), ?_⟩
    obtain ⟨d, s, c, hp, hd, hs, hs2, hc, hcn⟩ := hB
    have k' : ∀ (r : Int) H', 0 ≤ r → r < m → But p H H' → BagAt H' p (n + 1) → Q (.int r) H' := by
      intro r H' h0 h1 hb hB
      obtain ⟨j, rfl⟩ := Int.eq_ofNat_of_zero_le h0
      exact k j H' (by omega) hb hB
    have hm : (0 : Int) < m := by omega
    have at0 : ∀ x y z : V, atI [x, y, z] 0 = some x := fun _ _ _ => rfl
    have at1 : ∀ x y z : V, atI [x, y, z] 1 = some y := fun _ _ _ => rfl
    have at2 : ∀ x y z : V, atI [x, y, z] 2 = some z := fun _ _ _ => rfl
    refine ⟨_, rfl, p, _, _, _, rfl, rfl, seq_of hp, at0 _ _ _, _, _, rfl, rfl, _, rfl, ite2 (fun _ => ?_) (fun _ => ?_)⟩
    · refine ⟨_, rfl, p, _, _, _, rfl, rfl, seq_of hp, at0 _ _ _, .inl ⟨_, rfl, _, rfl, _, _, rfl, rfl, hm, ?_⟩⟩
      refine ⟨_, rfl, p, _, _, _, rfl, rfl, seq_of hp, at0 _ _ _, _, rfl, _, _, rfl, rfl, ⟨hm, by omega⟩, _, rfl, p, _, _, _, rfl, rfl, hp, rfl, _, rfl, ?_⟩
      refine k' _ _ (Int.emod_nonneg _ (by omega)) (Int.emod_lt_of_pos _ hm) But.put ⟨_, _, _, upd_same, Int.ediv_nonneg hd (by omega), hs, hs2, hc, by omega⟩
    · refine ⟨_, rfl, p, _, _, _, rfl, rfl, seq_of hp, at2 _ _ _, _, _, rfl, rfl, _, rfl, p, _, _, _, rfl, rfl, hp, rfl, ?_⟩
      have hp' : (upd H p (.lst [.int d, .int s, .int (c + 1)])) p = some (.lst [.int d, .int s, .int (c + 1)]) := upd_same
      refine ⟨_, rfl, p, _, _, _, rfl, rfl, seq_of hp', at1 _ _ _, _, rfl, p, _, _, _, rfl, rfl, seq_of hp', at2 _ _ _, _, _, rfl, rfl, .inl ⟨by decide, by decide⟩, _, _, rfl, rfl, ?_⟩
      have hpl : (s + 15485863 * (c + 1)).natAbs < 2 ^ 64 := by omega
      refine ⟨_, rfl, _, _, rfl, rfl, ⟨by decide, by decide, hpl⟩, _, rfl, p, _, _, _, rfl, rfl, seq_of hp', at2 _ _ _, _, _, rfl, rfl, .inl ⟨by decide, by decide⟩, _, _, rfl, rfl, .inl ⟨_, rfl, _, _, rfl, rfl, (show (0 : Int) < 2305843009213693951 by decide), ?_⟩⟩
      generalize (s + 15485863 * (c + 1)) ^ (3 : Int).toNat + 104729 * (c + 1) = y
      refine ⟨_, rfl, _, rfl, _, _, rfl, rfl, .inl ⟨by omega, by omega⟩, _, rfl, p, _, _, _, rfl, rfl, seq_of hp', at1 _ _ _, _, _, rfl, rfl, .inl ⟨by decide, by decide⟩, _, _, rfl, rfl, _, _, rfl, rfl, .inl ⟨_, rfl, _, _, rfl, rfl, (show (0 : Int) < 2305843009213693921 by decide), ?_⟩⟩
      refine ⟨_, rfl, _, _, rfl, rfl, ⟨by decide, by decide⟩, .inl ⟨_, rfl, _, rfl, _, _, rfl, rfl, hm, ?_⟩⟩
      exact k' _ _ (Int.emod_nonneg _ (by omega)) (Int.emod_lt_of_pos _ hm) But.put ⟨d, s, c + 1, hp', hd, hs, hs2, by omega, by omega⟩

def spOf (K : PySem.W.Frag) : Sp := fun vs H Q _ => ∃ (p l : Addr) (n : Nat) (xs : List V), vs = [.ref p, .ref l] ∧ BagAt H p n ∧ n ≤ 100000 ∧ SqL K H l xs ∧ l ≠ p ∧ 0 < xs.length ∧ xs.length ≤ 1000000 ∧
  ∀ (j : Nat) (v : V) H', xs[j]? = some v → But p H H' → BagAt H' p (n + 1) → Q v H'
abbrev s__law_of : Stmt := topS 19
theorem sc__law_of : FnScope ["_law_bag_here", "_law_some"] ["_law_bag_here", "_law_some"] (defScope s__law_of) := ⟨rfl, rfl, rfl, by decide +kernel, rfl, by decide +kernel, by decide +kernel⟩
theorem ok__law_of {f : Addr} {fd : FuncData} (F : Fun K "_law_of" "_law_of" s__law_of f fd) (m_len : mg "len" = none) {f__law_take : Addr} {fd__law_take : FuncData} (G__law_take : Told P w K mg base CX0 1 f__law_take fd__law_take ["_law_bag_here", "_law_many"] spTake) (b__law_take : Binds K fd__law_take ["_law_bag_here", "_law_many"] []) (g__law_take : mg "_law_take" = some (.ref f__law_take)) (k__law_take : PySem.W.keepIn K (.ref f__law_take) = true) : Told P w K mg base CX0 2 f fd ["_law_bag_here", "_law_some"] (spOf K) := by
  refine told F sc__law_of (fun vs H Q E h => ?_) (fun cdv A outer s H vs Q E clr hr h => ?_)
  · obtain ⟨p, l, n, xs, rfl, hB, hn, hS, hne, h0, h1, k⟩ := h
    rfl
  · obtain ⟨p, l, n, xs, rfl, hB, hn, hS, hne, h0, h1, k⟩ := h
    refine ⟨_, (pss_one (ps_ret (pe_ix ix_list (pv 1) (pe_told G__law_take clr (hr.mono (by decide)) (by rfl) g__law_take k__law_take b__law_take .nil pass0 (pa_cons (pv 0) (pa_cons (pe_callB call_len_seq (by rfl) m_len PySem.boot_len (pa_cons (pv 1) pa_nil)) pa_nil))) (fun _ _ => rfl)))), ?_⟩
    refine ⟨_, rfl, _, rfl, _, rfl, l, xs, rfl, .inl hS, p, xs.length, n, rfl, hB, hn, h0, by omega, fun r H' hr hb hB' => ?_⟩
    exact ⟨l, xs, _, xs[r], rfl, rfl, hb.seq hne hS, atI_nat (List.getElem?_eq_getElem hr), k r _ _ (List.getElem?_eq_getElem hr) hb hB'⟩

def spNumber : Sp := fun vs H Q _ => ∃ (p : Addr) (n : Nat), vs = [.ref p] ∧ BagAt H p n ∧ n ≤ 50000 ∧ ∀ (N : Nat) H', N < 256 ^ 63 → But p H H' → BagAt H' p (n + 70) → Q (.int (N : Int)) H'
theorem bag_ne {H : Hp} {p l : Addr} {n : Nat} (b : BagAt H p n) (h : H l = none) : l ≠ p := fun e => by
  obtain ⟨d, s, k, hp, _⟩ := b
  rw [e, hp] at h
  cases h
abbrev s__law_number : Stmt := topS 20
theorem sc__law_number : FnScope ["_law_bag_here", "_law_road", "_law_number_here", "_law_turn"] ["_law_bag_here"] (defScope s__law_number) := ⟨rfl, rfl, rfl, by decide +kernel, rfl, by decide +kernel, by decide +kernel⟩
theorem ok__law_number {f : Addr} {fd : FuncData} (F : Fun K "_law_number" "_law_number" s__law_number f fd) (m_range : mg "range" = none) {f__law_take : Addr} {fd__law_take : FuncData} (G__law_take : Told P w K mg base CX0 1 f__law_take fd__law_take ["_law_bag_here", "_law_many"] spTake) (b__law_take : Binds K fd__law_take ["_law_bag_here", "_law_many"] []) (g__law_take : mg "_law_take" = some (.ref f__law_take)) (k__law_take : PySem.W.keepIn K (.ref f__law_take) = true) {f__law_of : Addr} {fd__law_of : FuncData} (G__law_of : Told P w K mg base CX0 2 f__law_of fd__law_of ["_law_bag_here", "_law_some"] (spOf K)) (b__law_of : Binds K fd__law_of ["_law_bag_here", "_law_some"] []) (g__law_of : mg "_law_of" = some (.ref f__law_of)) (k__law_of : PySem.W.keepIn K (.ref f__law_of) = true) : Told P w K mg base CX0 3 f fd ["_law_bag_here"] spNumber := by
  refine told F sc__law_number (fun vs H Q E h => ?_) (fun cdv A outer s H vs Q E clr hr h => ?_)
  · obtain ⟨p, n, rfl, hB, hn, k⟩ := h
    rfl
  · obtain ⟨p, n, rfl, hB, hn, k⟩ := h
    refine ⟨_, (pss_cons (ps_set (i := 1) sc__law_number.nd rfl (Or.inl rfl) (pe_told G__law_take clr (hr.mono (by decide)) (by rfl) g__law_take k__law_take b__law_take .nil pass0 (pa_cons (pv 0) (pa_cons pe_int pa_nil))))
    (pss_cons (ps_if (pt_cmpR op_eq (pv 1) pe_int (nomark _))
    (pss_one (ps_ret (pe_told G__law_of clr (hr.mono (by decide)) (by rfl) g__law_of k__law_of b__law_of .nil pass0 (pa_cons (pv 0) (pa_cons (pe_lst (pa_cons pe_int (pa_cons pe_int (pa_cons pe_int (pa_cons pe_int (pa_cons pe_int (pa_cons pe_int (pa_cons pe_int (pa_cons pe_int (pa_cons pe_int (pa_cons pe_int (pa_cons pe_int (pa_cons (pe_op op_pow pe_int pe_int) (pa_cons (pe_op op_sub (pe_op op_pow pe_int pe_int) pe_int) pa_nil)))))))))))))) pa_nil)))))
    pss_nil)
    (pss_cons (ps_if (pt_cmpR op_eq (pv 1) pe_int (nomark _))
    (pss_one (ps_ret (pe_told G__law_take clr (hr.mono (by decide)) (by rfl) g__law_take k__law_take b__law_take .nil pass0 (pa_cons (pv 0) (pa_cons pe_int pa_nil)))))
    pss_nil)
    (pss_cons (ps_set (i := 2) sc__law_number.nd rfl (Or.inl rfl) pe_int)
    (pss_cons (ps_for PassesOwn.never rfl (pi_range1 (by rfl) m_range (pa_cons (pe_op op_add pe_int (pe_told G__law_take clr (hr.mono (by decide)) (by rfl) g__law_take k__law_take b__law_take .nil pass0 (pa_cons (pv 0) (pa_cons (pe_ix ix_list (pe_lst (pa_cons pe_int (pa_cons pe_int pa_nil))) (pe_op op_sub (pv 1) pe_int) (fun _ _ => rfl)) pa_nil)))) pa_nil)) (pg_name (i := 3) sc__law_number.nd rfl (Or.inl rfl))
    (pss_one (ps_set (i := 2) sc__law_number.nd rfl (Or.inl rfl) (pe_op op_add (pe_op op_mul (pv 2) pe_int) (pe_told G__law_take clr (hr.mono (by decide)) (by rfl) g__law_take k__law_take b__law_take .nil pass0 (pa_cons (pv 0) (pa_cons pe_int pa_nil)))))))
    (pss_one (ps_ret (pv 2)))))))), ?_⟩
    refine ⟨_, rfl, p, 4, n, rfl, hB, by omega, by decide, by decide, fun r H1 hr b1 B1 => ?_⟩
    refine ⟨_, rfl, rfl, _, rfl, ite2 (fun e => ?_) (fun e0 => ?_)⟩
    · refine ⟨_, rfl, _, _, rfl, rfl, ⟨by decide, by decide, by decide⟩, _, _, rfl, rfl, ⟨by decide, by decide, by decide⟩, _, _, rfl, rfl, sz (show 13 ≤ 1000000 by decide), fun l hl => ?_⟩
      refine ⟨p, l, n + 1, _, rfl, B1.same (same_new hl), by omega, seq_new, bag_ne B1 hl, by decide, by decide, fun j v H2 hv b2 B2 => ?_⟩
      have all : ∀ x ∈ ([.int 0, .int 1, .int 190, .int 191, .int 192, .int 193, .int 255, .int 256, .int 257, .int 65535, .int 65536, .int (256 ^ (62 : Int).toNat), .int (256 ^ (63 : Int).toNat - 1)] : List V), ∃ N : Nat, x = .int (N : Int) ∧ N < 256 ^ 63 := by
        intro x hx
        simp only [List.mem_cons, List.not_mem_nil, or_false] at hx
        rcases hx with rfl | rfl | rfl | rfl | rfl | rfl | rfl | rfl | rfl | rfl | rfl | rfl | rfl
        · exact ⟨0, rfl, by decide⟩
        · exact ⟨1, rfl, by decide⟩
        · exact ⟨190, rfl, by decide⟩
        · exact ⟨191, rfl, by decide⟩
        · exact ⟨192, rfl, by decide⟩
        · exact ⟨193, rfl, by decide⟩
        · exact ⟨255, rfl, by decide⟩
        · exact ⟨256, rfl, by decide⟩
        · exact ⟨257, rfl, by decide⟩
        · exact ⟨65535, rfl, by decide⟩
        · exact ⟨65536, rfl, by decide⟩
        · exact ⟨256 ^ 62, by decide +kernel, by decide +kernel⟩
        · exact ⟨256 ^ 63 - 1, by decide +kernel, by decide +kernel⟩
      obtain ⟨N, rfl, hN⟩ := all v (List.mem_of_getElem? hv)
      exact k N H2 hN ((b1.same (same_new hl)).trans b2) (B2.mono (by omega))
    · refine ⟨_, rfl, rfl, _, rfl, ite2 (fun e => ?_) (fun e1 => ?_)⟩
      · refine ⟨_, rfl, p, 400, n + 1, rfl, B1, by omega, by decide, by decide, fun r2 H2 hr2 b2 B2 => ?_⟩
        exact k r2 H2 (Nat.lt_trans hr2 (by decide +kernel)) (b1.trans b2) (B2.mono (by omega))
      · have hr0 : r ≠ 0 := fun z => e0 (decide_eq_true (by rw [z]; rfl))
        have hr1 : r ≠ 1 := fun z => e1 (decide_eq_true (by rw [z]; rfl))
        have at2 : ∃ m : Nat, atI [V.int 3, V.int 63] ((r : Int) - 2) = some (.int (m : Int)) ∧ 0 < m ∧ m ≤ 63 := by
          have : r = 2 ∨ r = 3 := by omega
          rcases this with rfl | rfl
          · exact ⟨3, rfl, by decide, by decide⟩
          · exact ⟨63, rfl, by decide, by decide⟩
        obtain ⟨m, hat, hm0, hm1⟩ := at2
        refine ⟨_, rfl, sz (show 2 ≤ 1000000 by decide), fun l hl => ?_⟩
        refine ⟨_, rfl, _, _, rfl, rfl, l, _, _, _, rfl, rfl, seq_new, hat, p, m, n + 1, rfl, B1.same (same_new hl), by omega, hm0, by omega, fun t H2 ht b2 B2 => ?_⟩
        have b12 := (b1.same (same_new hl)).trans b2
        refine ⟨_, _, rfl, rfl, _, rfl, by omega, by omega, ?_⟩
        have en : ((1 : Int) + (t : Int)).toNat = t + 1 := by omega
        rw [en]
        refine for_range (lo := 0) (n := t + 1) (fun i σ H' => ∃ (z : Nat) (v : Option V), σ = [some (.ref p), some (.int (r : Int)), some (.int (z : Int)), v] ∧ z < 256 ^ i ∧ But p H H' ∧ BagAt H' p (n + 2 + i)) ⟨0, _, rfl, by decide, b12, B2⟩ ?_ ?_
        · rintro i σ H' hi ⟨z, v, rfl, hz, b3, B3⟩
          refine ⟨_, rfl, _, _, rfl, rfl, .inr ⟨by decide, by decide⟩, _, rfl, p, 256, n + 2 + i, rfl, B3, by omega, by decide, by decide, fun r3 H3 hr3 b4 B4 => ?_⟩
          refine ⟨_, _, rfl, rfl, z * 256 + r3, some (.int (0 + (i : Int))), ?_, ?_, b3.trans b4, B4⟩
          · rw [Int.natCast_add, Int.natCast_mul]
            rfl
          · rw [Nat.pow_succ]
            omega
        · rintro σ H' ⟨z, v, rfl, hz, b3, B3⟩
          refine ⟨_, rfl, k z H' (Nat.lt_of_lt_of_le hz (Nat.pow_le_pow_right (by decide) (by omega))) b3 (B3.mono (by omega))⟩

def spCode : Sp := fun vs H Q _ => ∃ (N : Nat), vs = [.int (N : Int)] ∧ N < 256 ^ 63 ∧ ∀ q H', Same H H' → H q = none → H' q = some (.lst ((codeN N).map vN)) → Q (.ref q) H'
def muNum (σ : L2.St) (_ : Hp) : Nat := match σ with
  | some (.int z) :: _ => z.toNat
  | _ => 0
abbrev s__law_code : Stmt := topS 21
theorem sc__law_code : FnScope ["_law_number_here", "_law_digits"] ["_law_number_here"] (defScope s__law_code) := ⟨rfl, rfl, rfl, by decide +kernel, rfl, by decide +kernel, by decide +kernel⟩
theorem ok__law_code {f : Addr} {fd : FuncData} (F : Fun K "_law_code" "_law_code" s__law_code f fd) (m_int : mg "int" = none) (m_len : mg "len" = none) : Told P w K mg base CX0 1 f fd ["_law_number_here"] spCode := by
  refine told F sc__law_code (fun vs H Q E h => ?_) (fun cdv A outer s H vs Q E clr hr h => ?_)
  · obtain ⟨N, rfl, hN, k⟩ := h
    rfl
  · obtain ⟨N, rfl, hN, k⟩ := h
    refine ⟨_, (pss_cons (ps_if (pt_cmpR op_lt (pv 0) pe_int (nomark _))
    (pss_one (ps_ret (pe_lst (pa_cons (pv 0) pa_nil))))
    pss_nil)
    (pss_cons (ps_set (i := 1) sc__law_code.nd rfl (Or.inl rfl) (pe_lst pa_nil))
    (pss_cons (ps_while PassesOwn.never (pt_cmpR op_gt (pv 0) pe_int (nomark _))
    (pss_cons (ps_set (i := 1) sc__law_code.nd rfl (Or.inl rfl) (pe_op op_cat (pe_lst (pa_cons (pe_op op_mod (pe_callTy call_int1 (by rfl) m_int (by decide +kernel) (pa_cons (pv 0) pa_nil)) pe_int) pa_nil)) (pv 1)))
    (pss_one (ps_set (i := 0) sc__law_code.nd rfl (Or.inl rfl) (pe_op op_fdiv (pv 0) pe_int)))))
    (pss_one (ps_ret (pe_op op_cat (pe_lst (pa_cons (pe_op op_add pe_int (pe_callB call_len_seq (by rfl) m_len PySem.boot_len (pa_cons (pv 1) pa_nil))) pa_nil)) (pv 1))))))), ?_⟩
    refine ⟨_, rfl, _, _, rfl, rfl, _, rfl, ite2 (fun e => ?_) (fun e => ?_)⟩
    · have hs : N < 192 := by
        have := of_decide_eq_true e
        omega
      refine ⟨_, rfl, sz (show 1 ≤ 1000000 by decide), fun q hq => k q _ (same_new hq) hq ?_⟩
      rw [upd_same, codeN_small hs]
      rfl
    · have hs : ¬ N < 192 := fun z => e (decide_eq_true (by omega))
      refine ⟨Nat.zero_le _, fun l0 hl0 => ?_⟩
      refine while_by (fun σ H' => ∃ (n : Nat) (l : Addr) (ds : List Nat), σ = [some (.int (n : Int)), some (.ref l)] ∧ digs N = digs n ++ ds ∧ Same H H' ∧ H l = none ∧ H' l = some (.lst (ds.map vN))) muNum
        ⟨N, l0, [], rfl, by rw [List.append_nil], same_new hl0, hl0, upd_same⟩ ?_ (fun σ H Q Q' h ⟨v, e, i, j, e1, e2, b, eb, q⟩ => ⟨v, e, i, j, e1, e2, b, eb, h _ _ q⟩)
      rintro σ H' ⟨n, l, ds, rfl, ed, sm, nl, hl⟩
      have len63 : (digs n).length + ds.length ≤ 63 := by
        have := digs_len_le 63 N hN
        rw [ed, List.length_append] at this
        exact this
      refine ⟨_, rfl, _, _, rfl, rfl, _, rfl, ite2 (fun e => ?_) (fun e => ?_)⟩
      · have hn : n ≠ 0 := by
          have := of_decide_eq_true e
          omega
        refine ⟨_, rfl, .inl ⟨_, rfl, _, _, rfl, rfl, (show (0 : Int) < 256 by decide), sz (show 1 ≤ 1000000 by decide), fun l2 hl2 => ?_⟩⟩
        have hl' : (upd H' l2 (.lst [.int ((n : Int) % 256)])) l = some (.lst (ds.map vN)) := by
          rw [upd_ne (ne_of_none hl hl2)]
          exact hl
        refine ⟨_, rfl, _, _, _, _, rfl, rfl, upd_same, hl', ?_, fun l3 hl3 => ?_⟩
        · refine sz ?_
          rw [List.length_map]
          show 1 + ds.length ≤ _
          omega
        · refine ⟨_, rfl, _, _, rfl, rfl, ⟨by decide, by decide⟩, ⟨n / 256, l3, n % 256 :: ds, ?_, ?_, ?_, ?_, ?_⟩, ?_⟩
          · rw [Int.natCast_ediv]
            rfl
          · rw [ed, digs_pos hn, List.append_assoc]
            rfl
          · exact sm.trans ((same_new hl2).trans (same_new hl3))
          · exact sm.free ((same_new hl2).free hl3)
          · rw [upd_same, List.map_cons]
            rfl
          · show ((n : Int) / 256).toNat < (n : Int).toNat
            omega
      · have hn : n = 0 := by
          by_cases z : n = 0
          · exact z
          · exact absurd (decide_eq_true (by omega)) e
        subst hn
        rw [digs_zero, List.nil_append] at ed
        refine ⟨_, rfl, l, _, rfl, .inl (seq_of hl), _, _, rfl, rfl, sz (show 1 ≤ 1000000 by decide), fun l2 hl2 => ?_⟩
        have hl' : (upd H' l2 (.lst [.int (191 + ((ds.map vN).length : Int))])) l = some (.lst (ds.map vN)) := by
          rw [upd_ne (ne_of_none hl hl2)]
          exact hl
        refine ⟨_, rfl, _, _, _, _, rfl, rfl, upd_same, hl', ?_, fun l3 hl3 => ?_⟩
        · refine sz ?_
          rw [List.length_map]
          show 1 + ds.length ≤ _
          omega
        · refine k l3 _ (sm.trans ((same_new hl2).trans (same_new hl3))) (sm.free ((same_new hl2).free hl3)) ?_
          rw [upd_same, codeN_big hs, ed, List.length_map]
          rfl

/-- is_int: an int; a bool; a thing of another type -/
def spIsInt (K : PySem.W.Frag) : Sp := fun vs H Q _ => ∃ x : V, vs = [x] ∧ ((∃ i, x = .int i ∧ Q (.bl true) H) ∨ (∃ b, x = .bl b ∧ Q (.bl false) H) ∨ (∃ t : String, TyX K H x (.type t) ∧ kitB t "int" = some false ∧ Q (.bl false) H))
abbrev s_is_int : Stmt := topS 8
theorem sc_is_int : FnScope ["thing"] ["thing"] (defScope s_is_int) := ⟨rfl, rfl, rfl, by decide +kernel, rfl, by decide +kernel, by decide +kernel⟩
theorem ok_is_int {f : Addr} {fd : FuncData} (F : Fun K "is_int" "is_int" s_is_int f fd) (m_isinstance : mg "isinstance" = none) (m_bool : mg "bool" = none) (m_int : mg "int" = none) : Told P w K mg base CX0 1 f fd ["thing"] (spIsInt K) := by
  refine told F sc_is_int (fun vs H Q E h => ?_) (fun cdv A outer s H vs Q E clr hr h => ?_)
  · obtain ⟨x, rfl, h⟩ := h
    rfl
  · obtain ⟨x, rfl, h⟩ := h
    refine ⟨_, (pss_one (ps_ret (pe_and (pe_callB call_isi (by rfl) m_isinstance (by decide +kernel) (pa_cons (pv 0) (pa_cons (pe_bltn (by rfl) m_int (by decide +kernel) (show RelV (.ty "int") (.type "int") from rfl)) pa_nil))) (pe_one (pe_not (pe_callB call_isi (by rfl) m_isinstance (by decide +kernel) (pa_cons (pv 0) (pa_cons (pe_bltn (by rfl) m_bool (by decide +kernel) (show RelV (.ty "bool") (.type "bool") from rfl)) pa_nil)))))))), ?_⟩
    rcases h with ⟨i, rfl, q⟩ | ⟨b, rfl, q⟩ | ⟨t, ty, kt, q⟩
    · refine ⟨_, rfl, _, _, _, _, _, rfl, .ty "int", .base (.int i), kit_ty (by decide +kernel), _, rfl, iteT ?_⟩
      refine ⟨_, rfl, _, _, _, _, _, rfl, .ty "bool", .base (.int i), kit_ty (b := "bool") (r := false) (by decide +kernel), _, rfl, q⟩
    · refine ⟨_, rfl, _, _, _, _, _, rfl, .ty "int", .base (.bl b), kit_ty (by decide +kernel), _, rfl, iteT ?_⟩
      refine ⟨_, rfl, _, _, _, _, _, rfl, .ty "bool", .base (.bl b), kit_ty (b := "bool") (r := true) (by decide +kernel), _, rfl, q⟩
    · exact ⟨_, rfl, _, _, _, _, _, rfl, .ty "int", ty, kit_ty kt, _, rfl, iteF q⟩

def spIsNumber (K : PySem.W.Frag) : Sp := fun vs H Q _ => ∃ x : V, vs = [x] ∧ ((∃ i : Int, x = .int i ∧ Q (.bl (decide (0 ≤ i ∧ i < 256 ^ 63))) H) ∨ (∃ b, x = .bl b ∧ Q (.bl false) H) ∨ (∃ t : String, TyX K H x (.type t) ∧ kitB t "int" = some false ∧ Q (.bl false) H))
def spDigs : Sp := fun vs H Q _ => ∃ (N : Nat), vs = [.int (N : Int)] ∧ N < 256 ^ 63 ∧ ∀ q H', Same H H' → H q = none → H' q = some (.lst ((digs N).map vN)) → Q (.ref q) H'
theorem shr_and (N k : Nat) : ((N : Int) / 2 ^ ((8 : Int) * (k : Int)).toNat) % 2 ^ 8 = ((N / 256 ^ k % 256 : Nat) : Int) := by
  have e : ((8 : Int) * (k : Int)).toNat = 8 * k := by omega
  rw [e, Nat.pow_mul (a := 2) (m := 8) (n := k) |> fun z => (by exact_mod_cast congrArg (Nat.cast : Nat → Int) z : (2 : Int) ^ (8 * k) = (2 ^ 8 : Nat) ^ k)]
  simp
abbrev sI_WrongByte : Stmt := inClass (topS 2) 0
theorem okI_WrongByte {f : Addr} {fd : FuncData} (F : Fun K "__init__" "WrongByte.__init__" sI_WrongByte f fd) : FnOk P w K mg base CX0 1 f fd ["self", "at"] (spInit K "at") :=
  ok_initBy F ⟨rfl, rfl, rfl, by decide +kernel, rfl, by decide +kernel, by decide +kernel⟩ fun _ _ _ _ _ _ => pss_one (ps_ost (pv 0) (pv 1))
abbrev sI_Unfinished : Stmt := inClass (topS 3) 0
theorem okI_Unfinished {f : Addr} {fd : FuncData} (F : Fun K "__init__" "Unfinished.__init__" sI_Unfinished f fd) : FnOk P w K mg base CX0 1 f fd ["self", "at"] (spInit K "at") :=
  ok_initBy F ⟨rfl, rfl, rfl, by decide +kernel, rfl, by decide +kernel, by decide +kernel⟩ fun _ _ _ _ _ _ => pss_one (ps_ost (pv 0) (pv 1))
def NoNum (K : PySem.W.Frag) (H : Hp) (x : V) : Prop := (∃ i : Int, x = .int i ∧ ¬ (0 ≤ i ∧ i < 256 ^ 63)) ∨ (∃ b, x = .bl b) ∨ (∃ t : String, TyX K H x (.type t) ∧ kitB t "int" = some false)
def spNumCode (K : PySem.W.Frag) (C : Addr) : Sp := fun vs H Q E => ∃ x : V, vs = [x] ∧ ((∃ N : Nat, x = .int (N : Int) ∧ N < 256 ^ 63 ∧ ∀ q H', Same H H' → H q = none → H' q = some (.lst ((codeN N).map vN)) → Q (.ref q) H') ∨
  (NoNum K H x ∧ ∀ d H', H d = none → Same H H' → H' d = some (.xd [("number", x)]) → E (.ref C) (some d) H'))
/-! ### reading numbers, entry by entry -/
def byteV : V → Option Nat
  | .int i => if 0 ≤ i ∧ i ≤ 255 then some i.toNat else none
  | _ => none
inductive Res
  | num (n e : Nat)
  | wrong (i : Nat)
  | unf
def more (ys : List (Option Nat)) : Nat → Nat → Nat → Res
  | 0, pos, acc => .num acc pos
  | k + 1, pos, acc => match ys[pos]? with
    | none => .unf
    | some none => .wrong pos
    | some (some b) => more ys k (pos + 1) (acc * 256 + b)
def least2 (f : Nat) : Nat := if f = 192 then 192 else 1
def readN (ys : List (Option Nat)) (at_ : Nat) : Res := match ys[at_]? with
  | none => .unf
  | some none => .wrong at_
  | some (some f) => if f = 255 then .wrong at_ else if f < 192 then .num f (at_ + 1) else match ys[at_ + 1]? with
    | none => .unf
    | some none => .wrong (at_ + 1)
    | some (some b) => if b < least2 f then .wrong (at_ + 1) else more ys (f - 192) (at_ + 2) b
/-- an entry of data: an int, a truth value, a thing of another type -/
def Ent (K : PySem.W.Frag) (H : Hp) (v : V) : Prop := (∃ i, v = .int i) ∨ (∃ b, v = .bl b) ∨ (∃ t : String, TyX K H v (.type t) ∧ kitB t "int" = some false)
theorem byteV_I (i : Int) : byteV (.int i) = if 0 ≤ i ∧ i ≤ 255 then some i.toNat else none := rfl
theorem byteV_lt {v : V} {b : Nat} (h : byteV v = some b) : b ≤ 255 := by
  unfold byteV at h
  split at h
  · split at h
    · cases h
      omega
    · cases h
  · cases h
theorem byteV_int {v : V} {b : Nat} (h : byteV v = some b) : v = .int (b : Int) := by
  unfold byteV at h
  split at h
  · split at h
    · rename_i i hi
      cases h
      exact congrArg V.int (by omega)
    · cases h
  · cases h
theorem byteV_nat {b : Nat} (h : b ≤ 255) : byteV (.int (b : Int)) = some b := by
  unfold byteV
  dsimp only
  rw [if_pos ⟨by omega, by omega⟩]
  simp
def spIsByte (K : PySem.W.Frag) : Sp := fun vs H Q _ => ∃ x : V, vs = [x] ∧ Ent K H x ∧ Q (.bl (byteV x).isSome) H
abbrev s_is_byte : Stmt := topS 9
theorem sc_is_byte : FnScope ["thing"] ["thing"] (defScope s_is_byte) := ⟨rfl, rfl, rfl, by decide +kernel, rfl, by decide +kernel, by decide +kernel⟩
theorem ok_is_byte {f : Addr} {fd : FuncData} (F : Fun K "is_byte" "is_byte" s_is_byte f fd) {f_is_int : Addr} {fd_is_int : FuncData} (G_is_int : Told P w K mg base CX0 1 f_is_int fd_is_int ["thing"] (spIsInt K)) (b_is_int : Binds K fd_is_int ["thing"] []) (g_is_int : mg "is_int" = some (.ref f_is_int)) (k_is_int : PySem.W.keepIn K (.ref f_is_int) = true) : Told P w K mg base CX0 2 f fd ["thing"] (spIsByte K) := by
  refine told F sc_is_byte (fun vs H Q E h => ?_) (fun cdv A outer s H vs Q E clr hr h => ?_)
  · obtain ⟨x, rfl, h, q⟩ := h
    rfl
  · obtain ⟨x, rfl, h, q⟩ := h
    refine ⟨_, (pss_one (ps_ret (pe_and (pe_told G_is_int clr (hr.mono (by decide)) (by rfl) g_is_int k_is_int b_is_int .nil pass0 (pa_cons (pv 0) pa_nil)) (pe_one (pe_chain op_le op_le pe_int (pv 0) pe_int))))), ?_⟩
    rcases h with ⟨i, rfl⟩ | ⟨b, rfl⟩ | ⟨t, ty, kt⟩
    · refine ⟨_, rfl, _, rfl, .inl ⟨i, rfl, _, rfl, iteT ?_⟩⟩
      refine ⟨_, rfl, _, _, rfl, rfl, _, rfl, ite2 (fun e => ?_) (fun e => ?_)⟩
      · have h0 : 0 ≤ i := of_decide_eq_true e
        refine ⟨_, _, rfl, rfl, ?_⟩
        have eb : (byteV (.int i)).isSome = decide (i ≤ 255) := by
          rw [byteV_I]
          by_cases c : i ≤ 255
          · rw [if_pos ⟨h0, c⟩, decide_eq_true c]
            rfl
          · rw [if_neg (fun z => c z.2), decide_eq_false c]
            rfl
        rw [eb] at q
        exact q
      · have eb : (byteV (.int i)).isSome = false := by
          rw [byteV_I, if_neg (fun z => e (decide_eq_true z.1))]
          rfl
        rw [eb] at q
        exact q
    · exact ⟨_, rfl, _, rfl, .inr (.inl ⟨b, rfl, _, rfl, iteF q⟩)⟩
    · have eb : (byteV x).isSome = false := by
        unfold byteV
        split
        · rename_i i
          cases ty with
          | base h => cases h with
            | int => exact absurd kt (by decide +kernel)
        · rfl
      rw [eb] at q
      exact ⟨_, rfl, _, rfl, .inr (.inr ⟨t, ty, kt, _, rfl, iteF q⟩)⟩

def spLeast : Sp := fun vs H Q _ => ∃ f : Nat, vs = [.int (f : Int)] ∧ Q (.int (least2 f : Int)) H
abbrev s_least_second : Stmt := topS 11
theorem sc_least_second : FnScope ["first"] ["first"] (defScope s_least_second) := ⟨rfl, rfl, rfl, by decide +kernel, rfl, by decide +kernel, by decide +kernel⟩
theorem ok_least_second {f : Addr} {fd : FuncData} (F : Fun K "least_second" "least_second" s_least_second f fd) {t_LONG : Tok} (g_LONG : mg "LONG" = some (.int (191) t_LONG)) {t_FIRST_LONG : Tok} (g_FIRST_LONG : mg "FIRST_LONG" = some (.int (192) t_FIRST_LONG)) : Told P w K mg base CX0 1 f fd ["first"] spLeast := by
  refine told F sc_least_second (fun vs H Q E h => ?_) (fun cdv A outer s H vs Q E clr hr h => ?_)
  · obtain ⟨f, rfl, q⟩ := h
    rfl
  · obtain ⟨f, rfl, q⟩ := h
    refine ⟨_, (pss_one (ps_ret (pe_ifExp (pt_cmpR op_eq (pv 0) (pe_op op_add (pe_glob (v := .int (191)) (by rfl) g_LONG ⟨_, rfl⟩) pe_int) (nomark _)) (pe_glob (v := .int (192)) (by rfl) g_FIRST_LONG ⟨_, rfl⟩) pe_int))), ?_⟩
    refine ⟨_, rfl, _, _, rfl, rfl, rfl, _, rfl, ite2 (fun e => ?_) (fun e => ?_)⟩
    · have : f = 192 := by
        have := V.int.inj (of_decide_eq_true e)
        omega
      have e2 : least2 f = 192 := if_pos this
      rw [e2] at q
      exact q
    · have : ¬ f = 192 := fun z => e (decide_eq_true (congrArg V.int (by omega)))
      have e2 : least2 f = 1 := if_neg this
      rw [e2] at q
      exact q

/-- an error of the class C with at = n, raised where the heap was H -/
def Err1 (E : XK) (C : Addr) (H : Hp) (n : Nat) : Prop := ∀ d H', H d = none → Same H H' → H' d = some (.xd [("at", .int (n : Int))]) → E (.ref C) (some d) H'
def spByteAt (K : PySem.W.Frag) (cW cU : Addr) : Sp := fun vs H Q E => ∃ (a : Addr) (xs : List V) (at_ lo hi : Nat), vs = [.ref a, .int (at_ : Int), .int (lo : Int), .int (hi : Int)] ∧ SqL K H a xs ∧ (∀ v ∈ xs, Ent K H v) ∧ at_ ≤ xs.length ∧
  (xs[at_]? = none → Err1 E cU H at_) ∧ ∀ v, xs[at_]? = some v → (∀ b, byteV v = some b → lo ≤ b → b ≤ hi → Q (.int (b : Int)) H) ∧ ((∀ b, byteV v = some b → ¬ (lo ≤ b ∧ b ≤ hi)) → Err1 E cW H at_)
abbrev s_byte_at : Stmt := topS 12
theorem sc_byte_at : FnScope ["data", "at", "low", "high", "entry"] ["data", "at", "low", "high"] (defScope s_byte_at) := ⟨rfl, rfl, rfl, by decide +kernel, rfl, by decide +kernel, by decide +kernel⟩
theorem ok_byte_at {f : Addr} {fd : FuncData} (F : Fun K "byte_at" "byte_at" s_byte_at f fd) (m_len : mg "len" = none) {c_Unfinished : Addr} (E_Unfinished : Err P w K mg base "Unfinished" "at" c_Unfinished) {c_WrongByte : Addr} (E_WrongByte : Err P w K mg base "WrongByte" "at" c_WrongByte) {f_is_byte : Addr} {fd_is_byte : FuncData} (G_is_byte : Told P w K mg base CX0 2 f_is_byte fd_is_byte ["thing"] (spIsByte K)) (b_is_byte : Binds K fd_is_byte ["thing"] []) (g_is_byte : mg "is_byte" = some (.ref f_is_byte)) (k_is_byte : PySem.W.keepIn K (.ref f_is_byte) = true) : Told P w K mg base (L2.CX P w) 3 f fd ["data", "at", "low", "high"] (spByteAt K c_WrongByte c_Unfinished) := by
  refine toldX F sc_byte_at (fun vs H Q E h => ?_) (fun cdv A outer s H vs Q E clr hr h => ?_)
  · obtain ⟨a, xs, n, lo, hi, rfl, hS, hE, hn, hU, hV⟩ := h
    rfl
  · obtain ⟨a, xs, n, lo, hi, rfl, hS, hE, hn, hU, hV⟩ := h
    refine ⟨_, (pss_cons (ps_if (pt_cmpR op_eq (pv 1) (pe_callB call_len_seq (by rfl) m_len PySem.boot_len (pa_cons (pv 0) pa_nil)) (nomark _))
    (pss_one (ps_raise rfl (takes_of rfl rfl rfl rfl) (pmk_err E_Unfinished (hr.mono (by decide)) (by rfl) (pa_cons (pv 1) pa_nil))))
    pss_nil)
    (pss_cons (ps_set (i := 4) sc_byte_at.nd rfl (Or.inl rfl) (pe_ix ix_list (pv 0) (pv 1) (fun _ _ => rfl)))
    (pss_cons (ps_if (PW.pt (pw_or (pt_not (pt_val (pe_told G_is_byte clr (hr.mono (by decide)) (by rfl) g_is_byte k_is_byte b_is_byte .nil pass0 (pa_cons (pv 4) pa_nil)))) (pw_or1 (pt_not (pt_chain op_le op_le (pv 2) (pv 4) (pv 3))))))
    (pss_one (ps_raise rfl (takes_of rfl rfl rfl rfl) (pmk_err E_WrongByte (hr.mono (by decide)) (by rfl) (pa_cons (pv 1) pa_nil))))
    pss_nil)
    (pss_one (ps_ret (pv 4)))))), ?_⟩
    refine ⟨_, rfl, _, rfl, a, xs, rfl, .inl hS, rfl, _, rfl, ite2 (fun e => ?_) (fun e => ?_)⟩
    · have en : n = xs.length := by
        have := V.int.inj (of_decide_eq_true e)
        omega
      exact ⟨_, rfl, err_made E_Unfinished.T E_Unfinished.no (hU (List.getElem?_eq_none (by omega)))⟩
    · have en : n < xs.length := by
        have : n ≠ xs.length := fun z => e (decide_eq_true (congrArg V.int (by omega)))
        omega
      have hv := List.getElem?_eq_getElem en
      obtain ⟨hQ, hW⟩ := hV _ hv
      refine ⟨_, rfl, _, rfl, a, xs, _, xs[n], rfl, rfl, hS, atI_nat hv, ?_⟩
      refine ⟨_, rfl, _, rfl, hE _ (List.getElem_mem en), ?_⟩
      cases hb : byteV xs[n] with
      | none =>
        refine ⟨_, rfl, iteT ?_⟩
        exact ⟨_, rfl, err_made E_WrongByte.T E_WrongByte.no (hW fun b z => by rw [hb] at z; cases z)⟩
      | some b =>
        have ev := byteV_int hb
        refine ⟨_, rfl, iteF ?_⟩
        refine ⟨_, rfl, _, rfl, _, _, rfl, ev, _, rfl, ite2 (fun c1 => ?_) (fun c1 => ?_)⟩
        · have h1 : lo ≤ b := by
            have := of_decide_eq_true c1
            omega
          refine ⟨_, rfl, _, _, ev, rfl, _, rfl, ?_⟩
          by_cases c2 : (b : Int) ≤ (hi : Int)
          · rw [decide_eq_true c2]
            refine iteF ⟨_, rfl, ?_⟩
            rw [ev]
            exact hQ b hb h1 (by omega)
          · rw [decide_eq_false c2]
            exact iteT ⟨_, rfl, err_made E_WrongByte.T E_WrongByte.no (hW fun b' z => by rw [hb] at z; cases z; omega)⟩
        · refine ⟨_, rfl, iteT ?_⟩
          refine ⟨_, rfl, err_made E_WrongByte.T E_WrongByte.no (hW fun b' z h => by
            rw [hb] at z
            cases z
            exact c1 (decide_eq_true (by omega)))⟩

def spDigitAt (K : PySem.W.Frag) (cW cU : Addr) : Sp := fun vs H Q E => ∃ (a : Addr) (xs : List V) (at_ lo hi : Nat), vs = [.ref a, .int (at_ : Int), .int (lo : Int), .int (hi : Int), .bl false] ∧ SqL K H a xs ∧ (∀ v ∈ xs, Ent K H v) ∧ at_ ≤ xs.length ∧
  (xs[at_]? = none → Err1 E cU H at_) ∧ ∀ v, xs[at_]? = some v → (∀ b, byteV v = some b → lo ≤ b → b ≤ hi → Q (.int (b : Int)) H) ∧ ((∀ b, byteV v = some b → ¬ (lo ≤ b ∧ b ≤ hi)) → Err1 E cW H at_)
abbrev s_digit_at : Stmt := topS 13
theorem sc_digit_at : FnScope ["data", "at", "low", "high", "is_turned"] ["data", "at", "low", "high", "is_turned"] (defScope s_digit_at) := ⟨rfl, rfl, rfl, by decide +kernel, rfl, by decide +kernel, by decide +kernel⟩
theorem ok_digit_at {f : Addr} {fd : FuncData} (F : Fun K "digit_at" "digit_at" s_digit_at f fd) {f_byte_at : Addr} {fd_byte_at : FuncData} (G_byte_at : Told P w K mg base (L2.CX P w) 3 f_byte_at fd_byte_at ["data", "at", "low", "high"] (spByteAt K c_WrongByte c_Unfinished)) (b_byte_at : Binds K fd_byte_at ["data", "at", "low", "high"] []) (g_byte_at : mg "byte_at" = some (.ref f_byte_at)) (k_byte_at : PySem.W.keepIn K (.ref f_byte_at) = true) : Told P w K mg base (L2.CX P w) 4 f fd ["data", "at", "low", "high", "is_turned"] (spDigitAt K c_WrongByte c_Unfinished) := by
  refine toldX F sc_digit_at (fun vs H Q E h => ?_) (fun cdv A outer s H vs Q E clr hr h => ?_)
  · obtain ⟨a, xs, n, lo, hi, rfl, hS, hE, hn, hU, hV⟩ := h
    rfl
  · obtain ⟨a, xs, n, lo, hi, rfl, hS, hE, hn, hU, hV⟩ := h
    refine ⟨_, (pss_cons (ps_if (pt_val (pv 4))
    (pss_one ps_never)
    pss_nil)
    (pss_one (ps_ret (pe_toldS G_byte_at clr (hr.mono (by decide)) (by rfl) g_byte_at k_byte_at b_byte_at .nil (fun σ => passAt (takes_of rfl rfl rfl rfl) σ) (pa_cons (pv 0) (pa_cons (pv 1) (pa_cons (pv 2) (pa_cons (pv 3) pa_nil)))))))), ?_⟩
    exact ⟨_, rfl, _, rfl, iteF ⟨_, rfl, _, rfl, _, rfl, _, rfl, a, xs, n, lo, hi, rfl, hS, hE, hn, hU, hV⟩⟩

def wantRes (E : XK) (Q : VK) (cW cU : Addr) (H : Hp) (len : Nat) : Res → Prop
  | .num n e => ∀ t H', Same H H' → H t = none → H' t = some (.tup [.int (n : Int), .int (e : Int)]) → Q (.ref t) H'
  | .wrong i => Err1 E cW H i
  | .unf => Err1 E cU H len
theorem more_at {ys : List (Option Nat)} {k pos acc : Nat} : more ys (k + 1) pos acc = match ys[pos]? with
    | none => .unf
    | some none => .wrong pos
    | some (some b) => more ys k (pos + 1) (acc * 256 + b) := rfl
def codeSz (f : Nat) : Nat := if f < 192 then 1 else f - 190
def spCodeSize : Sp := fun vs H Q _ => ∃ f : Nat, vs = [.int (f : Int)] ∧ Q (.int (codeSz f : Int)) H
abbrev s_code_size : Stmt := topS 10
theorem sc_code_size : FnScope ["first"] ["first"] (defScope s_code_size) := ⟨rfl, rfl, rfl, by decide +kernel, rfl, by decide +kernel, by decide +kernel⟩
theorem ok_code_size {f : Addr} {fd : FuncData} (F : Fun K "code_size" "code_size" s_code_size f fd) {t_FIRST_LONG : Tok} (g_FIRST_LONG : mg "FIRST_LONG" = some (.int (192) t_FIRST_LONG)) {t_LONG : Tok} (g_LONG : mg "LONG" = some (.int (191) t_LONG)) : Told P w K mg base CX0 1 f fd ["first"] spCodeSize := by
  refine told F sc_code_size (fun vs H Q E h => ?_) (fun cdv A outer s H vs Q E clr hr h => ?_)
  · obtain ⟨f, rfl, q⟩ := h
    rfl
  · obtain ⟨f, rfl, q⟩ := h
    refine ⟨_, (pss_one (ps_ret (pe_ifExp (pt_cmpR op_lt (pv 0) (pe_glob (v := .int (192)) (by rfl) g_FIRST_LONG ⟨_, rfl⟩) (nomark _)) pe_int (pe_op op_sub (pe_op op_add pe_int (pv 0)) (pe_glob (v := .int (191)) (by rfl) g_LONG ⟨_, rfl⟩))))), ?_⟩
    refine ⟨_, rfl, _, _, rfl, rfl, _, rfl, ite2 (fun e => ?_) (fun e => ?_)⟩
    · have e2 : codeSz f = 1 := if_pos (by have := of_decide_eq_true e; omega)
      rw [e2] at q
      exact q
    · have : ¬ f < 192 := fun z => e (decide_eq_true (by omega))
      have e2 : ((codeSz f : Nat) : Int) = 1 + (f : Int) - 191 := by
        rw [show codeSz f = f - 190 from if_neg this]
        omega
      rw [e2] at q
      exact ⟨_, rfl, _, _, rfl, rfl, _, _, rfl, rfl, q⟩

def spCodeAt (K : PySem.W.Frag) (cW cU : Addr) : Sp := fun vs H Q E => ∃ (a : Addr) (xs : List V) (at_ : Nat), vs = [.ref a, .int (at_ : Int), .bl false] ∧ SqL K H a xs ∧ (∀ v ∈ xs, Ent K H v) ∧ at_ ≤ xs.length ∧ xs.length ≤ 1000000 ∧ wantRes E Q cW cU H xs.length (readN (xs.map byteV) at_)
abbrev s_code_at : Stmt := topS 14
theorem sc_code_at : FnScope ["data", "at", "is_turned", "first", "end", "number", "index"] ["data", "at", "is_turned"] (defScope s_code_at) := ⟨rfl, rfl, rfl, by decide +kernel, rfl, by decide +kernel, by decide +kernel⟩
theorem ok_code_at {f : Addr} {fd : FuncData} (F : Fun K "code_at" "code_at" s_code_at f fd) (m_range : mg "range" = none) {t_LAST_FIRST : Tok} (g_LAST_FIRST : mg "LAST_FIRST" = some (.int (254) t_LAST_FIRST)) {f_digit_at : Addr} {fd_digit_at : FuncData} (G_digit_at : Told P w K mg base (L2.CX P w) 4 f_digit_at fd_digit_at ["data", "at", "low", "high", "is_turned"] (spDigitAt K c_WrongByte c_Unfinished)) (b_digit_at : Binds K fd_digit_at ["data", "at", "low", "high", "is_turned"] []) (g_digit_at : mg "digit_at" = some (.ref f_digit_at)) (k_digit_at : PySem.W.keepIn K (.ref f_digit_at) = true) {f_code_size : Addr} {fd_code_size : FuncData} (G_code_size : Told P w K mg base CX0 1 f_code_size fd_code_size ["first"] spCodeSize) (b_code_size : Binds K fd_code_size ["first"] []) (g_code_size : mg "code_size" = some (.ref f_code_size)) (k_code_size : PySem.W.keepIn K (.ref f_code_size) = true) {f_least_second : Addr} {fd_least_second : FuncData} (G_least_second : Told P w K mg base CX0 1 f_least_second fd_least_second ["first"] spLeast) (b_least_second : Binds K fd_least_second ["first"] []) (g_least_second : mg "least_second" = some (.ref f_least_second)) (k_least_second : PySem.W.keepIn K (.ref f_least_second) = true) : Told P w K mg base (L2.CX P w) 5 f fd ["data", "at", "is_turned"] (spCodeAt K c_WrongByte c_Unfinished) := by
  refine toldX F sc_code_at (fun vs H Q E h => ?_) (fun cdv A outer s H vs Q E clr hr h => ?_)
  · obtain ⟨a, xs, n, rfl, hS, hE, hn, hmil, hw⟩ := h
    rfl
  · obtain ⟨a, xs, n, rfl, hS, hE, hn, hmil, hw⟩ := h
    refine ⟨_, (pss_cons (ps_set (i := 3) sc_code_at.nd rfl (Or.inl rfl) (pe_toldS G_digit_at clr (hr.mono (by decide)) (by rfl) g_digit_at k_digit_at b_digit_at .nil (fun σ => passAt (takes_of rfl rfl rfl rfl) σ) (pa_cons (pv 0) (pa_cons (pv 1) (pa_cons pe_int (pa_cons (pe_glob (v := .int (254)) (by rfl) g_LAST_FIRST ⟨_, rfl⟩) (pa_cons (pv 2) pa_nil)))))))
    (pss_cons (ps_set (i := 4) sc_code_at.nd rfl (Or.inl rfl) (pe_op op_add (pv 1) (pe_told G_code_size clr (hr.mono (by decide)) (by rfl) g_code_size k_code_size b_code_size .nil pass0 (pa_cons (pv 3) pa_nil))))
    (pss_cons (ps_if (pt_cmpR op_eq (pv 4) (pe_op op_add (pv 1) pe_int) (nomark _))
    (pss_one (ps_ret (pe_tup (pa_cons (pv 3) (pa_cons (pv 4) pa_nil)))))
    pss_nil)
    (pss_cons (ps_set (i := 5) sc_code_at.nd rfl (Or.inl rfl) (pe_toldS G_digit_at clr (hr.mono (by decide)) (by rfl) g_digit_at k_digit_at b_digit_at .nil (fun σ => passAt (takes_of rfl rfl rfl rfl) σ) (pa_cons (pv 0) (pa_cons (pe_op op_add (pv 1) pe_int) (pa_cons (pe_told G_least_second clr (hr.mono (by decide)) (by rfl) g_least_second k_least_second b_least_second .nil pass0 (pa_cons (pv 3) pa_nil)) (pa_cons pe_int (pa_cons (pv 2) pa_nil)))))))
    (pss_cons (ps_for (passes_of rfl) rfl (pi_range2 (by rfl) m_range (pa_cons (pe_op op_add (pv 1) pe_int) (pa_cons (pv 4) pa_nil))) (pg_name (i := 6) sc_code_at.nd rfl (Or.inl rfl))
    (pss_one (ps_set (i := 5) sc_code_at.nd rfl (Or.inl rfl) (pe_op op_add (pe_op op_mul (pv 5) pe_int) (pe_toldS G_digit_at clr (hr.mono (by decide)) (by rfl) g_digit_at k_digit_at b_digit_at .nil (fun σ => passAt (takes_of rfl rfl rfl rfl) σ) (pa_cons (pv 0) (pa_cons (pv 6) (pa_cons pe_int (pa_cons pe_int (pa_cons (pv 2) pa_nil))))))))))
    (pss_one (ps_ret (pe_tup (pa_cons (pv 5) (pa_cons (pv 4) pa_nil)))))))))), ?_⟩
    have hys : ∀ i, (xs.map byteV)[i]? = (xs[i]?).map byteV := fun i => List.getElem?_map ..
    have hlen : ∀ i, i ≤ xs.length → xs[i]? = none → i = xs.length := fun i h1 h2 => by
      have := List.getElem?_eq_none_iff.mp h2
      omega
    unfold readN at hw
    rw [hys] at hw
    refine ⟨_, rfl, _, rfl, _, rfl, a, xs, n, 0, 254, rfl, hS, hE, hn, fun hv => ?_, fun v hv => ⟨fun b hb _ hb2 => ?_, fun nb => ?_⟩⟩
    · rw [hv] at hw
      rw [hlen n hn hv]
      exact hw
    · rw [hv] at hw
      dsimp only [Option.map_some] at hw
      rw [hb] at hw
      dsimp only at hw
      rw [if_neg (show ¬ b = 255 by omega)] at hw
      have hn1 : n < xs.length := (List.getElem?_eq_some_iff.mp hv).1
      refine ⟨_, rfl, _, rfl, b, rfl, _, _, rfl, rfl, ?_⟩
      refine ⟨_, rfl, _, rfl, _, _, rfl, rfl, rfl, _, rfl, ite2 (fun c => ?_) (fun c => ?_)⟩
      · have hb3 : b < 192 := by
          have := V.int.inj (of_decide_eq_true c)
          unfold codeSz at this
          split at this
          · assumption
          · omega
        have e1 : codeSz b = 1 := if_pos hb3
        rw [if_pos hb3] at hw
        refine ⟨_, rfl, _, rfl, sz (show 2 ≤ 1000000 by decide), fun t nt => hw t _ (same_new nt) nt ?_⟩
        rw [upd_same, e1]
        rfl
      · have hb3 : ¬ b < 192 := fun z => c (decide_eq_true (by rw [show codeSz b = 1 from if_pos z]; rfl))
        have e1 : ((codeSz b : Nat) : Int) = (b : Int) - 190 := by
          rw [show codeSz b = b - 190 from if_neg hb3]
          omega
        rw [if_neg hb3, hys] at hw
        refine ⟨_, rfl, _, rfl, _, _, rfl, rfl, _, rfl, b, rfl, ?_⟩
        refine ⟨_, rfl, a, xs, n + 1, least2 b, 255, rfl, hS, hE, hn1, fun hv2 => ?_, fun v2 hv2 => ⟨fun b2 hb2' hl _ => ?_, fun nb => ?_⟩⟩
        · rw [hv2] at hw
          rw [hlen (n + 1) hn1 hv2]
          exact hw
        · rw [hv2] at hw
          dsimp only [Option.map_some] at hw
          rw [hb2'] at hw
          dsimp only at hw
          rw [if_neg (show ¬ b2 < least2 b by omega)] at hw
          have hn2 : n + 1 < xs.length := (List.getElem?_eq_some_iff.mp hv2).1
          refine ⟨_, rfl, _, _, rfl, rfl, _, rfl, _, _, rfl, ⟨by omega, by omega, by omega, by omega⟩, ?_⟩
          have en : ((n : Int) + (codeSz b : Int) - ((n : Int) + 2)).toNat = b - 192 := by omega
          rw [en]
          refine for_range (lo := (n : Int) + 2) (n := b - 192) (fun i σ H' => H' = H ∧ ∃ (acc : Nat) (v : Option V), σ = [some (.ref a), some (.int (n : Int)), some (.bl false), some (.int (b : Int)), some (.int ((n : Int) + (codeSz b : Int))), some (.int (acc : Int)), v] ∧
            n + 2 + i ≤ xs.length ∧ wantRes E Q c_WrongByte c_Unfinished H xs.length (more (xs.map byteV) (b - 192 - i) (n + 2 + i) acc)) ⟨rfl, b2, _, rfl, hn2, hw⟩ ?_ ?_
          · rintro i σ H' hi ⟨rfl, acc, v3, rfl, hpos, hw3⟩
            obtain ⟨k', hk'⟩ : ∃ k', b - 192 - i = k' + 1 := ⟨b - 192 - i - 1, by omega⟩
            rw [hk', more_at, hys] at hw3
            refine ⟨_, rfl, _, _, rfl, rfl, .inr ⟨by decide, by decide⟩, _, rfl, _, rfl, _, rfl, a, xs, n + 2 + i, 0, 255, ?_, hS, hE, hpos, fun hv4 => ?_, fun v4 hv4 => ⟨fun b4 hb4 _ _ => ?_, fun nb => ?_⟩⟩
            · show [V.ref a, V.int ((n : Int) + 2 + (i : Int)), V.int 0, V.int 255, V.bl false] = _
              have : (n : Int) + 2 + (i : Int) = ((n + 2 + i : Nat) : Int) := by omega
              rw [this]
              rfl
            · rw [hv4] at hw3
              rw [hlen _ hpos hv4]
              exact hw3
            · rw [hv4] at hw3
              dsimp only [Option.map_some] at hw3
              rw [hb4] at hw3
              dsimp only at hw3
              have hp4 : n + 2 + i < xs.length := (List.getElem?_eq_some_iff.mp hv4).1
              refine ⟨_, _, rfl, rfl, rfl, acc * 256 + b4, some (.int ((n : Int) + 2 + (i : Int))), ?_, by omega, ?_⟩
              · have : (acc : Int) * 256 + (b4 : Int) = ((acc * 256 + b4 : Nat) : Int) := by omega
                rw [← this]
                rfl
              · have e1 : b - 192 - (i + 1) = k' := by omega
                rw [e1]
                exact hw3
            · rw [hv4] at hw3
              dsimp only [Option.map_some] at hw3
              have none4 : byteV v4 = none := by
                cases q : byteV v4 with
                | none => rfl
                | some b4 => exact absurd ⟨Nat.zero_le _, byteV_lt q⟩ (nb b4 q)
              rw [none4] at hw3
              exact hw3
          · rintro σ H' ⟨rfl, acc, v3, rfl, hpos, hw3⟩
            rw [Nat.sub_self] at hw3
            refine ⟨_, rfl, _, rfl, sz (show 2 ≤ 1000000 by decide), fun t nt => hw3 t _ (same_new nt) nt ?_⟩
            have : ((n : Int) + (codeSz b : Int)) = ((n + 2 + (b - 192) : Nat) : Int) := by omega
            rw [upd_same, this]
        · rw [hv2] at hw
          dsimp only [Option.map_some] at hw
          cases q : byteV v2 with
          | none =>
            rw [q] at hw
            exact hw
          | some b2 =>
            rw [q] at hw
            dsimp only at hw
            rw [if_pos (show b2 < least2 b from Nat.lt_of_not_le fun z => nb b2 q ⟨z, byteV_lt q⟩)] at hw
            exact hw
    · rw [hv] at hw
      dsimp only [Option.map_some] at hw
      cases q : byteV v with
      | none =>
        rw [q] at hw
        exact hw
      | some b =>
        rw [q] at hw
        dsimp only at hw
        have hb255 : b = 255 := by
          have h1 := byteV_lt q
          have h2 := nb b q
          omega
        rw [if_pos hb255] at hw
        exact hw

def spNumberAt (K : PySem.W.Frag) (cW cU : Addr) : Sp := fun vs H Q E => ∃ (a : Addr) (xs : List V) (at_ : Nat), vs = [.ref a, .int (at_ : Int)] ∧ SqL K H a xs ∧ (∀ v ∈ xs, Ent K H v) ∧ at_ ≤ xs.length ∧ xs.length ≤ 1000000 ∧ wantRes E Q cW cU H xs.length (readN (xs.map byteV) at_)
abbrev s_number_at : Stmt := topS 15
theorem sc_number_at : FnScope ["data", "at"] ["data", "at"] (defScope s_number_at) := ⟨rfl, rfl, rfl, by decide +kernel, rfl, by decide +kernel, by decide +kernel⟩
theorem ok_number_at {f : Addr} {fd : FuncData} (F : FunD K "number_at" "number_at" (defArgs s_number_at) (defBody s_number_at) (defScope s_number_at) [.int 0] [] f fd) {f_code_at : Addr} {fd_code_at : FuncData} (G_code_at : Told P w K mg base (L2.CX P w) 5 f_code_at fd_code_at ["data", "at", "is_turned"] (spCodeAt K c_WrongByte c_Unfinished)) (b_code_at : Binds K fd_code_at ["data", "at", "is_turned"] []) (g_code_at : mg "code_at" = some (.ref f_code_at)) (k_code_at : PySem.W.keepIn K (.ref f_code_at) = true) : Told P w K mg base (L2.CX P w) 6 f fd ["data", "at"] (spNumberAt K c_WrongByte c_Unfinished) := by
  refine toldD F sc_number_at (fun vs H Q E h => ?_) (fun cdv A outer s H vs Q E clr hr h => ?_)
  · obtain ⟨a, xs, n, rfl, hS, hE, hn, hmil, hw⟩ := h
    rfl
  · obtain ⟨a, xs, n, rfl, hS, hE, hn, hmil, hw⟩ := h
    refine ⟨_, (pss_one (ps_ret (pe_toldS G_code_at clr (hr.mono (by decide)) (by rfl) g_code_at k_code_at b_code_at .nil (fun σ => passAt (takes_of rfl rfl rfl rfl) σ) (pa_cons (pv 0) (pa_cons (pv 1) (pa_cons pe_bl pa_nil)))))), ?_⟩
    exact ⟨_, rfl, _, rfl, a, xs, n, rfl, hS, hE, hn, hmil, hw⟩

/-! ### rows -/
/-- an entry that no draw changes -/
def EntG (H : Hp) (v : V) : Prop := (∃ i, v = .int i) ∨ (∃ b, v = .bl b) ∨ v = .non ∨ (∃ x, v = .str x) ∨ (∃ t xs, v = .ref t ∧ H t = some (.tup xs))
theorem EntG.ent {K : PySem.W.Frag} {H : Hp} {v : V} (h : EntG H v) : Ent K H v := by
  rcases h with h | h | rfl | ⟨x, rfl⟩ | ⟨t, xs, rfl, e⟩
  · exact .inl h
  · exact .inr (.inl h)
  · exact .inr (.inr ⟨"NoneType", .base .non, by decide +kernel⟩)
  · exact .inr (.inr ⟨"str", .base (.str x), by decide +kernel⟩)
  · exact .inr (.inr ⟨"tuple", .base (.tup e), by decide +kernel⟩)
theorem EntG.same {H H' : Hp} {v : V} (h : EntG H v) (s : Same H H') : EntG H' v := by
  rcases h with h | h | h | h | ⟨t, xs, rfl, e⟩
  · exact .inl h
  · exact .inr (.inl h)
  · exact .inr (.inr (.inl h))
  · exact .inr (.inr (.inr (.inl h)))
  · exact .inr (.inr (.inr (.inr ⟨t, xs, rfl, s _ _ e⟩)))
theorem EntG.but {H H' : Hp} {v : V} {p : Addr} {n : Nat} (h : EntG H v) (B : BagAt H p n) (s : But p H H') : EntG H' v := by
  rcases h with h | h | h | h | ⟨t, xs, rfl, e⟩
  · exact .inl h
  · exact .inr (.inl h)
  · exact .inr (.inr (.inl h))
  · exact .inr (.inr (.inr (.inl h)))
  · refine .inr (.inr (.inr (.inr ⟨t, xs, rfl, s _ _ ?_ e⟩)))
    intro z
    obtain ⟨d, q, k, hp, _⟩ := B
    rw [z, hp] at e
    cases e
theorem EntG.put {H : Hp} {v : V} {g : Addr} {xs : List V} {o : HO} (h : EntG H v) (hg : H g = some (.lst xs)) : EntG (upd H g o) v := by
  rcases h with h | h | h | h | ⟨t, ys, rfl, e⟩
  · exact .inl h
  · exact .inr (.inl h)
  · exact .inr (.inr (.inl h))
  · exact .inr (.inr (.inr (.inl h)))
  · refine .inr (.inr (.inr (.inr ⟨t, ys, rfl, ?_⟩)))
    rw [upd_ne (fun z => by rw [z, hg] at e; cases e)]
    exact e
theorem ixN_of {n r : Nat} (h : r < n) : ixN n (r : Int) = some r := by
  unfold ixN
  rw [if_pos (by omega), if_pos (by omega)]
  simp
theorem entN {H : Hp} {l : List Nat} : ∀ v ∈ l.map vN, EntG H v := by
  intro v hv
  obtain ⟨d, _, rfl⟩ := List.mem_map.mp hv
  exact .inl ⟨_, rfl⟩
theorem cut_map (l : List Nat) (lo hi : Option Int) : ∃ l' : List Nat, cutV (l.map vN) lo hi = l'.map vN ∧ (∀ d ∈ l', d ∈ l) := by
  refine ⟨(l.drop (HT.sIx (l.map vN).length 0 lo)).take (HT.sIx (l.map vN).length (l.map vN).length hi - HT.sIx (l.map vN).length 0 lo), ?_, fun d hd => List.mem_of_mem_drop (List.mem_of_mem_take hd)⟩
  unfold cutV
  rw [List.map_take, List.map_drop]
theorem cut_last (xs : List V) : (cutV xs (some (-63)) none).length ≤ 63 := by
  unfold cutV
  rw [HT.sIx_none, List.length_take, List.length_drop]
  show min (xs.length - (if (-63 : Int) < 0 then ((-63 : Int) + (xs.length : Int)).toNat else min (-63 : Int).toNat xs.length)) (xs.length - (if (-63 : Int) < 0 then ((-63 : Int) + (xs.length : Int)).toNat else min (-63 : Int).toNat xs.length)) ≤ 63
  rw [if_pos (by decide)]
  omega
theorem rep_zero (k : Nat) : (List.replicate k [V.int 0]).flatten = (List.replicate k 0).map vN := by
  induction k with
  | zero => rfl
  | succ k ih =>
    rw [List.replicate_succ, List.flatten_cons, ih, List.replicate_succ, List.map_cons]
    rfl
def spRowOf : Sp := fun vs H Q _ => ∃ (p : Addr) (n : Nat), vs = [.ref p] ∧ BagAt H p n ∧ n ≤ 40000 ∧
  ∀ q H' (l : List Nat), But p H H' → H q = none → H' q = some (.lst (l.map vN)) → (∀ d ∈ l, d < 256) → l.length ≤ 100 → BagAt H' p (n + 200) → Q (.ref q) H'
abbrev s__law_row_of : Stmt := topS 22
theorem sc__law_row_of : FnScope ["_law_bag_here", "_law_road", "_law_code_here", "_law_digits", "_law_turn"] ["_law_bag_here"] (defScope s__law_row_of) := ⟨rfl, rfl, rfl, by decide +kernel, rfl, by decide +kernel, by decide +kernel⟩
theorem ok__law_row_of {f : Addr} {fd : FuncData} (F : Fun K "_law_row_of" "_law_row_of" s__law_row_of f fd) (m_range : mg "range" = none) (m_len : mg "len" = none) {f__law_take : Addr} {fd__law_take : FuncData} (G__law_take : Told P w K mg base CX0 1 f__law_take fd__law_take ["_law_bag_here", "_law_many"] spTake) (b__law_take : Binds K fd__law_take ["_law_bag_here", "_law_many"] []) (g__law_take : mg "_law_take" = some (.ref f__law_take)) (k__law_take : PySem.W.keepIn K (.ref f__law_take) = true) {f__law_of : Addr} {fd__law_of : FuncData} (G__law_of : Told P w K mg base CX0 2 f__law_of fd__law_of ["_law_bag_here", "_law_some"] (spOf K)) (b__law_of : Binds K fd__law_of ["_law_bag_here", "_law_some"] []) (g__law_of : mg "_law_of" = some (.ref f__law_of)) (k__law_of : PySem.W.keepIn K (.ref f__law_of) = true) {f__law_code : Addr} {fd__law_code : FuncData} (G__law_code : Told P w K mg base CX0 1 f__law_code fd__law_code ["_law_number_here"] spCode) (b__law_code : Binds K fd__law_code ["_law_number_here"] []) (g__law_code : mg "_law_code" = some (.ref f__law_code)) (k__law_code : PySem.W.keepIn K (.ref f__law_code) = true) {f__law_number : Addr} {fd__law_number : FuncData} (G__law_number : Told P w K mg base CX0 3 f__law_number fd__law_number ["_law_bag_here"] spNumber) (b__law_number : Binds K fd__law_number ["_law_bag_here"] []) (g__law_number : mg "_law_number" = some (.ref f__law_number)) (k__law_number : PySem.W.keepIn K (.ref f__law_number) = true) : Told P w K mg base CX0 4 f fd ["_law_bag_here"] spRowOf := by
  refine told F sc__law_row_of (fun vs H Q E h => ?_) (fun cdv A outer s H vs Q E clr hr h => ?_)
  · obtain ⟨p, n, rfl, hB, hn, k⟩ := h
    rfl
  · obtain ⟨p, n, rfl, hB, hn, k⟩ := h
    refine ⟨_, (pss_cons (ps_set (i := 1) sc__law_row_of.nd rfl (Or.inl rfl) (pe_told G__law_take clr (hr.mono (by decide)) (by rfl) g__law_take k__law_take b__law_take .nil pass0 (pa_cons (pv 0) (pa_cons pe_int pa_nil))))
    (pss_cons (ps_if (pt_cmpR op_eq (pv 1) pe_int (nomark _))
    (pss_one (ps_ret (pe_lc (own := [("_law_turn", 4)]) (g := gName 4) (tt := tYes) rfl sc__law_row_of.nd (pi_range1 (by rfl) m_range (pa_cons (pe_told G__law_take clr (hr.mono (by decide)) (by rfl) g__law_take k__law_take b__law_take .nil pass0 (pa_cons (pv 0) (pa_cons pe_int pa_nil))) pa_nil)) (blkOk_by (N := ["_law_bag_here", "_law_road", "_law_code_here", "_law_digits", "_law_turn"]) (sc := defScope s__law_row_of) (by decide +kernel)) (fun _ _ _ _ _ => pg_name (i := 4) sc__law_row_of.nd rfl (Or.inl rfl)) (fun _ _ _ _ _ => pts_nil) (fun _ _ _ _ _ => (pe_told G__law_of clr (hr.mono (by decide)) (by rfl) g__law_of k__law_of b__law_of .nil pass0 (pa_cons (pv 0) (pa_cons (pe_lst (pa_cons pe_int (pa_cons pe_int (pa_cons pe_int (pa_cons pe_int (pa_cons pe_int (pa_cons (pe_told G__law_take clr (hr.mono (by decide)) (by rfl) g__law_take k__law_take b__law_take .nil pass0 (pa_cons (pv 0) (pa_cons pe_int pa_nil))) pa_nil))))))) pa_nil)))))))
    pss_nil)
    (pss_cons (ps_set (i := 2) sc__law_row_of.nd rfl (Or.inl rfl) (pe_told G__law_code clr (hr.mono (by decide)) (by rfl) g__law_code k__law_code b__law_code .nil pass0 (pa_cons (pe_told G__law_number clr (hr.mono (by decide)) (by rfl) g__law_number k__law_number b__law_number .nil pass0 (pa_cons (pv 0) pa_nil)) pa_nil)))
    (pss_cons (ps_if (pt_cmpR op_eq (pv 1) pe_int (nomark _))
    (pss_one (ps_ret (pv 2)))
    pss_nil)
    (pss_cons (ps_set (i := 3) sc__law_row_of.nd rfl (Or.inl rfl) (pe_ifExp (pt_cmpR op_eq (pe_callB call_len_seq (by rfl) m_len PySem.boot_len (pa_cons (pv 2) pa_nil)) pe_int (nomark _)) (pv 2) (pe_slice sl_list (pv 2) (po_some pe_int) po_none)))
    (pss_cons (ps_set (i := 3) sc__law_row_of.nd rfl (Or.inl rfl) (pe_slice sl_list (pe_op op_cat (pe_op op_rep (pe_lst (pa_cons pe_int pa_nil)) (pe_told G__law_take clr (hr.mono (by decide)) (by rfl) g__law_take k__law_take b__law_take .nil pass0 (pa_cons (pv 0) (pa_cons pe_int pa_nil)))) (pv 3)) (po_some (pe_un un_neg pe_int)) po_none))
    (pss_one (ps_ret (pe_op op_cat (pe_lst (pa_cons (pe_op op_add pe_int (pe_callB call_len_seq (by rfl) m_len PySem.boot_len (pa_cons (pv 3) pa_nil))) pa_nil)) (pv 3)))))))))), ?_⟩
    refine ⟨_, rfl, p, 3, n, rfl, hB, by omega, by decide, by decide, fun r H1 hr3 b1 B1 => ?_⟩
    refine ⟨_, rfl, rfl, _, rfl, ite2 (fun e => ?_) (fun e0 => ?_)⟩
    · refine ⟨_, rfl, p, 7, n + 1, rfl, B1, by omega, by decide, by decide, fun m H2 hm b2 B2 => ?_⟩
      refine ⟨_, rfl, by omega, by omega, fun D hD => ?_⟩
      have nD : D ≠ p := bag_ne B2 hD
      rw [Int.toNat_natCast]
      refine lc_range (lo := 0) (n := m) (fun i H' => ∃ l : List Nat, But p H H' ∧ BagAt H' p (n + 2 + 2 * i) ∧ H' D = some (.lst (l.map vN)) ∧ (∀ d ∈ l, d < 256) ∧ l.length = i)
        ⟨[], (b1.trans b2).same (same_new hD), (B2.same (same_new hD)).mono (by omega), upd_same, fun d hd => (nomatch hd), rfl⟩ ?_ ?_
      · rintro i H3 hi ⟨l, b3, B3, hl, hd, hlen⟩
        refine ⟨rfl, ?_⟩
        refine ⟨_, rfl, _, rfl, p, 256, n + 2 + 2 * i, rfl, B3, by omega, by decide, by decide, fun r2 H4 hr2 b4 B4 => ?_⟩
        refine ⟨sz (show 6 ≤ 1000000 by decide), fun g hg => ?_⟩
        refine ⟨p, g, n + 2 + 2 * i + 1, _, rfl, B4.same (same_new hg), by omega, seq_new, bag_ne B4 hg, (show 0 < 6 by decide), (show 6 ≤ 1000000 by decide), fun j v H5 hv b5 B5 => ?_⟩
        have told : ∃ d : Nat, v = vN d ∧ d < 256 := by
          have hm := List.mem_of_getElem? hv
          simp only [List.mem_cons, List.not_mem_nil, or_false] at hm
          rcases hm with rfl | rfl | rfl | rfl | rfl | rfl
          · exact ⟨191, rfl, by decide⟩
          · exact ⟨192, rfl, by decide⟩
          · exact ⟨193, rfl, by decide⟩
          · exact ⟨254, rfl, by decide⟩
          · exact ⟨255, rfl, by decide⟩
          · exact ⟨r2, rfl, hr2⟩
        obtain ⟨d, rfl, hd2⟩ := told
        have b35 := (b4.same (same_new (o := .lst [.int 191, .int 192, .int 193, .int 254, .int 255, .int (r2 : Int)]) hg)).trans b5
        have hl5 : H5 D = some (.lst (l.map vN)) := b35 _ _ nD hl
        refine ⟨_, hl5, ?_, l ++ [d], ?_, ?_, ?_, ?_, ?_⟩
        · rw [List.length_map]
          exact sz_lt (by omega)
        · intro c u hc hu
          have h2 := b2 c u hc (b1 c u hc hu)
          have hne : c ≠ D := ne_of_none h2 hD
          rw [upd_ne hne]
          exact b35 c u hc (b3 c u hc hu)
        · obtain ⟨bd, bs, bk, hb, hr⟩ := B5
          refine BagAt.mono (n := n + 2 + 2 * i + 1 + 1) ⟨bd, bs, bk, ?_, hr⟩ (by omega)
          rw [upd_ne (Ne.symm nD)]
          exact hb
        · rw [upd_same, List.map_append]
          rfl
        · intro x hx
          rcases List.mem_append.mp hx with q | q
          · exact hd x q
          · rw [List.mem_singleton] at q
            omega
        · rw [List.length_append, hlen]
          rfl
      · rintro H3 ⟨l, b3, B3, hl, hd, hlen⟩
        exact k D H3 l b3 (But.free (b1.trans b2) hD nD) hl hd (by omega) (B3.mono (by omega))
    · -- the code of a number, as it is or longer than needed
      refine ⟨_, rfl, p, n + 1, rfl, B1, by omega, fun N H2 hN b2 B2 => ⟨N, rfl, hN, fun c H3 s3 nc hc => ?_⟩⟩
      have b3 := (b1.trans b2).same s3
      have B3 := B2.same s3
      have nc0 : H c = none := But.free (b1.trans b2) nc (bag_ne B2 nc)
      refine ⟨_, rfl, rfl, _, rfl, ite2 (fun e => ?_) (fun e1 => ?_)⟩
      · exact ⟨_, rfl, k c H3 (codeN N) b3 nc0 hc (codeN_lt hN) (Nat.le_trans (codeN_len hN) (by decide)) (B3.mono (by omega))⟩
      · have hcl := codeN_len hN
        unfold tNext
        dsimp only
        refine tIf_all (R := fun v H' => Same H3 H' ∧ ∃ (d : Addr) (l : List Nat), v = .ref d ∧ d ≠ p ∧ H' d = some (.lst (l.map vN)) ∧ (∀ x ∈ l, x < 256) ∧ l.length ≤ 64) (fun Q' q' => ?_) ?_
        · refine ⟨_, rfl, c, _, rfl, .inl (seq_of hc), rfl, _, rfl, ite2 (fun _ => ?_) (fun _ => ?_)⟩
          · exact ⟨_, rfl, q' _ _ ⟨Same.refl _, c, codeN N, rfl, bag_ne B2 nc, hc, codeN_lt hN, hcl⟩⟩
          · obtain ⟨l', hl', hm'⟩ := cut_map (codeN N) (some 1) none
            refine ⟨_, rfl, _, rfl, c, _, rfl, seq_of hc, fun d nd => q' _ _ ⟨same_new nd, d, l', rfl, bag_ne B3 nd, ?_, fun x hx => codeN_lt hN x (hm' x hx), ?_⟩⟩
            · rw [upd_same, hl']
            · have := cutV_length ((codeN N).map vN) (some 1) none
              rw [hl', List.length_map, List.length_map] at this
              omega
        · rintro _ H4 ⟨s4, d, l, rfl, neD, hd, hl, hll⟩
          unfold gName
          dsimp only
          have B4 := B3.same s4
          refine ⟨sz (show 1 ≤ 1000000 by decide), fun z nz => ?_⟩
          have s5 := same_new (o := .lst [.int 0]) nz
          have B5 := B4.same s5
          have neZ : z ≠ p := bag_ne B4 nz
          refine ⟨_, rfl, p, 5, n + 1 + 70, rfl, B5, by omega, by decide, by decide, fun m H6 hm b6 B6 => ?_⟩
          have hz6 := b6 z _ neZ upd_same
          have hd6 := b6 d _ neD (s5 _ _ hd)
          refine ⟨z, _, _, rfl, rfl, hz6, by omega, by omega, ?_, fun y ny => ?_⟩
          · rw [Int.toNat_natCast]
            exact sz (by show 1 * m ≤ 1000000; omega)
          have s7 := same_new (o := .lst (List.replicate (m : Int).toNat [V.int 0]).flatten) ny
          have e7 : (List.replicate (m : Int).toNat [V.int 0]).flatten = (List.replicate m 0).map vN := by
            rw [Int.toNat_natCast, rep_zero]
          refine ⟨_, rfl, y, d, _, _, rfl, rfl, upd_same, s7 _ _ hd6, ?_, fun x nx => ?_⟩
          · rw [e7, List.length_map, List.length_map, List.length_replicate]
            exact sz (by omega)
          rw [e7, ← List.map_append]
          have s7' : Same H6 (upd H6 y (.lst ((List.replicate m 0).map vN))) := same_new ny
          rw [e7] at nx
          have s8 := same_new (o := .lst ((List.replicate m 0 ++ l).map vN)) nx
          obtain ⟨l', hl', hm'⟩ := cut_map (List.replicate m 0 ++ l) (some (-63)) none
          have len63 : l'.length ≤ 63 := by
            have := cut_last ((List.replicate m 0 ++ l).map vN)
            rw [hl', List.length_map] at this
            exact this
          have small : ∀ x ∈ l', x < 256 := fun x hx => by
            rcases List.mem_append.mp (hm' x hx) with q | q
            · rw [(List.mem_replicate.mp q).2]
              decide
            · exact hl x q
          refine ⟨_, rfl, _, rfl, x, _, rfl, seq_new, fun w nw => ?_⟩
          have hw : ∀ Hx : Hp, (upd Hx w (.lst (cutV ((List.replicate m 0 ++ l).map vN) (some (-63)) none))) w = some (.lst (l'.map vN)) := fun _ => upd_same.trans (congrArg (fun z => some (HO.lst z)) hl')
          have s9 := same_new (o := .lst (cutV ((List.replicate m 0 ++ l).map vN) (some (-63)) none)) nw
          refine ⟨_, rfl, w, _, rfl, .inl (seq_of (hw _)), _, _, rfl, rfl, sz (show 1 ≤ 1000000 by decide), fun u nu => ?_⟩
          have s10 := same_new (o := .lst [.int (191 + ((l'.map vN).length : Int))]) nu
          refine ⟨_, rfl, u, w, _, _, rfl, rfl, upd_same, s10 _ _ (hw _), ?_, fun t nt => ?_⟩
          · rw [List.length_map]
            exact sz (by show 1 + l'.length ≤ 1000000; omega)
          have b6' := (b3.same s4).same s5 |>.trans b6
          have nt0 : H t = none := But.free (b6'.same s7' |>.same s8 |>.same s9 |>.same s10) nt (bag_ne ((((B6.same s7').same s8).same s9).same s10) nt)
          refine k t _ ((191 + l'.length) :: l') (b6'.same s7' |>.same s8 |>.same s9 |>.same s10 |>.same (same_new nt)) nt0 ?_ ?_ ?_ ?_
          · rw [upd_same, List.length_map]
            rfl
          · intro x hx
            rcases List.mem_cons.mp hx with q | q
            · omega
            · exact small x q
          · rw [List.length_cons]
            omega
          · exact ((((B6.same s7').same s8).same s9).same s10).same (same_new nt) |>.mono (by omega)

def spSpoilt : Sp := fun vs H Q _ => ∃ (p r : Addr) (n : Nat) (l : List Nat), vs = [.ref p, .ref r] ∧ BagAt H p n ∧ n ≤ 40000 ∧ r ≠ p ∧ H r = some (.lst (l.map vN)) ∧ l.length ≤ 100 ∧
  ∀ q H' xs, But p H H' → H q = none → q ≠ p → H' q = some (.lst xs) → (∀ v ∈ xs, EntG H' v) → xs.length ≤ 100 → BagAt H' p (n + 10) → Q (.ref q) H'
theorem shaped_nums (l : List Nat) : SeqAt.shaped (.list (l.map dN)) = true := by
  have h : ∀ l : List Nat, PyData.canLayAll0 (l.map dN) = true := by
    intro l
    induction l with
    | nil => rfl
    | cons d l ih =>
      show (PyData.canLay0 (dN d) && PyData.canLayAll0 (l.map dN)) = true
      rw [ih]
      rfl
  have d1 : ∀ l : List Nat, PyData.depthAll (l.map dN) ≤ 1 := by
    intro l
    induction l with
    | nil => exact Nat.zero_le _
    | cons d l ih =>
      show max (PyData.depth (dN d)) (PyData.depthAll (l.map dN)) ≤ 1
      have : PyData.depth (dN d) ≤ 1 := by
        unfold dN
        simp [PyData.depth]
      omega
  show (PyData.canLayAll0 (l.map dN) && decide (PyData.depthAll (l.map dN) + 1 ≤ 64)) = true
  rw [h, decide_eq_true (show PyData.depthAll (l.map dN) + 1 ≤ 64 by have := d1 l; omega)]
  rfl
abbrev s__law_spoilt : Stmt := topS 23
theorem sc__law_spoilt : FnScope ["_law_bag_here", "_law_row", "_law_found", "_law_odd"] ["_law_bag_here", "_law_row"] (defScope s__law_spoilt) := ⟨rfl, rfl, rfl, by decide +kernel, rfl, by decide +kernel, by decide +kernel⟩
theorem ok__law_spoilt {f : Addr} {fd : FuncData} (F : Fun K "_law_spoilt" "_law_spoilt" s__law_spoilt f fd) (m_list : mg "list" = none) (m_len : mg "len" = none) {f__law_take : Addr} {fd__law_take : FuncData} (G__law_take : Told P w K mg base CX0 1 f__law_take fd__law_take ["_law_bag_here", "_law_many"] spTake) (b__law_take : Binds K fd__law_take ["_law_bag_here", "_law_many"] []) (g__law_take : mg "_law_take" = some (.ref f__law_take)) (k__law_take : PySem.W.keepIn K (.ref f__law_take) = true) {f__law_of : Addr} {fd__law_of : FuncData} (G__law_of : Told P w K mg base CX0 2 f__law_of fd__law_of ["_law_bag_here", "_law_some"] (spOf K)) (b__law_of : Binds K fd__law_of ["_law_bag_here", "_law_some"] []) (g__law_of : mg "_law_of" = some (.ref f__law_of)) (k__law_of : PySem.W.keepIn K (.ref f__law_of) = true) : Told P w K mg base CX0 3 f fd ["_law_bag_here", "_law_row"] spSpoilt := by
  refine told F sc__law_spoilt (fun vs H Q E h => ?_) (fun cdv A outer s H vs Q E clr hr h => ?_)
  · obtain ⟨p, r, n, l, rfl, hB, hn, hne, hr0, hll, k⟩ := h
    rfl
  · obtain ⟨p, r, n, l, rfl, hB, hn, hne, hr0, hll, k⟩ := h
    refine ⟨_, (pss_cons (ps_set (i := 2) sc__law_spoilt.nd rfl (Or.inl rfl) (pe_callTy call_list_of (by rfl) m_list (by decide +kernel) (pa_cons (pv 1) pa_nil)))
    (pss_cons (ps_if (PW.pt (pw_and (pt_cmpR (op_neD hr.units) (pv 2) (pe_lst pa_nil) (nomark _)) (pw_and1 (pt_cmpR op_eq (pe_told G__law_take clr (hr.mono (by decide)) (by rfl) g__law_take k__law_take b__law_take .nil pass0 (pa_cons (pv 0) (pa_cons pe_int pa_nil))) pe_int (nomark _)))))
    (pss_cons (ps_set (i := 3) sc__law_spoilt.nd rfl (Or.inl rfl) (pe_lst (pa_cons pe_int (pa_cons (pe_un un_neg pe_int) (pa_cons pe_non (pa_cons pe_bl (pa_cons pe_bl (pa_cons pe_str (pa_cons (pe_tup (pa_cons pe_int pa_nil)) (pa_cons (pe_told G__law_take clr (hr.mono (by decide)) (by rfl) g__law_take k__law_take b__law_take .nil pass0 (pa_cons (pv 0) (pa_cons pe_int pa_nil))) (pa_cons pe_int (pa_cons pe_int pa_nil))))))))))))
    (pss_one (ps_asg (pe_told G__law_of clr (hr.mono (by decide)) (by rfl) g__law_of k__law_of b__law_of .nil pass0 (pa_cons (pv 0) (pa_cons (pv 3) pa_nil))) (pg_sub (pv 2) (pe_told G__law_take clr (hr.mono (by decide)) (by rfl) g__law_take k__law_take b__law_take .nil pass0 (pa_cons (pv 0) (pa_cons (pe_callB call_len_seq (by rfl) m_len PySem.boot_len (pa_cons (pv 2) pa_nil)) pa_nil))) set_list))))
    pss_nil)
    (pss_cons (ps_if (pt_cmpR op_eq (pe_told G__law_take clr (hr.mono (by decide)) (by rfl) g__law_take k__law_take b__law_take .nil pass0 (pa_cons (pv 0) (pa_cons pe_int pa_nil))) pe_int (nomark _))
    (pss_one (ps_set (i := 2) sc__law_spoilt.nd rfl (Or.inl rfl) (pe_slice sl_list (pv 2) po_none (po_some (pe_told G__law_take clr (hr.mono (by decide)) (by rfl) g__law_take k__law_take b__law_take .nil pass0 (pa_cons (pv 0) (pa_cons (pe_op op_add (pe_callB call_len_seq (by rfl) m_len PySem.boot_len (pa_cons (pv 2) pa_nil)) pe_int) pa_nil)))))))
    pss_nil)
    (pss_one (ps_ret (pv 2)))))), ?_⟩
    refine ⟨_, rfl, r, _, rfl, .inl (seq_of hr0), fun g ng => ?_⟩
    have s1 := same_new (o := .lst (l.map vN)) ng
    have neG : g ≠ p := bag_ne hB ng
    have B1 := hB.same s1
    -- the state behind the first if: a list at g that only lacks a cut
    have last : ∀ (H2 : Hp) (xs : List V) (y : Option V), But p H H2 → BagAt H2 p (n + 4) → H2 g = some (.lst xs) → (∀ v ∈ xs, EntG H2 v) → xs.length ≤ 100 →
        tSeq (tIfS (tTest (tOp rEq (tCall spTake [] E0 (tCons (tVar 0) (tCons (tC (.int 2)) tNil))) (tC (.int 0)))) (tAsg (tSl (rSlL K) (tVar 2) tNoPart (tPart (tCall spTake [] E0 (tCons (tVar 0) (tCons (tOp (rI0 fun i j => .int (i + j)) (tCB (fun xs H Q => ∃ p ys, xs = [.ref p] ∧ (SqL K H p ys ∨ SqT K H p ys) ∧ Q (.int ys.length) H) (tCons (tVar 2) tNil)) (tC (.int 1))) tNil))))) (gName 2)) tNext) (tRet (tVar 2))
          { nx := fun _ H' => Q .non H', rt := Q } [some (.ref p), some (.ref r), some (.ref g), y] H2 := by
      intro H2 xs y b2 B2 hg hE hx
      refine ⟨_, rfl, p, 2, n + 4, rfl, B2, by omega, by decide, by decide, fun r1 H3 hr1 b3 B3 => ?_⟩
      have hg3 := b3 g _ neG hg
      refine ⟨rfl, _, rfl, ite2 (fun _ => ?_) (fun _ => ?_)⟩
      · refine ⟨_, rfl, _, rfl, _, rfl, g, _, rfl, .inl (seq_of hg3), _, _, rfl, rfl, p, xs.length + 1, n + 4 + 1, rfl, B3, by omega, by omega, by omega, fun r2 H4 hr2 b4 B4 => ?_⟩
        have hg4 := b4 g _ neG hg3
        refine ⟨_, rfl, g, _, rfl, seq_of hg4, fun u nu => ?_⟩
        have s5 := same_new (o := .lst (cutV xs none (some (r2 : Int)))) nu
        have hcut : ∀ v ∈ cutV xs none (some (r2 : Int)), v ∈ xs := fun v hv => by
          unfold cutV at hv
          exact List.mem_of_mem_drop (List.mem_of_mem_take hv)
        refine ⟨_, rfl, k u _ _ (((b2.trans b3).trans b4).same s5) (But.free ((b2.trans b3).trans b4) nu (bag_ne B4 nu)) (bag_ne B4 nu) upd_same (fun v hv => ?_) ?_ ((B4.same s5).mono (by omega))⟩
        · exact (((hE v (hcut v hv)).but B2 b3).but B3 b4).same s5
        · have := cutV_length xs none (some (r2 : Int))
          omega
      · exact ⟨_, rfl, k g H3 xs (b2.trans b3) ng neG hg3 (fun v hv => (hE v hv).but B2 b3) hx (B3.mono (by omega))⟩
    cases l with
    | nil =>
      refine ⟨_, rfl, Nat.zero_le _, fun e ne => ?_⟩
      have s2 := same_new (o := .lst []) ne
      have hg2 := s2 g _ upd_same
      refine ⟨.list [], .list [], .lst (seq_of hg2) .nil, .lst seq_new .nil, by decide, by decide, _, rfl, iteF (iteF ?_)⟩
      exact last _ [] none ((Sb.Same.but s1).same s2) ((B1.same s2).mono (by omega)) hg2 (fun v hv => nomatch hv) (by decide)
    | cons x l' =>
      refine ⟨_, rfl, Nat.zero_le _, fun e ne => ?_⟩
      have s2 := same_new (o := .lst []) ne
      have hg2 := s2 g _ upd_same
      refine ⟨.list ((x :: l').map dN), .list [], .lst (seq_of hg2) (dp_nums' _), .lst seq_new .nil, shaped_nums _, by decide, _, rfl, iteT ?_⟩
      have B2 := B1.same s2
      refine ⟨_, rfl, p, 2, n, rfl, B2, by omega, by decide, by decide, fun r1 H3 hr1 b3 B3 => ?_⟩
      have hg3 := b3 g _ neG hg2
      have b03 := ((Sb.Same.but s1).same s2).trans b3
      refine ⟨rfl, _, rfl, ite2 (fun _ => ?_) (fun _ => ?_)⟩
      · refine ⟨_, rfl, sz (show 1 ≤ 1000000 by decide), fun t nt => ?_⟩
        have s4 := same_new (o := .tup [.int 5]) nt
        refine ⟨_, rfl, p, 256, n + 1, rfl, B3.same s4, by omega, by decide, by decide, fun r2 H5 hr2 b5 B5 => ?_⟩
        have neT : t ≠ p := bag_ne B3 nt
        refine ⟨sz (show 10 ≤ 1000000 by decide), fun o no => ?_⟩
        have s6 := same_new (o := .lst [.int 256, .int (-1), .non, .bl true, .bl false, .str "a", .ref t, .int (r2 : Int), .int 0, .int 255]) no
        refine ⟨_, rfl, _, rfl, p, o, n + 2, _, rfl, B5.same s6, by omega, seq_new, bag_ne B5 no, (show 0 < 10 by decide), (show 10 ≤ 1000000 by decide), fun j v H7 hv b7 B7 => ?_⟩
        have b57 := (b5.same s6).trans b7
        have ht7 : H7 t = some (.tup [.int 5]) := b57 t _ neT upd_same
        have hg7 : H7 g = some (.lst ((x :: l').map vN)) := b57 g _ neG (s4 _ _ hg3)
        have ent : EntG H7 v := by
          have hm := List.mem_of_getElem? hv
          simp only [List.mem_cons, List.not_mem_nil, or_false] at hm
          rcases hm with rfl | rfl | rfl | rfl | rfl | rfl | rfl | rfl | rfl | rfl
          · exact .inl ⟨_, rfl⟩
          · exact .inl ⟨_, rfl⟩
          · exact .inr (.inr (.inl rfl))
          · exact .inr (.inl ⟨_, rfl⟩)
          · exact .inr (.inl ⟨_, rfl⟩)
          · exact .inr (.inr (.inr (.inl ⟨_, rfl⟩)))
          · exact .inr (.inr (.inr (.inr ⟨t, _, rfl, ht7⟩)))
          · exact .inl ⟨_, rfl⟩
          · exact .inl ⟨_, rfl⟩
          · exact .inl ⟨_, rfl⟩
        refine ⟨_, rfl, _, rfl, _, rfl, g, _, rfl, .inl (seq_of hg7), p, ((x :: l').map vN).length, n + 3, rfl, B7, by omega, by rw [List.length_map]; exact Nat.succ_pos _, by rw [List.length_map]; omega, fun r3 H8 hr3 b8 B8 => ?_⟩
        have hg8 := b8 g _ neG hg7
        refine ⟨g, _, _, r3, rfl, rfl, hg8, ixN_of hr3, ?_⟩
        have b08 := ((b03.same s4).trans b57).trans b8
        refine last _ _ _ (But.mut (But.refl p H) ng b08) ?_ upd_same (fun u hu => ?_) ?_
        · obtain ⟨d1, d2, d3, hb, hr⟩ := B8
          exact ⟨d1, d2, d3, by rw [upd_ne (Ne.symm neG)]; exact hb, hr⟩
        · refine EntG.put ?_ hg8
          rcases List.mem_or_eq_of_mem_set hu with q | q
          · exact entN u q
          · rw [q]
            exact ent.but B7 b8
        · rw [List.length_set, List.length_map]
          exact hll
      · exact last _ _ none b03 (B3.mono (by omega)) hg3 entN (by rw [List.length_map]; exact hll)

abbrev s__law_is_byte : Stmt := topS 24
theorem sc__law_is_byte : FnScope ["_law_entry"] ["_law_entry"] (defScope s__law_is_byte) := ⟨rfl, rfl, rfl, by decide +kernel, rfl, by decide +kernel, by decide +kernel⟩
theorem ok__law_is_byte {f : Addr} {fd : FuncData} (F : Fun K "_law_is_byte" "_law_is_byte" s__law_is_byte f fd) (m_isinstance : mg "isinstance" = none) (m_bool : mg "bool" = none) (m_int : mg "int" = none) : Told P w K mg base CX0 1 f fd ["_law_entry"] (spIsByte K) := by
  refine told F sc__law_is_byte (fun vs H Q E h => ?_) (fun cdv A outer s H vs Q E clr hr h => ?_)
  · obtain ⟨x, rfl, h, q⟩ := h
    rfl
  · obtain ⟨x, rfl, h, q⟩ := h
    refine ⟨_, (pss_one (ps_ret (pe_and (pe_callB call_isi (by rfl) m_isinstance (by decide +kernel) (pa_cons (pv 0) (pa_cons (pe_bltn (by rfl) m_int (by decide +kernel) (show RelV (.ty "int") (.type "int") from rfl)) pa_nil))) (pe_and (pe_not (pe_callB call_isi (by rfl) m_isinstance (by decide +kernel) (pa_cons (pv 0) (pa_cons (pe_bltn (by rfl) m_bool (by decide +kernel) (show RelV (.ty "bool") (.type "bool") from rfl)) pa_nil)))) (pe_one (pe_chain op_le op_le pe_int (pv 0) pe_int)))))), ?_⟩
    rcases h with ⟨i, rfl⟩ | ⟨b, rfl⟩ | ⟨t, ty, kt⟩
    · refine ⟨_, rfl, _, _, _, _, _, rfl, .ty "int", .base (.int i), kit_ty (b := "int") (r := true) (by decide +kernel), _, rfl, iteT ?_⟩
      refine ⟨_, rfl, _, _, _, _, _, rfl, .ty "bool", .base (.int i), kit_ty (b := "bool") (r := false) (by decide +kernel), _, rfl, _, rfl, iteT ?_⟩
      refine ⟨_, rfl, _, _, rfl, rfl, _, rfl, ite2 (fun e => ?_) (fun e => ?_)⟩
      · have h0 : 0 ≤ i := of_decide_eq_true e
        refine ⟨_, _, rfl, rfl, ?_⟩
        have eb : (byteV (.int i)).isSome = decide (i ≤ 255) := by
          rw [byteV_I]
          by_cases c : i ≤ 255
          · rw [if_pos ⟨h0, c⟩, decide_eq_true c]
            rfl
          · rw [if_neg (fun z => c z.2), decide_eq_false c]
            rfl
        rw [eb] at q
        exact q
      · have eb : (byteV (.int i)).isSome = false := by
          rw [byteV_I, if_neg (fun z => e (decide_eq_true z.1))]
          rfl
        rw [eb] at q
        exact q
    · refine ⟨_, rfl, _, _, _, _, _, rfl, .ty "int", .base (.bl b), kit_ty (b := "int") (r := true) (by decide +kernel), _, rfl, iteT ?_⟩
      exact ⟨_, rfl, _, _, _, _, _, rfl, .ty "bool", .base (.bl b), kit_ty (b := "bool") (r := true) (by decide +kernel), _, rfl, _, rfl, iteF q⟩
    · have eb : (byteV x).isSome = false := by
        unfold byteV
        split
        · rename_i i
          cases ty with
          | base h => cases h with
            | int => exact absurd kt (by decide +kernel)
        · rfl
      rw [eb] at q
      exact ⟨_, rfl, _, _, _, _, _, rfl, .ty "int", ty, kit_ty kt, _, rfl, iteF q⟩

def dataOf (len : Nat) : Res → PyData
  | .num n e => .tuple [.str "number", .tuple [.int (n : Int), .int (e : Int)]]
  | .wrong i => .tuple [.str "wrong", .int (i : Int)]
  | .unf => .tuple [.str "unfinished", .int (len : Int)]
def spDue (K : PySem.W.Frag) : Sp := fun vs H Q _ => ∃ (a : Addr) (xs : List V) (st : Nat), vs = [.ref a, .int (st : Int)] ∧ SqL K H a xs ∧ (∀ v ∈ xs, Ent K H v) ∧ st ≤ xs.length ∧ xs.length ≤ 1000000 ∧
  ∀ t H', Same H H' → Dp K H' (.ref t) (dataOf xs.length (readN (xs.map byteV) st)) → Q (.ref t) H'
theorem dp_pair {K : PySem.W.Frag} {H : Hp} {t : Addr} {x : Str} {i : Int} (h : H t = some (.tup [.str x, .int i])) : Dp K H (.ref t) (.tuple [.str x, .int i]) := .tup (.inl (.inl h)) (.cons (.str _) (.cons (.int _) .nil))
theorem dp_num {K : PySem.W.Frag} {H : Hp} {t u : Addr} {x : Str} {i j : Int} (h : H t = some (.tup [.str x, .ref u])) (hu : H u = some (.tup [.int i, .int j])) : Dp K H (.ref t) (.tuple [.str x, .tuple [.int i, .int j]]) :=
  .tup (.inl (.inl h)) (.cons (.str _) (.cons (.tup (.inl (.inl hu)) (.cons (.int _) (.cons (.int _) .nil))) .nil))
abbrev s__law_due : Stmt := topS 25
theorem sc__law_due : FnScope ["_law_row", "_law_start", "_law_number_here", "_law_many", "_law_k", "_law_place"] ["_law_row", "_law_start"] (defScope s__law_due) := ⟨rfl, rfl, rfl, by decide +kernel, rfl, by decide +kernel, by decide +kernel⟩
theorem ok__law_due {f : Addr} {fd : FuncData} (F : Fun K "_law_due" "_law_due" s__law_due f fd) (m_len : mg "len" = none) (m_range : mg "range" = none) {f__law_is_byte : Addr} {fd__law_is_byte : FuncData} (G__law_is_byte : Told P w K mg base CX0 1 f__law_is_byte fd__law_is_byte ["_law_entry"] (spIsByte K)) (b__law_is_byte : Binds K fd__law_is_byte ["_law_entry"] []) (g__law_is_byte : mg "_law_is_byte" = some (.ref f__law_is_byte)) (k__law_is_byte : PySem.W.keepIn K (.ref f__law_is_byte) = true) : Told P w K mg base CX0 3 f fd ["_law_row", "_law_start"] (spDue K) := by
  refine told F sc__law_due (fun vs H Q E h => ?_) (fun cdv A outer s H vs Q E clr hr h => ?_)
  · obtain ⟨a, xs, st, rfl, hS, hE, hst, hmil, k⟩ := h
    rfl
  · obtain ⟨a, xs, st, rfl, hS, hE, hst, hmil, k⟩ := h
    refine ⟨_, (pss_cons (ps_if (pt_cmpR op_ge (pv 1) (pe_callB call_len_seq (by rfl) m_len PySem.boot_len (pa_cons (pv 0) pa_nil)) (nomark _))
    (pss_one (ps_ret (pe_tup (pa_cons pe_str (pa_cons (pe_callB call_len_seq (by rfl) m_len PySem.boot_len (pa_cons (pv 0) pa_nil)) pa_nil)))))
    pss_nil)
    (pss_cons (ps_if (PW.pt (pw_or (pt_not (pt_val (pe_told G__law_is_byte clr (hr.mono (by decide)) (by rfl) g__law_is_byte k__law_is_byte b__law_is_byte .nil pass0 (pa_cons (pe_ix ix_list (pv 0) (pv 1) (fun _ _ => rfl)) pa_nil)))) (pw_or1 (pt_cmpR op_eq (pe_ix ix_list (pv 0) (pv 1) (fun _ _ => rfl)) pe_int (nomark _)))))
    (pss_one (ps_ret (pe_tup (pa_cons pe_str (pa_cons (pv 1) pa_nil)))))
    pss_nil)
    (pss_cons (ps_if (pt_cmpR op_lt (pe_ix ix_list (pv 0) (pv 1) (fun _ _ => rfl)) pe_int (nomark _))
    (pss_one (ps_ret (pe_tup (pa_cons pe_str (pa_cons (pe_tup (pa_cons (pe_ix ix_list (pv 0) (pv 1) (fun _ _ => rfl)) (pa_cons (pe_op op_add (pv 1) pe_int) pa_nil))) pa_nil)))))
    pss_nil)
    (pss_cons (ps_par (i := 2) (j := 3) (by rfl) sc__law_due.nd rfl rfl (by decide) rfl rfl (pa_cons pe_int (pa_cons (pe_op op_sub (pe_ix ix_list (pv 0) (pv 1) (fun _ _ => rfl)) pe_int) pa_nil)) (by rfl))
    (pss_cons (ps_for PassesOwn.never rfl (pi_range1 (by rfl) m_range (pa_cons (pv 3) pa_nil)) (pg_name (i := 4) sc__law_due.nd rfl (Or.inl rfl))
    (pss_cons (ps_set (i := 5) sc__law_due.nd rfl (Or.inl rfl) (pe_op op_add (pe_op op_add (pv 1) pe_int) (pv 4)))
    (pss_cons (ps_if (pt_cmpR op_ge (pv 5) (pe_callB call_len_seq (by rfl) m_len PySem.boot_len (pa_cons (pv 0) pa_nil)) (nomark _))
    (pss_one (ps_ret (pe_tup (pa_cons pe_str (pa_cons (pe_callB call_len_seq (by rfl) m_len PySem.boot_len (pa_cons (pv 0) pa_nil)) pa_nil)))))
    pss_nil)
    (pss_cons (ps_if (PW.pt (pw_or (pt_not (pt_val (pe_told G__law_is_byte clr (hr.mono (by decide)) (by rfl) g__law_is_byte k__law_is_byte b__law_is_byte .nil pass0 (pa_cons (pe_ix ix_list (pv 0) (pv 5) (fun _ _ => rfl)) pa_nil)))) (pw_or1 (PW.pt (pw_and (pt_cmpR op_eq (pv 4) pe_int (nomark _)) (pw_and1 (pt_cmpR op_lt (pe_ix ix_list (pv 0) (pv 5) (fun _ _ => rfl)) (pe_ifExp (pt_cmpR op_eq (pv 3) pe_int (nomark _)) pe_int pe_int) (nomark _))))))))
    (pss_one (ps_ret (pe_tup (pa_cons pe_str (pa_cons (pv 5) pa_nil)))))
    pss_nil)
    (pss_one (ps_set (i := 2) sc__law_due.nd rfl (Or.inl rfl) (pe_op op_add (pe_op op_mul (pv 2) pe_int) (pe_ix ix_list (pv 0) (pv 5) (fun _ _ => rfl)))))))))
    (pss_one (ps_ret (pe_tup (pa_cons pe_str (pa_cons (pe_tup (pa_cons (pv 2) (pa_cons (pe_op op_add (pe_op op_add (pv 1) pe_int) (pv 3)) pa_nil))) pa_nil)))))))))), ?_⟩
    have hys : ∀ i, (xs.map byteV)[i]? = (xs[i]?).map byteV := fun i => List.getElem?_map ..
    have k' : ∀ r, readN (xs.map byteV) st = r → ∀ t H', Same H H' → Dp K H' (.ref t) (dataOf xs.length r) → Q (.ref t) H' := fun r hr t H' s d => k t H' s (hr ▸ d)
    refine ⟨_, rfl, _, rfl, a, xs, rfl, .inl hS, _, _, rfl, rfl, _, rfl, ite2 (fun e => ?_) (fun e => ?_)⟩
    · have hge : xs.length ≤ st := by
        have := of_decide_eq_true e
        omega
      have hr0 : readN (xs.map byteV) st = .unf := by
        unfold readN
        rw [hys, List.getElem?_eq_none hge]
        rfl
      exact ⟨_, rfl, a, xs, rfl, .inl hS, sz (show 2 ≤ 1000000 by decide), fun t nt => k' _ hr0 t _ (same_new nt) (dp_pair upd_same)⟩
    have hlt : st < xs.length := by
      have : ¬ (xs.length : Int) ≤ (st : Int) := fun z => e (decide_eq_true z)
      omega
    have hv := List.getElem?_eq_getElem hlt
    generalize xs[st] = v at hv
    have hEv : Ent K H v := hE v (List.mem_of_getElem? hv)
    refine ⟨_, rfl, _, rfl, a, xs, _, v, rfl, rfl, hS, atI_nat hv, v, rfl, hEv, ?_⟩
    cases hb : byteV v with
    | none =>
      have hr0 : readN (xs.map byteV) st = .wrong st := by
        unfold readN
        rw [hys, hv]
        dsimp only [Option.map_some]
        rw [hb]
      exact ⟨_, rfl, iteT ⟨_, rfl, sz (show 2 ≤ 1000000 by decide), fun t nt => k' _ hr0 t _ (same_new nt) (dp_pair upd_same)⟩⟩
    | some b =>
      have ev := byteV_int hb
      subst ev
      have hb2 := byteV_lt hb
      refine ⟨_, rfl, iteF ?_⟩
      refine ⟨_, rfl, _, rfl, a, xs, _, _, rfl, rfl, hS, atI_nat hv, rfl, _, rfl, ite2 (fun c => ?_) (fun c => ?_)⟩
      · have h255 : b = 255 := by
          have := V.int.inj (of_decide_eq_true c)
          omega
        have hr0 : readN (xs.map byteV) st = .wrong st := by
          unfold readN
          rw [hys, hv]
          dsimp only [Option.map_some]
          rw [hb]
          dsimp only
          rw [if_pos h255]
        exact ⟨_, rfl, sz (show 2 ≤ 1000000 by decide), fun t nt => k' _ hr0 t _ (same_new nt) (dp_pair upd_same)⟩
      have h255 : ¬ b = 255 := fun z => c (decide_eq_true (congrArg V.int (by omega)))
      refine ⟨_, rfl, _, rfl, a, xs, _, _, rfl, rfl, hS, atI_nat hv, _, _, rfl, rfl, _, rfl, ite2 (fun c2 => ?_) (fun c2 => ?_)⟩
      · have h192 : b < 192 := by
          have := of_decide_eq_true c2
          omega
        have hr0 : readN (xs.map byteV) st = .num b (st + 1) := by
          unfold readN
          rw [hys, hv]
          dsimp only [Option.map_some]
          rw [hb]
          dsimp only
          rw [if_neg h255, if_pos h192]
        refine ⟨_, rfl, _, rfl, a, xs, _, _, rfl, rfl, hS, atI_nat hv, _, rfl, _, _, rfl, rfl, sz (show 2 ≤ 1000000 by decide), fun t nt => ⟨sz (show 2 ≤ 1000000 by decide), fun u nu => ?_⟩⟩
        have s1 := same_new (o := .tup [.int (b : Int), .int ((st : Int) + 1)]) nt
        exact k' _ hr0 u _ (s1.trans (same_new nu)) (dp_num upd_same (same_new nu _ _ upd_same))
      have h192 : ¬ b < 192 := fun z => c2 (decide_eq_true (by omega))
      have hr1 : readN (xs.map byteV) st = match (xs[st + 1]?).map byteV with
          | none => .unf
          | some none => .wrong (st + 1)
          | some (some b2) => if b2 < least2 b then .wrong (st + 1) else more (xs.map byteV) (b - 192) (st + 2) b2 := by
        unfold readN
        rw [hys, hv]
        dsimp only [Option.map_some]
        rw [hb]
        dsimp only
        rw [if_neg h255, if_neg h192, hys]
      refine ⟨_, rfl, _, rfl, a, xs, _, _, rfl, rfl, hS, atI_nat hv, _, _, rfl, rfl, _, _, rfl, ?_⟩
      refine ⟨_, rfl, _, rfl, by omega, by omega, ?_⟩
      have en : ((b : Int) - 191).toNat = b - 191 := by omega
      rw [en]
      refine for_range (lo := 0) (n := b - 191) (fun i σ H' => H = H' ∧ ∃ (acc : Nat) (y4 y5 : Option V), σ = [some (.ref a), some (.int (st : Int)), some (.int (acc : Int)), some (.int ((b : Int) - 191)), y4, y5] ∧
        (i = 0 → acc = 0) ∧ (i ≠ 0 → st + 1 + i ≤ xs.length ∧ readN (xs.map byteV) st = more (xs.map byteV) (b - 191 - i) (st + 1 + i) acc)) ⟨rfl, 0, none, none, rfl, fun _ => rfl, fun z => absurd rfl z⟩ ?_ ?_
      · rintro i σ H' hi ⟨rfl, acc, y4, y5, rfl, h0, h1⟩
        have epl : (st : Int) + 1 + (0 + (i : Int)) = ((st + 1 + i : Nat) : Int) := by omega
        have hpos : st + 1 + i ≤ xs.length := by
          by_cases z : i = 0
          · subst z
            omega
          · exact (h1 z).1
        refine ⟨_, rfl, _, _, rfl, rfl, _, rfl, _, _, rfl, rfl, ?_⟩
        unfold gName
        dsimp only
        rw [epl]
        refine ⟨_, rfl, _, rfl, a, xs, rfl, .inl hS, _, _, rfl, rfl, _, rfl, ite2 (fun e2 => ?_) (fun e2 => ?_)⟩
        · have hge : xs.length ≤ st + 1 + i := by
            have := of_decide_eq_true e2
            omega
          have hr0 : readN (xs.map byteV) st = .unf := by
            by_cases z : i = 0
            · subst z
              rw [hr1, List.getElem?_eq_none hge]
              rfl
            · rw [(h1 z).2]
              obtain ⟨m, hm⟩ : ∃ m, b - 191 - i = m + 1 := ⟨b - 191 - i - 1, by omega⟩
              rw [hm, more_at, hys, List.getElem?_eq_none hge]
              rfl
          exact ⟨_, rfl, a, xs, rfl, .inl hS, sz (show 2 ≤ 1000000 by decide), fun t nt => k' _ hr0 t _ (same_new nt) (dp_pair upd_same)⟩
        have hlt2 : st + 1 + i < xs.length := by
          have : ¬ (xs.length : Int) ≤ ((st + 1 + i : Nat) : Int) := fun z => e2 (decide_eq_true z)
          omega
        have hv2 := List.getElem?_eq_getElem hlt2
        generalize xs[st + 1 + i] = v2 at hv2
        refine ⟨_, rfl, _, rfl, a, xs, _, v2, rfl, rfl, hS, atI_nat hv2, v2, rfl, hE v2 (List.mem_of_getElem? hv2), ?_⟩
        cases hb3 : byteV v2 with
        | none =>
          have hr0 : readN (xs.map byteV) st = .wrong (st + 1 + i) := by
            by_cases z : i = 0
            · subst z
              rw [hr1, hv2]
              dsimp only [Option.map_some]
              rw [hb3]
            · rw [(h1 z).2]
              obtain ⟨m, hm⟩ : ∃ m, b - 191 - i = m + 1 := ⟨b - 191 - i - 1, by omega⟩
              rw [hm, more_at, hys, hv2]
              dsimp only [Option.map_some]
              rw [hb3]
          exact ⟨_, rfl, iteT ⟨_, rfl, sz (show 2 ≤ 1000000 by decide), fun t nt => k' _ hr0 t _ (same_new nt) (dp_pair upd_same)⟩⟩
        | some b2 =>
          have ev := byteV_int hb3
          subst ev
          refine ⟨_, rfl, iteF ?_⟩
          have fin : readN (xs.map byteV) st = more (xs.map byteV) (b - 191 - (i + 1)) (st + 1 + (i + 1)) (acc * 256 + b2) → ∀ y : V,
              tSeq (tAsg (tOp (rI0 fun i j => .int (i + j)) (tOp (rI CMul fun i j => .int (i * j)) (tVar 2) (tC (.int 256))) (tOp (rIxL K) (tVar 0) (tVar 5))) (gName 2)) (fun D σ H => D.nx σ H)
                { nx := fun σ H' => H = H' ∧ ∃ (acc : Nat) (y4 y5 : Option V), σ = [some (.ref a), some (.int (st : Int)), some (.int (acc : Int)), some (.int ((b : Int) - 191)), y4, y5] ∧
                    (i + 1 = 0 → acc = 0) ∧ (i + 1 ≠ 0 → st + 1 + (i + 1) ≤ xs.length ∧ readN (xs.map byteV) st = more (xs.map byteV) (b - 191 - (i + 1)) (st + 1 + (i + 1)) acc), rt := Q }
                [some (.ref a), some (.int (st : Int)), some (.int (acc : Int)), some (.int ((b : Int) - 191)), some y, some (.int ((st + 1 + i : Nat) : Int))] H := by
            intro hm y
            refine ⟨_, rfl, _, _, rfl, rfl, .inr ⟨by decide, by decide⟩, _, rfl, _, rfl, a, xs, _, _, rfl, rfl, hS, atI_nat hv2, _, _, rfl, rfl, rfl, acc * 256 + b2, some y, some (.int ((st + 1 + i : Nat) : Int)), ?_, fun z => absurd z (Nat.succ_ne_zero _), fun _ => ⟨by omega, hm⟩⟩
            have : (acc : Int) * 256 + (b2 : Int) = ((acc * 256 + b2 : Nat) : Int) := by omega
            rw [← this]
            rfl
          by_cases z : i = 0
          · subst z
            obtain rfl := h0 rfl
            have dec0 : decide (V.int (0 + ((0 : Nat) : Int)) = V.int 0) = true := by decide
            refine ⟨_, rfl, rfl, _, rfl, ?_⟩
            rw [dec0]
            refine iteT ?_
            refine ⟨_, rfl, _, rfl, a, xs, _, _, rfl, rfl, hS, atI_nat hv2, ?_⟩
            refine if_val (fun v => v = .int (least2 b : Int)) (fun Q' q' => ?_) ?_
            · refine ⟨_, rfl, rfl, _, rfl, ite2 (fun c3 => ?_) (fun c3 => ?_)⟩
              · have : b = 192 := by
                  have := V.int.inj (of_decide_eq_true c3)
                  omega
                refine q' _ ?_
                rw [show least2 b = 192 from if_pos this]
                rfl
              · have : ¬ b = 192 := fun z => c3 (decide_eq_true (congrArg V.int (by omega)))
                refine q' _ ?_
                rw [show least2 b = 1 from if_neg this]
                rfl
            · rintro _ rfl
              refine ⟨_, _, rfl, rfl, _, rfl, ite2 (fun c4 => ?_) (fun c4 => ?_)⟩
              · have hl : b2 < least2 b := by
                  have := of_decide_eq_true c4
                  omega
                have hr0 : readN (xs.map byteV) st = .wrong (st + 1 + 0) := by
                  rw [hr1, hv2]
                  dsimp only [Option.map_some]
                  rw [hb3]
                  dsimp only
                  rw [if_pos hl]
                exact ⟨_, rfl, sz (show 2 ≤ 1000000 by decide), fun t nt => k' _ hr0 t _ (same_new nt) (dp_pair upd_same)⟩
              · have hl : ¬ b2 < least2 b := fun z => c4 (decide_eq_true (by omega))
                refine fin ?_ _
                rw [hr1, hv2]
                dsimp only [Option.map_some]
                rw [hb3]
                dsimp only
                rw [if_neg hl]
                have e1 : b - 191 - (0 + 1) = b - 192 := by omega
                have e3 : 0 * 256 + b2 = b2 := by omega
                rw [e1, e3]
          · have decN : decide (V.int (0 + (i : Int)) = V.int 0) = false := decide_eq_false fun q => z (by
              have := V.int.inj q
              omega)
            refine ⟨_, rfl, rfl, _, rfl, ?_⟩
            rw [decN]
            refine iteF (iteF ?_)
            refine fin ?_ _
            rw [(h1 z).2]
            obtain ⟨m, hm⟩ : ∃ m, b - 191 - i = m + 1 := ⟨b - 191 - i - 1, by omega⟩
            have e1 : b - 191 - (i + 1) = m := by omega
            have e2 : st + 1 + (i + 1) = st + 1 + i + 1 := by omega
            rw [hm, more_at, hys, hv2, e1, e2]
            dsimp only [Option.map_some]
            rw [hb3]
      · rintro σ H' ⟨rfl, acc, y4, y5, rfl, h0, h1⟩
        have hr0 := (h1 (by omega)).2
        rw [Nat.sub_self] at hr0
        refine ⟨_, rfl, _, rfl, _, _, rfl, rfl, _, rfl, _, _, rfl, rfl, sz (show 2 ≤ 1000000 by decide), fun t nt => ⟨sz (show 2 ≤ 1000000 by decide), fun u nu => ?_⟩⟩
        have e9 : (st : Int) + 1 + ((b : Int) - 191) = ((st + 1 + (b - 191) : Nat) : Int) := by omega
        dsimp only at nt nu ⊢
        rw [e9] at nu ⊢
        exact k' _ hr0 u _ ((same_new nt).trans (same_new nu)) (dp_num upd_same (same_new nu _ _ upd_same))

abbrev s__law_told : Stmt := topS 26
theorem sc__law_told : FnScope ["_law_row", "_law_start", "_law_found", "e"] ["_law_row", "_law_start"] (defScope s__law_told) := ⟨rfl, rfl, rfl, by decide +kernel, rfl, by decide +kernel, by decide +kernel⟩
theorem ok__law_told {f : Addr} {fd : FuncData} (F : Fun K "_law_told" "_law_told" s__law_told f fd) (m_isinstance : mg "isinstance" = none) {c_ShortestBytesError : Addr} (g_ShortestBytesError : mg "ShortestBytesError" = some (.ref c_ShortestBytesError)) {c_WrongByte : Addr} (E_WrongByte : Err P w K mg base "WrongByte" "at" c_WrongByte) {c_Unfinished : Addr} (E_Unfinished : Err P w K mg base "Unfinished" "at" c_Unfinished) {f_number_at : Addr} {fd_number_at : FuncData} (G_number_at : Told P w K mg base (L2.CX P w) 6 f_number_at fd_number_at ["data", "at"] (spNumberAt K c_WrongByte c_Unfinished)) (b_number_at : Binds K fd_number_at ["data", "at"] []) (g_number_at : mg "number_at" = some (.ref f_number_at)) (k_number_at : PySem.W.keepIn K (.ref f_number_at) = true) {ds_number_at : List Value} (d_number_at : Vals [.int 0] ds_number_at) (bd_number_at : Binds K fd_number_at ["data", "at"] ds_number_at) (s_W_SBE : PySem.W.subIn K (.ref c_WrongByte) (.ref c_ShortestBytesError) = some true) (s_U_SBE : PySem.W.subIn K (.ref c_Unfinished) (.ref c_ShortestBytesError) = some true) (s_W_U : PySem.W.subIn K (.ref c_WrongByte) (.ref c_Unfinished) = some false) (s_U_W : PySem.W.subIn K (.ref c_Unfinished) (.ref c_WrongByte) = some false) (s_W_W : PySem.W.subIn K (.ref c_WrongByte) (.ref c_WrongByte) = some true) (s_U_U : PySem.W.subIn K (.ref c_Unfinished) (.ref c_Unfinished) = some true) (h_SBE : PySem.W.hasDictIn K c_ShortestBytesError = true) (t_SBE : PySem.W.typeIn K (.ref c_ShortestBytesError) = some (.type "type")) : Told P w K mg base CX0 7 f fd ["_law_row", "_law_start"] (spDue K) := by
  refine told F sc__law_told (fun vs H Q E h => ?_) (fun cdv A outer s H vs Q E clr hr h => ?_)
  · obtain ⟨a, xs, st, rfl, hS, hE, hst, hmil, k⟩ := h
    rfl
  · obtain ⟨a, xs, st, rfl, hS, hE, hst, hmil, k⟩ := h
    refine ⟨_, (pss_cons (ps_try_clauses rfl rfl sc__law_told.nd takes0 (.cons (i := 3) rfl rfl ⟨rfl, by decide, .inl E_WrongByte.g⟩ (fun a oe cls d pn hz hf => (pss_cons (ps_if (PW.pt (pw_or (pt_val (pe_callB (call_isX hz hf) (by rfl) m_isinstance (by decide +kernel) (pa_cons (pv 3) (pa_cons (pe_glob (v := .ref c_Unfinished) (by rfl) E_Unfinished.g rfl) pa_nil)))) (pw_or1 (pt_not (pt_val (pe_callB (call_isX hz hf) (by rfl) m_isinstance (by decide +kernel) (pa_cons (pv 3) (pa_cons (pe_glob (v := .ref c_ShortestBytesError) (by rfl) g_ShortestBytesError rfl) pa_nil))))))))
    (pss_one (ps_ret (pe_tup (pa_cons pe_str (pa_cons pe_non pa_nil)))))
    pss_nil)
    (pss_one (ps_ret (pe_tup (pa_cons pe_str (pa_cons (pe_xf E_WrongByte.X E_WrongByte.no hz hf (pv 3)) pa_nil))))))) (.cons (i := 3) rfl rfl ⟨rfl, by decide, .inl E_Unfinished.g⟩ (fun a oe cls d pn hz hf => (pss_cons (ps_if (pt_not (pt_val (pe_callB (call_isX hz hf) (by rfl) m_isinstance (by decide +kernel) (pa_cons (pv 3) (pa_cons (pe_glob (v := .ref c_ShortestBytesError) (by rfl) g_ShortestBytesError rfl) pa_nil)))))
    (pss_one (ps_ret (pe_tup (pa_cons pe_str (pa_cons pe_non pa_nil)))))
    pss_nil)
    (pss_one (ps_ret (pe_tup (pa_cons pe_str (pa_cons (pe_xf E_Unfinished.X E_Unfinished.no hz hf (pv 3)) pa_nil))))))) .nil)) (fun W pn xe tk _ => (pss_one (ps_set (i := 2) sc__law_told.nd rfl (Or.inl rfl) (pe_toldS G_number_at clr (hr.mono (by decide)) (by rfl) g_number_at k_number_at b_number_at .nil (fun σ => passAt tk σ) (pa_cons (pv 0) (pa_cons (pv 1) pa_nil)))))))
    (pss_one (ps_ret (pe_tup (pa_cons pe_str (pa_cons (pv 2) pa_nil)))))), ?_⟩
    refine ⟨_, rfl, _, rfl, a, xs, st, rfl, hS, hE, hst, hmil, ?_⟩
    cases hr0 : readN (xs.map byteV) st with
    | num n e =>
      rw [hr0] at k
      intro t H' sm nt ht
      refine ⟨_, rfl, sz (show 2 ≤ 1000000 by decide), fun u nu => ?_⟩
      exact k u _ (sm.trans (same_new nu)) (dp_num upd_same (same_new nu _ _ ht))
    | wrong i =>
      rw [hr0] at k
      intro d H' nd sm hd
      refine ⟨true, exm_own E_WrongByte.X.exC E_WrongByte.X.hdC E_WrongByte.T.tyC s_W_W, fun _ a' na => ?_, fun q => Bool.noConfusion q⟩
      refine ⟨_, rfl, _, d, _, _, _, _, rfl, rfl, E_WrongByte.I, rfl, hd, relV_ref, kit_own (fun _ => ne_sub s_W_W s_W_U) E_Unfinished.I.cl E_Unfinished.T.tyC s_W_U, _, rfl, iteF ?_⟩
      refine ⟨_, rfl, _, d, _, _, _, _, rfl, rfl, E_WrongByte.I, rfl, hd, relV_ref, kit_own (fun z => Bool.noConfusion z) (cls_some h_SBE) t_SBE s_W_SBE, _, rfl, iteF ?_⟩
      refine ⟨_, rfl, rfl, rfl, d, _, _, rfl, hd, rfl, sz (show 2 ≤ 1000000 by decide), fun u nu => ?_⟩
      exact k u _ (sm.trans (same_new nu)) (dp_pair upd_same)
    | unf =>
      rw [hr0] at k
      intro d H' nd sm hd
      refine ⟨false, exm_own E_WrongByte.X.exC E_WrongByte.X.hdC E_WrongByte.T.tyC s_U_W, fun q => Bool.noConfusion q, fun _ => ?_⟩
      refine ⟨true, exm_own E_Unfinished.X.exC E_Unfinished.X.hdC E_Unfinished.T.tyC s_U_U, fun _ a' na => ?_, fun q => Bool.noConfusion q⟩
      refine ⟨_, rfl, _, d, _, _, _, _, rfl, rfl, E_Unfinished.I, rfl, hd, relV_ref, kit_own (fun z => Bool.noConfusion z) (cls_some h_SBE) t_SBE s_U_SBE, _, rfl, iteF ?_⟩
      refine ⟨_, rfl, rfl, rfl, d, _, _, rfl, hd, rfl, sz (show 2 ≤ 1000000 by decide), fun u nu => ?_⟩
      exact k u _ (sm.trans (same_new nu)) (dp_pair upd_same)

/-! ### what is read is small -/
theorem more_wrong {ys : List (Option Nat)} : ∀ (k pos acc i : Nat), more ys k pos acc = .wrong i → i < ys.length
  | 0, pos, acc, i, h => by cases h
  | k + 1, pos, acc, i, h => by
    rw [more_at] at h
    cases q : ys[pos]? with
    | none =>
      rw [q] at h
      cases h
    | some o =>
      rw [q] at h
      cases o with
      | none =>
        cases h
        exact (List.getElem?_eq_some_iff.mp q).1
      | some b => exact more_wrong k _ _ i h
theorem more_num {ys : List (Option Nat)} (hy : ∀ b, some b ∈ ys → b ≤ 255) : ∀ (k pos acc j n e : Nat), acc < 256 ^ j → more ys k pos acc = .num n e → n < 256 ^ (j + k) ∧ e = pos + k
  | 0, pos, acc, j, n, e, ha, h => by
    cases h
    exact ⟨ha, rfl⟩
  | k + 1, pos, acc, j, n, e, ha, h => by
    rw [more_at] at h
    cases q : ys[pos]? with
    | none =>
      rw [q] at h
      cases h
    | some o =>
      rw [q] at h
      cases o with
      | none => cases h
      | some b =>
        have hb := hy b (List.mem_of_getElem? q)
        have ih := more_num hy k (pos + 1) (acc * 256 + b) (j + 1) n e (by rw [Nat.pow_succ]; omega) h
        rw [show j + (k + 1) = j + 1 + k by omega]
        exact ⟨ih.1, by omega⟩
theorem byteVs {xs : List V} : ∀ b, some b ∈ xs.map byteV → b ≤ 255 := fun b h => by
  obtain ⟨v, _, hv⟩ := List.mem_map.mp h
  exact byteV_lt hv
theorem readN_wrong {ys : List (Option Nat)} {st i : Nat} (h : readN ys st = .wrong i) : i < ys.length := by
  unfold readN at h
  cases q : ys[st]? with
  | none =>
    rw [q] at h
    cases h
  | some o =>
    have h1 := (List.getElem?_eq_some_iff.mp q).1
    rw [q] at h
    cases o with
    | none =>
      cases h
      exact h1
    | some f =>
      dsimp only at h
      split at h
      · cases h
        exact h1
      · split at h
        · cases h
        · cases q2 : ys[st + 1]? with
          | none =>
            rw [q2] at h
            cases h
          | some o2 =>
            have h2 := (List.getElem?_eq_some_iff.mp q2).1
            rw [q2] at h
            cases o2 with
            | none =>
              cases h
              exact h2
            | some b =>
              dsimp only at h
              split at h
              · cases h
                exact h2
              · exact more_wrong _ _ _ _ h
theorem readN_num {ys : List (Option Nat)} (hy : ∀ b, some b ∈ ys → b ≤ 255) {st n e : Nat} (h : readN ys st = .num n e) : n < 256 ^ 65 ∧ e ≤ st + 70 := by
  unfold readN at h
  cases q : ys[st]? with
  | none =>
    rw [q] at h
    cases h
  | some o =>
    rw [q] at h
    cases o with
    | none => cases h
    | some f =>
      have hf := hy f (List.mem_of_getElem? q)
      dsimp only at h
      split at h
      · cases h
      · split at h
        · cases h
          exact ⟨Nat.lt_of_le_of_lt hf (by decide +kernel), by omega⟩
        · cases q2 : ys[st + 1]? with
          | none =>
            rw [q2] at h
            cases h
          | some o2 =>
            rw [q2] at h
            cases o2 with
            | none => cases h
            | some b =>
              have hb := hy b (List.mem_of_getElem? q2)
              dsimp only at h
              split at h
              · cases h
              · obtain ⟨h1, h2⟩ := more_num hy _ _ _ 1 _ _ (by omega) h
                exact ⟨Nat.lt_of_lt_of_le h1 (Nat.pow_le_pow_right (by decide) (by omega)), by omega⟩
theorem int_data {i : Int} (h : i.natAbs < 2 ^ 1900) : PyData.showable (.int i) = true ∧ PyData.leavesShort 1921 (.int i) = true ∧ PyData.weight (.int i) ≤ 1901 := by
  have l := log_of h
  refine ⟨decide_eq_true (show i.natAbs.log2 < 1920 by omega), ?_, ?_⟩
  · show decide ((PyData.shown (.int i)).length ≤ 1921) = true
    rw [PyData.shown_int]
    exact decide_eq_true (int_text_len_1921 (show i.natAbs.log2 < 1920 by omega))
  · show (if (i == 0) = true then 0 else i.natAbs.log2 + 1) ≤ 1901
    split <;> omega
theorem pair_ok {x : Str} {i : Int} (hx : x.cps.size ≤ 20) (hc : (x.cps.toList.all fun c => decide (c < 16 ^ 8)) = true) (h : i.natAbs < 2 ^ 1900) : Shows (.tuple [.str x, .int i]) := by
  obtain ⟨h1, h2, h3⟩ := int_data h
  refine shows_of ?_ rfl ?_ ?_ ?_
  · show (true && (PyData.showable (.int i) && true)) = true
    rw [h1]
    rfl
  · simp [PyData.depth, PyData.depthAll]
  · show ((x.cps.toList.all fun c => decide (c < 16 ^ 8)) && (PyData.leavesShort 1921 (.int i) && true)) = true
    rw [hc, h2]
    rfl
  · show x.cps.size + 1 + (PyData.weight (.int i) + 1 + 0) ≤ 8000
    omega
theorem num_ok {x : Str} {i j : Int} (hx : x.cps.size ≤ 20) (hc : (x.cps.toList.all fun c => decide (c < 16 ^ 8)) = true) (h : i.natAbs < 2 ^ 1900) (hj : j.natAbs < 2 ^ 1900) : Shows (.tuple [.str x, .tuple [.int i, .int j]]) := by
  obtain ⟨h1, h2, h3⟩ := int_data h
  obtain ⟨j1, j2, j3⟩ := int_data hj
  refine shows_of ?_ rfl ?_ ?_ ?_
  · show (true && ((PyData.showable (.int i) && (PyData.showable (.int j) && true)) && true)) = true
    rw [h1, j1]
    rfl
  · simp [PyData.depth, PyData.depthAll]
  · show ((x.cps.toList.all fun c => decide (c < 16 ^ 8)) && ((PyData.leavesShort 1921 (.int i) && (PyData.leavesShort 1921 (.int j) && true)) && true)) = true
    rw [hc, h2, j2]
    rfl
  · show x.cps.size + 1 + ((PyData.weight (.int i) + 1 + (PyData.weight (.int j) + 1 + 0)) + 1 + 0) ≤ 8000
    omega
theorem nat_small {n : Nat} (h : n < 256 ^ 65) : ((n : Int)).natAbs < 2 ^ 1900 := by
  rw [Int.natAbs_natCast]
  exact Nat.lt_trans h (by decide +kernel)
theorem res_ok {xs : List V} {st : Nat} (hst : st ≤ xs.length) (hm : xs.length ≤ 1000000) : Shows (dataOf xs.length (readN (xs.map byteV) st)) := by
  have sm : ∀ n, n ≤ 2000000 → ((n : Nat) : Int).natAbs < 2 ^ 1900 := fun n h => nat_small (Nat.lt_of_le_of_lt h (by decide +kernel))
  cases h : readN (xs.map byteV) st with
  | num n e =>
    obtain ⟨h1, h2⟩ := readN_num byteVs h
    exact num_ok (by decide) (by decide) (nat_small h1) (sm e (by omega))
  | wrong i =>
    have := readN_wrong h
    rw [List.length_map] at this
    exact pair_ok (by decide) (by decide) (sm i (by omega))
  | unf => exact pair_ok (by decide) (by decide) (sm _ (by omega))
def spLaw (K : PySem.W.Frag) : Sp := fun vs H Q _ => ∃ (a : Addr) (ns : List Int), vs = [.ref a] ∧ SqL K H a (ns.map V.int) ∧ ns.length ≤ 63 ∧ ∀ H', Q (.bl true) H'
theorem cells_lt (ns : List Int) (c : Int) (h : ns.length ≤ 63) : (if ((cutV (ns.map V.int) none (some c)).length : Int) > 1 then ((cutV (ns.map V.int) none (some c)).length : Int) else 1).toNat ≤ 63 ∧
    -(2 ^ 62) ≤ (if ((cutV (ns.map V.int) none (some c)).length : Int) > 1 then ((cutV (ns.map V.int) none (some c)).length : Int) else 1) ∧ (if ((cutV (ns.map V.int) none (some c)).length : Int) > 1 then ((cutV (ns.map V.int) none (some c)).length : Int) else 1) < 2 ^ 62 := by
  have := cutV_length (ns.map V.int) none (some c)
  rw [List.length_map] at this
  refine ⟨turns_le (by omega) (by decide), ?_, ?_⟩
  · split <;> omega
  · split <;> omega
theorem mem_len {l : List V} {n : Nat} (h : n ≤ 100) (hl : l.length = n) : l.length ≤ 1000000 := by omega
abbrev s_law : Stmt := topS 27
theorem sc_law : FnScope ["_law_script", "_law_at", "_law_bag_here", "_law_ahead", "_law_row", "_law_turn"] ["_law_script"] (defScope s_law) := ⟨rfl, rfl, rfl, by decide +kernel, rfl, by decide +kernel, by decide +kernel⟩
theorem ok_law {f : Addr} {fd : FuncData} (F : Fun K "law" "law" s_law f fd) (m_range : mg "range" = none) (m_max : mg "max" = none) (m_len : mg "len" = none) (m_repr : mg "repr" = none) (m_list : mg "list" = none) {f__law_bag : Addr} {fd__law_bag : FuncData} (G__law_bag : Told P w K mg base CX0 1 f__law_bag fd__law_bag ["_law_script", "_law_at"] (spBag K)) (b__law_bag : Binds K fd__law_bag ["_law_script", "_law_at"] []) (g__law_bag : mg "_law_bag" = some (.ref f__law_bag)) (k__law_bag : PySem.W.keepIn K (.ref f__law_bag) = true) {f__law_take : Addr} {fd__law_take : FuncData} (G__law_take : Told P w K mg base CX0 1 f__law_take fd__law_take ["_law_bag_here", "_law_many"] spTake) (b__law_take : Binds K fd__law_take ["_law_bag_here", "_law_many"] []) (g__law_take : mg "_law_take" = some (.ref f__law_take)) (k__law_take : PySem.W.keepIn K (.ref f__law_take) = true) {f__law_of : Addr} {fd__law_of : FuncData} (G__law_of : Told P w K mg base CX0 2 f__law_of fd__law_of ["_law_bag_here", "_law_some"] (spOf K)) (b__law_of : Binds K fd__law_of ["_law_bag_here", "_law_some"] []) (g__law_of : mg "_law_of" = some (.ref f__law_of)) (k__law_of : PySem.W.keepIn K (.ref f__law_of) = true) {f__law_spoilt : Addr} {fd__law_spoilt : FuncData} (G__law_spoilt : Told P w K mg base CX0 3 f__law_spoilt fd__law_spoilt ["_law_bag_here", "_law_row"] spSpoilt) (b__law_spoilt : Binds K fd__law_spoilt ["_law_bag_here", "_law_row"] []) (g__law_spoilt : mg "_law_spoilt" = some (.ref f__law_spoilt)) (k__law_spoilt : PySem.W.keepIn K (.ref f__law_spoilt) = true) {f__law_row_of : Addr} {fd__law_row_of : FuncData} (G__law_row_of : Told P w K mg base CX0 4 f__law_row_of fd__law_row_of ["_law_bag_here"] spRowOf) (b__law_row_of : Binds K fd__law_row_of ["_law_bag_here"] []) (g__law_row_of : mg "_law_row_of" = some (.ref f__law_row_of)) (k__law_row_of : PySem.W.keepIn K (.ref f__law_row_of) = true) {f__law_told : Addr} {fd__law_told : FuncData} (G__law_told : Told P w K mg base CX0 7 f__law_told fd__law_told ["_law_row", "_law_start"] (spDue K)) (b__law_told : Binds K fd__law_told ["_law_row", "_law_start"] []) (g__law_told : mg "_law_told" = some (.ref f__law_told)) (k__law_told : PySem.W.keepIn K (.ref f__law_told) = true) {f__law_due : Addr} {fd__law_due : FuncData} (G__law_due : Told P w K mg base CX0 3 f__law_due fd__law_due ["_law_row", "_law_start"] (spDue K)) (b__law_due : Binds K fd__law_due ["_law_row", "_law_start"] []) (g__law_due : mg "_law_due" = some (.ref f__law_due)) (k__law_due : PySem.W.keepIn K (.ref f__law_due) = true) : Told P w K mg base CX0 8 f fd ["_law_script"] (spLaw K) := by
  refine told F sc_law (fun vs H Q E h => ?_) (fun cdv A outer s H vs Q E clr hr h => ?_)
  · obtain ⟨a, ns, rfl, hS, h63, k⟩ := h
    rfl
  · obtain ⟨a, ns, rfl, hS, h63, k⟩ := h
    refine ⟨_, (pss_cons (ps_for PassesOwn.never rfl (pi_range1 (by rfl) m_range (pa_cons (pe_callB (call_max2 rfl) (by rfl) m_max (by decide +kernel) (pa_cons pe_int (pa_cons (pe_callB call_len_seq (by rfl) m_len PySem.boot_len (pa_cons (pe_slice sl_list (pv 0) po_none (po_some pe_int)) pa_nil)) pa_nil))) pa_nil)) (pg_name (i := 1) sc_law.nd rfl (Or.inl rfl))
    (pss_cons (ps_set (i := 2) sc_law.nd rfl (Or.inr rfl) (pe_told G__law_bag clr (hr.mono (by decide)) (by rfl) g__law_bag k__law_bag b__law_bag .nil pass0 (pa_cons (pv 0) (pa_cons (pv 1) pa_nil))))
    (pss_cons (ps_setLc (i := 3) (own := [("_law_turn", 5)]) (g := gName 5) (by rfl) sc_law.nd rfl rfl (sw_true rfl rfl rfl (by decide +kernel)) (pi_range1 (by rfl) m_range (pa_cons (pe_told G__law_take clr (hr.mono (by decide)) (by rfl) g__law_take k__law_take b__law_take .nil pass0 (pa_cons (pv 2) (pa_cons pe_int pa_nil))) pa_nil)) (blkOk_by (N := ["_law_script", "_law_at", "_law_bag_here", "_law_ahead", "_law_row", "_law_turn"]) (sc := defScope s_law) (by decide +kernel)) (fun _ _ _ _ _ => pg_name (i := 5) sc_law.nd rfl (Or.inl rfl)) (fun _ _ _ _ _ => pts_nil) (fun _ _ _ _ _ => (pe_told G__law_of clr (hr.mono (by decide)) (by rfl) g__law_of k__law_of b__law_of .nil pass0 (pa_cons (pv 2) (pa_cons (pe_lst (pa_cons pe_int (pa_cons pe_int (pa_cons pe_non (pa_cons pe_bl pa_nil))))) pa_nil)))))
    (pss_cons (ps_set (i := 4) sc_law.nd rfl (Or.inl rfl) (pe_op op_cat (pv 3) (pe_told G__law_spoilt clr (hr.mono (by decide)) (by rfl) g__law_spoilt k__law_spoilt b__law_spoilt .nil pass0 (pa_cons (pv 2) (pa_cons (pe_told G__law_row_of clr (hr.mono (by decide)) (by rfl) g__law_row_of k__law_row_of b__law_row_of .nil pass0 (pa_cons (pv 2) pa_nil)) pa_nil)))))
    (pss_one (ps_if (pt_cmpR op_ne (pe_callB (call_reprD clr hr.units) (by rfl) m_repr (by decide +kernel) (pa_cons (pe_told G__law_told clr (hr.mono (by decide)) (by rfl) g__law_told k__law_told b__law_told .nil pass0 (pa_cons (pe_callTy call_list_of (by rfl) m_list (by decide +kernel) (pa_cons (pv 4) pa_nil)) (pa_cons (pe_callB call_len_seq (by rfl) m_len PySem.boot_len (pa_cons (pv 3) pa_nil)) pa_nil))) pa_nil)) (pe_callB (call_reprD clr hr.units) (by rfl) m_repr (by decide +kernel) (pa_cons (pe_told G__law_due clr (hr.mono (by decide)) (by rfl) g__law_due k__law_due b__law_due .nil pass0 (pa_cons (pv 4) (pa_cons (pe_callB call_len_seq (by rfl) m_len PySem.boot_len (pa_cons (pv 3) pa_nil)) pa_nil))) pa_nil)) (nomark _))
    (pss_one (ps_ret pe_bl))
    pss_nil))))))
    (pss_one (ps_ret pe_bl))), ?_⟩
    refine ⟨_, rfl, _, rfl, a, _, rfl, hS, fun c nc => ?_⟩
    have hS1 : SqL K (upd H c (.lst (cutV (ns.map V.int) none (some 20)))) a (ns.map V.int) := (same_new nc).seq hS
    obtain ⟨ht, hlo, hhi⟩ := cells_lt ns 20 h63
    refine ⟨c, _, rfl, .inl seq_new, _, _, rfl, _, rfl, hlo, hhi, ?_⟩
    generalize hM : (if ((cutV (ns.map V.int) none (some 20)).length : Int) > 1 then ((cutV (ns.map V.int) none (some 20)).length : Int) else 1).toNat = M at ht
    refine for_range (lo := 0) (n := M) (fun i σ H' => ∃ y1 y2 y3 y4 y5, σ = [some (.ref a), y1, y2, y3, y4, y5] ∧ SqL K H' a (ns.map V.int)) ⟨_, _, _, _, _, rfl, hS1⟩ ?_ ?_
    · rintro i σ H' hi ⟨y1, y2, y3, y4, y5, rfl, hSi⟩
      refine ⟨_, rfl, _, rfl, a, ns, i, ?_, hSi, by omega, fun p H1 sm np B => ?_⟩
      · rw [Int.zero_add]
        rfl
      refine ⟨_, rfl, p, 4, 0, rfl, B, by omega, by decide, by decide, fun m H2 hm b2 B2 => ?_⟩
      refine ⟨_, rfl, by omega, by omega, fun D hD => ?_⟩
      have nD : D ≠ p := bag_ne B2 hD
      rw [Int.toNat_natCast]
      refine lc_range (lo := 0) (n := m) (fun j H' => ∃ xs : List V, But p H1 H' ∧ BagAt H' p (1 + j) ∧ H' D = some (.lst xs) ∧ (∀ v ∈ xs, ∀ Hx, EntG Hx v) ∧ xs.length = j)
        ⟨[], b2.same (same_new hD), (B2.same (same_new hD)).mono (by omega), upd_same, fun d hd => (nomatch hd), rfl⟩ ?_ ?_
      · rintro j H3 hj ⟨xs, b3, B3, hl, hd, hlen⟩
        refine ⟨rfl, ?_⟩
        refine ⟨_, rfl, sz (show 4 ≤ 1000000 by decide), fun g hg => ?_⟩
        refine ⟨p, g, 1 + j, _, rfl, B3.same (same_new hg), by omega, seq_new, bag_ne B3 hg, (show 0 < 4 by decide), (show 4 ≤ 1000000 by decide), fun j2 v H5 hv b5 B5 => ?_⟩
        have ent : ∀ Hx, EntG Hx v := by
          intro Hx
          have hm := List.mem_of_getElem? hv
          simp only [List.mem_cons, List.not_mem_nil, or_false] at hm
          rcases hm with rfl | rfl | rfl | rfl
          · exact .inl ⟨_, rfl⟩
          · exact .inl ⟨_, rfl⟩
          · exact .inr (.inr (.inl rfl))
          · exact .inr (.inl ⟨_, rfl⟩)
        have s4 := same_new (o := .lst [.int 0, .int 255, .non, .bl true]) hg
        have b35 := (Sb.Same.but (p := p) s4).trans b5
        have hl5 : H5 D = some (.lst xs) := b35 _ _ nD hl
        refine ⟨_, hl5, sz_lt (by omega), xs ++ [v], ?_, ?_, upd_same, ?_, ?_⟩
        · intro c u hc hu
          rw [upd_ne (ne_of_none (b2 c u hc hu) hD)]
          exact (b3.trans b35) c u hc hu
        · obtain ⟨bd, bs, bk, hb, hr⟩ := B5
          refine BagAt.mono (n := 1 + j + 1) ⟨bd, bs, bk, ?_, hr⟩ (by omega)
          rw [upd_ne (Ne.symm nD)]
          exact hb
        · intro x hx
          rcases List.mem_append.mp hx with q | q
          · exact hd x q
          · rw [List.mem_singleton] at q
            rw [q]
            exact ent
        · rw [List.length_append, hlen]
          rfl
      · rintro H3 ⟨xs, b3, B3, hl, hd, hlen⟩
        unfold gName
        dsimp only
        have hm4 : xs.length ≤ 4 := by omega
        refine ⟨_, rfl, _, rfl, _, rfl, p, 1 + m, rfl, B3, by omega, fun q H4 l b4 nq hq hsm hll B4 => ?_⟩
        have neQ : q ≠ p := bag_ne B3 nq
        refine ⟨p, q, 1 + m + 200, l, rfl, B4, by omega, neQ, hq, hll, fun r H5 ys b5 nr neR hr5 hE hyl B5 => ?_⟩
        have hD5 : H5 D = some (.lst xs) := b5 _ _ nD (b4 _ _ nD hl)
        refine ⟨D, r, xs, ys, rfl, rfl, hD5, hr5, sz (by omega), fun w nw => ?_⟩
        have s6 := same_new (o := .lst (xs ++ ys)) nw
        have hD6 := s6 _ _ hD5
        have len6 : (xs ++ ys).length ≤ 1000000 := by
          rw [List.length_append]
          omega
        have ent6 : ∀ Hx, Same (upd H5 w (.lst (xs ++ ys))) Hx → ∀ v ∈ xs ++ ys, Ent K Hx v := by
          intro Hx sx v hv
          rcases List.mem_append.mp hv with z | z
          · exact (hd v z Hx).ent
          · exact (((hE v z).same s6).same sx).ent
        have hst : xs.length ≤ (xs ++ ys).length := by
          rw [List.length_append]
          omega
        refine ⟨_, rfl, w, _, rfl, .inl seq_new, fun x nx => ?_⟩
        have s7 := same_new (o := .lst (xs ++ ys)) nx
        refine ⟨_, rfl, D, _, rfl, .inl (seq_of (s7 _ _ hD6)), x, xs ++ ys, xs.length, rfl, seq_new, ent6 _ s7, hst, len6, fun t H8 s8 dt => ?_⟩
        have sh := res_ok hst len6
        refine ⟨_, _, rfl, dt, sh.1, sh.2.1, sh.2.2.1, sh.2.2.2, ?_⟩
        have hw8 : H8 w = some (.lst (xs ++ ys)) := s8 _ _ (s7 _ _ upd_same)
        refine ⟨_, rfl, _, rfl, D, _, rfl, .inl (seq_of (s8 _ _ (s7 _ _ hD6))), w, xs ++ ys, xs.length, rfl, seq_of hw8, ent6 _ (s7.trans s8), hst, len6, fun u H9 s9 du => ?_⟩
        refine ⟨_, _, rfl, du, sh.1, sh.2.1, sh.2.2.1, sh.2.2.2, rfl, _, rfl, iteNS rfl ?_⟩
        exact ⟨_, _, _, _, _, rfl, seq_but hSi np sm ((((b3.trans b4).trans b5).same s6 |>.same s7 |>.same s8 |>.same s9))⟩
    · rintro σ H' ⟨y1, y2, y3, y4, y5, rfl, hSi⟩
      exact k H'
end

theorem all_mk {l : PySem.W.OpenLaw} {w : World} {K : PySem.W.Frag} {h : Heap} {mg : Str → Option Value} {fa f__law_bag f__law_take f__law_of f__law_number f__law_code f_is_int f_is_byte f_least_second f_byte_at f_digit_at f_code_size f_code_at f_number_at f__law_row_of f__law_spoilt f__law_is_byte f__law_due f__law_told f_law c_ShortestBytesError c_Unfinished N_Unfinished fI_Unfinished c_WrongByte N_WrongByte fI_WrongByte : Addr} (X : K.In h) (G : h.Ns mainGlobals mg) (hfa : mg "law" = some (.ref fa))
    {od__law_bag an__law_bag od__law_take an__law_take od__law_of an__law_of od__law_number an__law_number od__law_code an__law_code od_is_int an_is_int od_is_byte an_is_byte od_least_second an_least_second od_byte_at an_byte_at od_digit_at an_digit_at od_code_size an_code_size od_code_at an_code_at od_number_at an_number_at od__law_row_of an__law_row_of od__law_spoilt an__law_spoilt od__law_is_byte an__law_is_byte od__law_due an__law_due od__law_told an__law_told od_law an_law odI_Unfinished anI_Unfinished dd_Unfinished odI_WrongByte anI_WrongByte dd_WrongByte : Option Addr} {sl__law_bag sl__law_take sl__law_of sl__law_number sl__law_code sl_is_int sl_is_byte sl_least_second sl_byte_at sl_digit_at sl_code_size sl_code_at sl_number_at sl__law_row_of sl__law_spoilt sl__law_is_byte sl__law_due sl__law_told sl_law slI_Unfinished slI_WrongByte : Array (Option Value)} {oc__law_bag kV__law_bag dc__law_bag pm__law_bag cd__law_bag ct__law_bag oc__law_take kV__law_take dc__law_take pm__law_take cd__law_take ct__law_take oc__law_of kV__law_of dc__law_of pm__law_of cd__law_of ct__law_of oc__law_number kV__law_number dc__law_number pm__law_number cd__law_number ct__law_number oc__law_code kV__law_code dc__law_code pm__law_code cd__law_code ct__law_code oc_is_int kV_is_int dc_is_int pm_is_int cd_is_int ct_is_int oc_is_byte kV_is_byte dc_is_byte pm_is_byte cd_is_byte ct_is_byte oc_least_second kV_least_second dc_least_second pm_least_second cd_least_second ct_least_second oc_byte_at kV_byte_at dc_byte_at pm_byte_at cd_byte_at ct_byte_at oc_digit_at kV_digit_at dc_digit_at pm_digit_at cd_digit_at ct_digit_at oc_code_size kV_code_size dc_code_size pm_code_size cd_code_size ct_code_size oc_code_at kV_code_at dc_code_at pm_code_at cd_code_at ct_code_at oc_number_at kV_number_at dc_number_at pm_number_at cd_number_at ct_number_at oc__law_row_of kV__law_row_of dc__law_row_of pm__law_row_of cd__law_row_of ct__law_row_of oc__law_spoilt kV__law_spoilt dc__law_spoilt pm__law_spoilt cd__law_spoilt ct__law_spoilt oc__law_is_byte kV__law_is_byte dc__law_is_byte pm__law_is_byte cd__law_is_byte ct__law_is_byte oc__law_due kV__law_due dc__law_due pm__law_due cd__law_due ct__law_due oc__law_told kV__law_told dc__law_told pm__law_told cd__law_told ct__law_told oc_law kV_law dc_law pm_law cd_law ct_law ocI_Unfinished kVI_Unfinished dcI_Unfinished pmI_Unfinished cdI_Unfinished ctI_Unfinished ocI_WrongByte kVI_WrongByte dcI_WrongByte pmI_WrongByte cdI_WrongByte ctI_WrongByte : Value} {t_LONG t_FIRST_LONG t_LAST_FIRST : Tok} {nm_Unfinished q_Unfinished : Str} {bs_Unfinished bm_Unfinished : List Value} {sn_Unfinished : List Str} {sub_Unfinished : List Value} {ab_Unfinished : Bool} {col_Unfinished : Option Bool} {k0_Unfinished k1_Unfinished k2_Unfinished k3_Unfinished k5_Unfinished : Option Value} {nm_WrongByte q_WrongByte : Str} {bs_WrongByte bm_WrongByte : List Value} {sn_WrongByte : List Str} {sub_WrongByte : List Value} {ab_WrongByte : Bool} {col_WrongByte : Option Bool} {k0_WrongByte k1_WrongByte k2_WrongByte k3_WrongByte k5_WrongByte : Option Value} {dT_number_at : Addr} {ocD_number_at : Value} {odD_number_at : Option Addr} {nD_number_at : Nat} {slD_number_at : Array (Option Value)} {tD0_number_at : Tok}
    (a__law_bag : PySem.W.nsIn K mainGlobals "_law_bag" = some (some (.ref f__law_bag))) (l__law_bag : K.lookup f__law_bag = some ⟨oc__law_bag, od__law_bag, .func (PySem.W.fnOf "_law_bag" "_law_bag" (defArgs s__law_bag) (defBody s__law_bag) (defScope s__law_bag) .none kV__law_bag dc__law_bag pm__law_bag an__law_bag cd__law_bag ct__law_bag), sl__law_bag⟩) (c__law_bag : PySem.W.codeIn K cd__law_bag "_law_bag" = true) (k__law_bag : PySem.W.keepIn K (.ref f__law_bag) = true)
    (a__law_take : PySem.W.nsIn K mainGlobals "_law_take" = some (some (.ref f__law_take))) (l__law_take : K.lookup f__law_take = some ⟨oc__law_take, od__law_take, .func (PySem.W.fnOf "_law_take" "_law_take" (defArgs s__law_take) (defBody s__law_take) (defScope s__law_take) .none kV__law_take dc__law_take pm__law_take an__law_take cd__law_take ct__law_take), sl__law_take⟩) (c__law_take : PySem.W.codeIn K cd__law_take "_law_take" = true) (k__law_take : PySem.W.keepIn K (.ref f__law_take) = true)
    (a__law_of : PySem.W.nsIn K mainGlobals "_law_of" = some (some (.ref f__law_of))) (l__law_of : K.lookup f__law_of = some ⟨oc__law_of, od__law_of, .func (PySem.W.fnOf "_law_of" "_law_of" (defArgs s__law_of) (defBody s__law_of) (defScope s__law_of) .none kV__law_of dc__law_of pm__law_of an__law_of cd__law_of ct__law_of), sl__law_of⟩) (c__law_of : PySem.W.codeIn K cd__law_of "_law_of" = true) (k__law_of : PySem.W.keepIn K (.ref f__law_of) = true)
    (a__law_number : PySem.W.nsIn K mainGlobals "_law_number" = some (some (.ref f__law_number))) (l__law_number : K.lookup f__law_number = some ⟨oc__law_number, od__law_number, .func (PySem.W.fnOf "_law_number" "_law_number" (defArgs s__law_number) (defBody s__law_number) (defScope s__law_number) .none kV__law_number dc__law_number pm__law_number an__law_number cd__law_number ct__law_number), sl__law_number⟩) (c__law_number : PySem.W.codeIn K cd__law_number "_law_number" = true) (k__law_number : PySem.W.keepIn K (.ref f__law_number) = true)
    (a__law_code : PySem.W.nsIn K mainGlobals "_law_code" = some (some (.ref f__law_code))) (l__law_code : K.lookup f__law_code = some ⟨oc__law_code, od__law_code, .func (PySem.W.fnOf "_law_code" "_law_code" (defArgs s__law_code) (defBody s__law_code) (defScope s__law_code) .none kV__law_code dc__law_code pm__law_code an__law_code cd__law_code ct__law_code), sl__law_code⟩) (c__law_code : PySem.W.codeIn K cd__law_code "_law_code" = true) (k__law_code : PySem.W.keepIn K (.ref f__law_code) = true)
    (a_is_int : PySem.W.nsIn K mainGlobals "is_int" = some (some (.ref f_is_int))) (l_is_int : K.lookup f_is_int = some ⟨oc_is_int, od_is_int, .func (PySem.W.fnOf "is_int" "is_int" (defArgs s_is_int) (defBody s_is_int) (defScope s_is_int) .none kV_is_int dc_is_int pm_is_int an_is_int cd_is_int ct_is_int), sl_is_int⟩) (c_is_int : PySem.W.codeIn K cd_is_int "is_int" = true) (k_is_int : PySem.W.keepIn K (.ref f_is_int) = true)
    (a_is_byte : PySem.W.nsIn K mainGlobals "is_byte" = some (some (.ref f_is_byte))) (l_is_byte : K.lookup f_is_byte = some ⟨oc_is_byte, od_is_byte, .func (PySem.W.fnOf "is_byte" "is_byte" (defArgs s_is_byte) (defBody s_is_byte) (defScope s_is_byte) .none kV_is_byte dc_is_byte pm_is_byte an_is_byte cd_is_byte ct_is_byte), sl_is_byte⟩) (c_is_byte : PySem.W.codeIn K cd_is_byte "is_byte" = true) (k_is_byte : PySem.W.keepIn K (.ref f_is_byte) = true)
    (a_least_second : PySem.W.nsIn K mainGlobals "least_second" = some (some (.ref f_least_second))) (l_least_second : K.lookup f_least_second = some ⟨oc_least_second, od_least_second, .func (PySem.W.fnOf "least_second" "least_second" (defArgs s_least_second) (defBody s_least_second) (defScope s_least_second) .none kV_least_second dc_least_second pm_least_second an_least_second cd_least_second ct_least_second), sl_least_second⟩) (c_least_second : PySem.W.codeIn K cd_least_second "least_second" = true) (k_least_second : PySem.W.keepIn K (.ref f_least_second) = true)
    (a_byte_at : PySem.W.nsIn K mainGlobals "byte_at" = some (some (.ref f_byte_at))) (l_byte_at : K.lookup f_byte_at = some ⟨oc_byte_at, od_byte_at, .func (PySem.W.fnOf "byte_at" "byte_at" (defArgs s_byte_at) (defBody s_byte_at) (defScope s_byte_at) .none kV_byte_at dc_byte_at pm_byte_at an_byte_at cd_byte_at ct_byte_at), sl_byte_at⟩) (c_byte_at : PySem.W.codeIn K cd_byte_at "byte_at" = true) (k_byte_at : PySem.W.keepIn K (.ref f_byte_at) = true)
    (a_digit_at : PySem.W.nsIn K mainGlobals "digit_at" = some (some (.ref f_digit_at))) (l_digit_at : K.lookup f_digit_at = some ⟨oc_digit_at, od_digit_at, .func (PySem.W.fnOf "digit_at" "digit_at" (defArgs s_digit_at) (defBody s_digit_at) (defScope s_digit_at) .none kV_digit_at dc_digit_at pm_digit_at an_digit_at cd_digit_at ct_digit_at), sl_digit_at⟩) (c_digit_at : PySem.W.codeIn K cd_digit_at "digit_at" = true) (k_digit_at : PySem.W.keepIn K (.ref f_digit_at) = true)
    (a_code_size : PySem.W.nsIn K mainGlobals "code_size" = some (some (.ref f_code_size))) (l_code_size : K.lookup f_code_size = some ⟨oc_code_size, od_code_size, .func (PySem.W.fnOf "code_size" "code_size" (defArgs s_code_size) (defBody s_code_size) (defScope s_code_size) .none kV_code_size dc_code_size pm_code_size an_code_size cd_code_size ct_code_size), sl_code_size⟩) (c_code_size : PySem.W.codeIn K cd_code_size "code_size" = true) (k_code_size : PySem.W.keepIn K (.ref f_code_size) = true)
    (a_code_at : PySem.W.nsIn K mainGlobals "code_at" = some (some (.ref f_code_at))) (l_code_at : K.lookup f_code_at = some ⟨oc_code_at, od_code_at, .func (PySem.W.fnOf "code_at" "code_at" (defArgs s_code_at) (defBody s_code_at) (defScope s_code_at) .none kV_code_at dc_code_at pm_code_at an_code_at cd_code_at ct_code_at), sl_code_at⟩) (c_code_at : PySem.W.codeIn K cd_code_at "code_at" = true) (k_code_at : PySem.W.keepIn K (.ref f_code_at) = true)
    (a_number_at : PySem.W.nsIn K mainGlobals "number_at" = some (some (.ref f_number_at))) (l_number_at : K.lookup f_number_at = some ⟨oc_number_at, od_number_at, .func (PySem.W.fnOf "number_at" "number_at" (defArgs s_number_at) (defBody s_number_at) (defScope s_number_at) (.ref dT_number_at) kV_number_at dc_number_at pm_number_at an_number_at cd_number_at ct_number_at), sl_number_at⟩) (c_number_at : PySem.W.codeIn K cd_number_at "number_at" = true) (k_number_at : PySem.W.keepIn K (.ref f_number_at) = true)
    (lD_number_at : K.lookup dT_number_at = some ⟨ocD_number_at, odD_number_at, .seq #[.int 0 tD0_number_at] nD_number_at, slD_number_at⟩)
    (a__law_row_of : PySem.W.nsIn K mainGlobals "_law_row_of" = some (some (.ref f__law_row_of))) (l__law_row_of : K.lookup f__law_row_of = some ⟨oc__law_row_of, od__law_row_of, .func (PySem.W.fnOf "_law_row_of" "_law_row_of" (defArgs s__law_row_of) (defBody s__law_row_of) (defScope s__law_row_of) .none kV__law_row_of dc__law_row_of pm__law_row_of an__law_row_of cd__law_row_of ct__law_row_of), sl__law_row_of⟩) (c__law_row_of : PySem.W.codeIn K cd__law_row_of "_law_row_of" = true) (k__law_row_of : PySem.W.keepIn K (.ref f__law_row_of) = true)
    (a__law_spoilt : PySem.W.nsIn K mainGlobals "_law_spoilt" = some (some (.ref f__law_spoilt))) (l__law_spoilt : K.lookup f__law_spoilt = some ⟨oc__law_spoilt, od__law_spoilt, .func (PySem.W.fnOf "_law_spoilt" "_law_spoilt" (defArgs s__law_spoilt) (defBody s__law_spoilt) (defScope s__law_spoilt) .none kV__law_spoilt dc__law_spoilt pm__law_spoilt an__law_spoilt cd__law_spoilt ct__law_spoilt), sl__law_spoilt⟩) (c__law_spoilt : PySem.W.codeIn K cd__law_spoilt "_law_spoilt" = true) (k__law_spoilt : PySem.W.keepIn K (.ref f__law_spoilt) = true)
    (a__law_is_byte : PySem.W.nsIn K mainGlobals "_law_is_byte" = some (some (.ref f__law_is_byte))) (l__law_is_byte : K.lookup f__law_is_byte = some ⟨oc__law_is_byte, od__law_is_byte, .func (PySem.W.fnOf "_law_is_byte" "_law_is_byte" (defArgs s__law_is_byte) (defBody s__law_is_byte) (defScope s__law_is_byte) .none kV__law_is_byte dc__law_is_byte pm__law_is_byte an__law_is_byte cd__law_is_byte ct__law_is_byte), sl__law_is_byte⟩) (c__law_is_byte : PySem.W.codeIn K cd__law_is_byte "_law_is_byte" = true) (k__law_is_byte : PySem.W.keepIn K (.ref f__law_is_byte) = true)
    (a__law_due : PySem.W.nsIn K mainGlobals "_law_due" = some (some (.ref f__law_due))) (l__law_due : K.lookup f__law_due = some ⟨oc__law_due, od__law_due, .func (PySem.W.fnOf "_law_due" "_law_due" (defArgs s__law_due) (defBody s__law_due) (defScope s__law_due) .none kV__law_due dc__law_due pm__law_due an__law_due cd__law_due ct__law_due), sl__law_due⟩) (c__law_due : PySem.W.codeIn K cd__law_due "_law_due" = true) (k__law_due : PySem.W.keepIn K (.ref f__law_due) = true)
    (a__law_told : PySem.W.nsIn K mainGlobals "_law_told" = some (some (.ref f__law_told))) (l__law_told : K.lookup f__law_told = some ⟨oc__law_told, od__law_told, .func (PySem.W.fnOf "_law_told" "_law_told" (defArgs s__law_told) (defBody s__law_told) (defScope s__law_told) .none kV__law_told dc__law_told pm__law_told an__law_told cd__law_told ct__law_told), sl__law_told⟩) (c__law_told : PySem.W.codeIn K cd__law_told "_law_told" = true) (k__law_told : PySem.W.keepIn K (.ref f__law_told) = true)
    (a_law : PySem.W.nsIn K mainGlobals "law" = some (some (.ref f_law))) (l_law : K.lookup f_law = some ⟨oc_law, od_law, .func (PySem.W.fnOf "law" "law" (defArgs s_law) (defBody s_law) (defScope s_law) .none kV_law dc_law pm_law an_law cd_law ct_law), sl_law⟩) (c_law : PySem.W.codeIn K cd_law "law" = true) (k_law : PySem.W.keepIn K (.ref f_law) = true)
    (z_len : PySem.W.nsIn K mainGlobals "len" = some none)
    (z_abs : PySem.W.nsIn K mainGlobals "abs" = some none)
    (z_int : PySem.W.nsIn K mainGlobals "int" = some none)
    (z_range : PySem.W.nsIn K mainGlobals "range" = some none)
    (z_isinstance : PySem.W.nsIn K mainGlobals "isinstance" = some none)
    (z_bool : PySem.W.nsIn K mainGlobals "bool" = some none)
    (z_list : PySem.W.nsIn K mainGlobals "list" = some none)
    (z_max : PySem.W.nsIn K mainGlobals "max" = some none)
    (z_repr : PySem.W.nsIn K mainGlobals "repr" = some none)
    (z_LONG : PySem.W.nsIn K mainGlobals "LONG" = some (some (.int (191) t_LONG)))
    (z_FIRST_LONG : PySem.W.nsIn K mainGlobals "FIRST_LONG" = some (some (.int (192) t_FIRST_LONG)))
    (z_LAST_FIRST : PySem.W.nsIn K mainGlobals "LAST_FIRST" = some (some (.int (254) t_LAST_FIRST)))
    (z_ShortestBytesError : PySem.W.nsIn K mainGlobals "ShortestBytesError" = some (some (.ref c_ShortestBytesError)))
    (z_Unfinished : PySem.W.nsIn K mainGlobals "Unfinished" = some (some (.ref c_Unfinished)))
    (lC_Unfinished : K.lookup c_Unfinished = some (excClassObj nm_Unfinished q_Unfinished c_Unfinished N_Unfinished bs_Unfinished bm_Unfinished true sn_Unfinished sub_Unfinished ab_Unfinished col_Unfinished dd_Unfinished k0_Unfinished k1_Unfinished k2_Unfinished k3_Unfinished k5_Unfinished "ValueError.__new__"))
    (rv_Unfinished : PySem.HandSPX.refsVE bm_Unfinished = true)
    (sa_Unfinished : PySem.W.findIn K (.ref c_Unfinished) "__setattr__" = some (some (.builtin "object.__setattr__")))
    (ex_Unfinished : PySem.W.subIn K (.ref c_Unfinished) (.type "BaseException") = some true)
    (ty_Unfinished : PySem.W.typeIn K (.ref c_Unfinished) = some (.type "type"))
    (kp_Unfinished : PySem.W.keepIn K (.ref c_Unfinished) = true)
    (ga_Unfinished : PySem.W.findIn K (.ref c_Unfinished) "__getattribute__" = some (some (.builtin "BaseException.__getattribute__")))
    (gg_Unfinished : PySem.W.findIn K (.ref c_Unfinished) "__getattr__" = some none)
    (hd_Unfinished : PySem.W.hasDictIn K c_Unfinished = true)
    (cc_Unfinished : PySem.W.findIn K (.ref c_Unfinished) "__class__" = some (some (.builtin "object.__class__")))
    (ob_Unfinished : PySem.W.mroIn K c_Unfinished (.type "object") = some true)
    (no_Unfinished : PySem.W.findIn K (.ref c_Unfinished) "at" = some none)
    (in_Unfinished : PySem.W.findIn K (.ref c_Unfinished) "__init__" = some (some (.ref fI_Unfinished)))
    (ti_Unfinished : PySem.W.typeIn K (.ref fI_Unfinished) = some (.type "function"))
    (lI_Unfinished : K.lookup fI_Unfinished = some ⟨ocI_Unfinished, odI_Unfinished, .func (PySem.W.fnOf "__init__" "Unfinished.__init__" (defArgs sI_Unfinished) (defBody sI_Unfinished) (defScope sI_Unfinished) .none kVI_Unfinished dcI_Unfinished pmI_Unfinished anI_Unfinished cdI_Unfinished ctI_Unfinished), slI_Unfinished⟩)
    (cI_Unfinished : PySem.W.codeIn K cdI_Unfinished "Unfinished.__init__" = true)
    (kI_Unfinished : PySem.W.keepIn K (.ref fI_Unfinished) = true)
    (z_WrongByte : PySem.W.nsIn K mainGlobals "WrongByte" = some (some (.ref c_WrongByte)))
    (lC_WrongByte : K.lookup c_WrongByte = some (excClassObj nm_WrongByte q_WrongByte c_WrongByte N_WrongByte bs_WrongByte bm_WrongByte true sn_WrongByte sub_WrongByte ab_WrongByte col_WrongByte dd_WrongByte k0_WrongByte k1_WrongByte k2_WrongByte k3_WrongByte k5_WrongByte "ValueError.__new__"))
    (rv_WrongByte : PySem.HandSPX.refsVE bm_WrongByte = true)
    (sa_WrongByte : PySem.W.findIn K (.ref c_WrongByte) "__setattr__" = some (some (.builtin "object.__setattr__")))
    (ex_WrongByte : PySem.W.subIn K (.ref c_WrongByte) (.type "BaseException") = some true)
    (ty_WrongByte : PySem.W.typeIn K (.ref c_WrongByte) = some (.type "type"))
    (kp_WrongByte : PySem.W.keepIn K (.ref c_WrongByte) = true)
    (ga_WrongByte : PySem.W.findIn K (.ref c_WrongByte) "__getattribute__" = some (some (.builtin "BaseException.__getattribute__")))
    (gg_WrongByte : PySem.W.findIn K (.ref c_WrongByte) "__getattr__" = some none)
    (hd_WrongByte : PySem.W.hasDictIn K c_WrongByte = true)
    (cc_WrongByte : PySem.W.findIn K (.ref c_WrongByte) "__class__" = some (some (.builtin "object.__class__")))
    (ob_WrongByte : PySem.W.mroIn K c_WrongByte (.type "object") = some true)
    (no_WrongByte : PySem.W.findIn K (.ref c_WrongByte) "at" = some none)
    (in_WrongByte : PySem.W.findIn K (.ref c_WrongByte) "__init__" = some (some (.ref fI_WrongByte)))
    (ti_WrongByte : PySem.W.typeIn K (.ref fI_WrongByte) = some (.type "function"))
    (lI_WrongByte : K.lookup fI_WrongByte = some ⟨ocI_WrongByte, odI_WrongByte, .func (PySem.W.fnOf "__init__" "WrongByte.__init__" (defArgs sI_WrongByte) (defBody sI_WrongByte) (defScope sI_WrongByte) .none kVI_WrongByte dcI_WrongByte pmI_WrongByte anI_WrongByte cdI_WrongByte ctI_WrongByte), slI_WrongByte⟩)
    (cI_WrongByte : PySem.W.codeIn K cdI_WrongByte "WrongByte.__init__" = true)
    (kI_WrongByte : PySem.W.keepIn K (.ref fI_WrongByte) = true)
    (ge : PySem.W.specialIn K (.builtin "object.__class__") "__get__" = some (some (.builtin "getset_descriptor.__get__"))) (tk : PySem.W.takesIn K (.builtin "object.__class__") = some true)
    (s_W_SBE : PySem.W.subIn K (.ref c_WrongByte) (.ref c_ShortestBytesError) = some true)
    (s_U_SBE : PySem.W.subIn K (.ref c_Unfinished) (.ref c_ShortestBytesError) = some true)
    (s_W_U : PySem.W.subIn K (.ref c_WrongByte) (.ref c_Unfinished) = some false)
    (s_U_W : PySem.W.subIn K (.ref c_Unfinished) (.ref c_WrongByte) = some false)
    (s_W_W : PySem.W.subIn K (.ref c_WrongByte) (.ref c_WrongByte) = some true)
    (s_U_U : PySem.W.subIn K (.ref c_Unfinished) (.ref c_Unfinished) = some true)
    (h_SBE : PySem.W.hasDictIn K c_ShortestBytesError = true)
    (t_SBE : PySem.W.typeIn K (.ref c_ShortestBytesError) = some (.type "type")) :
    ∃ fd : FuncData, (∀ (s : Shared) (v : Value), BindsTo s fd ⟨[v], []⟩ [("_law_script", v)]) ∧ ∀ base : Heap, K.In base → base.Ns mainGlobals mg → Told l.prog w K mg base CX0 8 fa fd ["_law_script"] (spLaw K) := by
  have e := hfa.symm.trans (PySem.W.mg_of X G a_law)
  cases e
  have F__law_bag := fun_mk (st := s__law_bag) l__law_bag c__law_bag k__law_bag
  have b__law_bag := F__law_bag.binds (ps := ["_law_script", "_law_at"]) fun _ _ _ _ _ _ us hl => match us, hl with | [_, _], _ => rfl
  have F__law_take := fun_mk (st := s__law_take) l__law_take c__law_take k__law_take
  have b__law_take := F__law_take.binds (ps := ["_law_bag_here", "_law_many"]) fun _ _ _ _ _ _ us hl => match us, hl with | [_, _], _ => rfl
  have F__law_of := fun_mk (st := s__law_of) l__law_of c__law_of k__law_of
  have b__law_of := F__law_of.binds (ps := ["_law_bag_here", "_law_some"]) fun _ _ _ _ _ _ us hl => match us, hl with | [_, _], _ => rfl
  have F__law_number := fun_mk (st := s__law_number) l__law_number c__law_number k__law_number
  have b__law_number := F__law_number.binds (ps := ["_law_bag_here"]) fun _ _ _ _ _ _ us hl => match us, hl with | [_], _ => rfl
  have F__law_code := fun_mk (st := s__law_code) l__law_code c__law_code k__law_code
  have b__law_code := F__law_code.binds (ps := ["_law_number_here"]) fun _ _ _ _ _ _ us hl => match us, hl with | [_], _ => rfl
  have F_is_int := fun_mk (st := s_is_int) l_is_int c_is_int k_is_int
  have b_is_int := F_is_int.binds (ps := ["thing"]) fun _ _ _ _ _ _ us hl => match us, hl with | [_], _ => rfl
  have F_is_byte := fun_mk (st := s_is_byte) l_is_byte c_is_byte k_is_byte
  have b_is_byte := F_is_byte.binds (ps := ["thing"]) fun _ _ _ _ _ _ us hl => match us, hl with | [_], _ => rfl
  have F_least_second := fun_mk (st := s_least_second) l_least_second c_least_second k_least_second
  have b_least_second := F_least_second.binds (ps := ["first"]) fun _ _ _ _ _ _ us hl => match us, hl with | [_], _ => rfl
  have F_byte_at := fun_mk (st := s_byte_at) l_byte_at c_byte_at k_byte_at
  have b_byte_at := F_byte_at.binds (ps := ["data", "at", "low", "high"]) fun _ _ _ _ _ _ us hl => match us, hl with | [_, _, _, _], _ => rfl
  have F_digit_at := fun_mk (st := s_digit_at) l_digit_at c_digit_at k_digit_at
  have b_digit_at := F_digit_at.binds (ps := ["data", "at", "low", "high", "is_turned"]) fun _ _ _ _ _ _ us hl => match us, hl with | [_, _, _, _, _], _ => rfl
  have F_code_size := fun_mk (st := s_code_size) l_code_size c_code_size k_code_size
  have b_code_size := F_code_size.binds (ps := ["first"]) fun _ _ _ _ _ _ us hl => match us, hl with | [_], _ => rfl
  have F_code_at := fun_mk (st := s_code_at) l_code_at c_code_at k_code_at
  have b_code_at := F_code_at.binds (ps := ["data", "at", "is_turned"]) fun _ _ _ _ _ _ us hl => match us, hl with | [_, _, _], _ => rfl
  have F_number_at : FunD K "number_at" "number_at" (defArgs s_number_at) (defBody s_number_at) (defScope s_number_at) [.int 0] [] f_number_at _ := ⟨⟨_, _, _, _, _, _, _, _, _, _, rfl, l_number_at, c_number_at, .inr ⟨(by intro z; cases z), dT_number_at, _, [.int 0 tD0_number_at], _, rfl, lD_number_at, rfl, (.cons ⟨_, rfl⟩ .nil)⟩, .inl rfl⟩, k_number_at⟩
  have b_number_at : Binds K (PySem.W.fnOf "number_at" "number_at" (defArgs s_number_at) (defBody s_number_at) (defScope s_number_at) (.ref dT_number_at) kV_number_at dc_number_at pm_number_at an_number_at cd_number_at ct_number_at) ["data", "at"] [] := by
    obtain ⟨ds, rv, hb⟩ := F_number_at.binds1 (ps := ["data", "at"]) 2 1 (by intro z; cases z) rfl (fun T kV doc pm an cdv ct us its hu hi => match us, its, hu, hi with | [_, _], [_], _, _ => ⟨_, rfl, rfl⟩)
    cases rv
    exact hb
  obtain ⟨ds_number_at, d_number_at, bd_number_at⟩ := F_number_at.binds1 (ps := ["data", "at"]) 1 0 (by intro z; cases z) rfl (fun T kV doc pm an cdv ct us its hu hi => match us, its, hu, hi with | [_], [_], _, _ => ⟨_, rfl, rfl⟩)
  have F__law_row_of := fun_mk (st := s__law_row_of) l__law_row_of c__law_row_of k__law_row_of
  have b__law_row_of := F__law_row_of.binds (ps := ["_law_bag_here"]) fun _ _ _ _ _ _ us hl => match us, hl with | [_], _ => rfl
  have F__law_spoilt := fun_mk (st := s__law_spoilt) l__law_spoilt c__law_spoilt k__law_spoilt
  have b__law_spoilt := F__law_spoilt.binds (ps := ["_law_bag_here", "_law_row"]) fun _ _ _ _ _ _ us hl => match us, hl with | [_, _], _ => rfl
  have F__law_is_byte := fun_mk (st := s__law_is_byte) l__law_is_byte c__law_is_byte k__law_is_byte
  have b__law_is_byte := F__law_is_byte.binds (ps := ["_law_entry"]) fun _ _ _ _ _ _ us hl => match us, hl with | [_], _ => rfl
  have F__law_due := fun_mk (st := s__law_due) l__law_due c__law_due k__law_due
  have b__law_due := F__law_due.binds (ps := ["_law_row", "_law_start"]) fun _ _ _ _ _ _ us hl => match us, hl with | [_, _], _ => rfl
  have F__law_told := fun_mk (st := s__law_told) l__law_told c__law_told k__law_told
  have b__law_told := F__law_told.binds (ps := ["_law_row", "_law_start"]) fun _ _ _ _ _ _ us hl => match us, hl with | [_, _], _ => rfl
  have F_law := fun_mk (st := s_law) l_law c_law k_law
  have m_len := PySem.W.mg_none_of X G z_len
  have m_abs := PySem.W.mg_none_of X G z_abs
  have m_int := PySem.W.mg_none_of X G z_int
  have m_range := PySem.W.mg_none_of X G z_range
  have m_isinstance := PySem.W.mg_none_of X G z_isinstance
  have m_bool := PySem.W.mg_none_of X G z_bool
  have m_list := PySem.W.mg_none_of X G z_list
  have m_max := PySem.W.mg_none_of X G z_max
  have m_repr := PySem.W.mg_none_of X G z_repr
  have g_LONG := PySem.W.mg_of X G z_LONG
  have g_FIRST_LONG := PySem.W.mg_of X G z_FIRST_LONG
  have g_LAST_FIRST := PySem.W.mg_of X G z_LAST_FIRST
  have g_ShortestBytesError := PySem.W.mg_of X G z_ShortestBytesError
  have FI_Unfinished := fun_mk (st := sI_Unfinished) lI_Unfinished cI_Unfinished kI_Unfinished
  have bI_Unfinished := FI_Unfinished.binds (ps := ["self", "at"]) fun _ _ _ _ _ _ us hl => match us, hl with | [_, _], _ => rfl
  have FI_WrongByte := fun_mk (st := sI_WrongByte) lI_WrongByte cI_WrongByte kI_WrongByte
  have bI_WrongByte := FI_WrongByte.binds (ps := ["self", "at"]) fun _ _ _ _ _ _ us hl => match us, hl with | [_, _], _ => rfl
  refine ⟨PySem.W.fnOf "law" "law" (defArgs s_law) (defBody s_law) (defScope s_law) .none kV_law dc_law pm_law an_law cd_law ct_law, fun s v => .of_eq rfl, fun base _ _ => ?_⟩
  have E_Unfinished : Err l.prog w K mg base "Unfinished" "at" c_Unfinished := ⟨PySem.W.mg_of X G z_Unfinished, ⟨⟨_, _, _, _, _, _, _, _, _, _, _, _, _, _, _, lC_Unfinished, rv_Unfinished⟩, sa_Unfinished, ex_Unfinished, ty_Unfinished, kp_Unfinished⟩, ⟨ga_Unfinished, gg_Unfinished, ex_Unfinished, hd_Unfinished⟩, ⟨cls_some hd_Unfinished, ga_Unfinished, gg_Unfinished, ex_Unfinished, cc_Unfinished, ge, tk, ob_Unfinished⟩, no_Unfinished, ⟨_, _, in_Unfinished, ti_Unfinished, okI_Unfinished FI_Unfinished, bI_Unfinished⟩⟩
  have E_WrongByte : Err l.prog w K mg base "WrongByte" "at" c_WrongByte := ⟨PySem.W.mg_of X G z_WrongByte, ⟨⟨_, _, _, _, _, _, _, _, _, _, _, _, _, _, _, lC_WrongByte, rv_WrongByte⟩, sa_WrongByte, ex_WrongByte, ty_WrongByte, kp_WrongByte⟩, ⟨ga_WrongByte, gg_WrongByte, ex_WrongByte, hd_WrongByte⟩, ⟨cls_some hd_WrongByte, ga_WrongByte, gg_WrongByte, ex_WrongByte, cc_WrongByte, ge, tk, ob_WrongByte⟩, no_WrongByte, ⟨_, _, in_WrongByte, ti_WrongByte, okI_WrongByte FI_WrongByte, bI_WrongByte⟩⟩
  have G__law_bag : Told l.prog w K mg base CX0 1 f__law_bag _ ["_law_script", "_law_at"] (spBag K) := ok__law_bag F__law_bag m_len m_abs m_int
  have G__law_take : Told l.prog w K mg base CX0 1 f__law_take _ ["_law_bag_here", "_law_many"] spTake := ok__law_take F__law_take m_int
  have G__law_of : Told l.prog w K mg base CX0 2 f__law_of _ ["_law_bag_here", "_law_some"] (spOf K) := ok__law_of F__law_of m_len G__law_take b__law_take (PySem.W.mg_of X G a__law_take) k__law_take
  have G__law_number : Told l.prog w K mg base CX0 3 f__law_number _ ["_law_bag_here"] spNumber := ok__law_number F__law_number m_range G__law_take b__law_take (PySem.W.mg_of X G a__law_take) k__law_take G__law_of b__law_of (PySem.W.mg_of X G a__law_of) k__law_of
  have G__law_code : Told l.prog w K mg base CX0 1 f__law_code _ ["_law_number_here"] spCode := ok__law_code F__law_code m_int m_len
  have G_is_int : Told l.prog w K mg base CX0 1 f_is_int _ ["thing"] (spIsInt K) := ok_is_int F_is_int m_isinstance m_bool m_int
  have G_is_byte : Told l.prog w K mg base CX0 2 f_is_byte _ ["thing"] (spIsByte K) := ok_is_byte F_is_byte G_is_int b_is_int (PySem.W.mg_of X G a_is_int) k_is_int
  have G_least_second : Told l.prog w K mg base CX0 1 f_least_second _ ["first"] spLeast := ok_least_second F_least_second g_LONG g_FIRST_LONG
  have G_byte_at : Told l.prog w K mg base (L2.CX l.prog w) 3 f_byte_at _ ["data", "at", "low", "high"] (spByteAt K c_WrongByte c_Unfinished) := ok_byte_at F_byte_at m_len E_Unfinished E_WrongByte G_is_byte b_is_byte (PySem.W.mg_of X G a_is_byte) k_is_byte
  have G_digit_at : Told l.prog w K mg base (L2.CX l.prog w) 4 f_digit_at _ ["data", "at", "low", "high", "is_turned"] (spDigitAt K c_WrongByte c_Unfinished) := ok_digit_at F_digit_at G_byte_at b_byte_at (PySem.W.mg_of X G a_byte_at) k_byte_at
  have G_code_size : Told l.prog w K mg base CX0 1 f_code_size _ ["first"] spCodeSize := ok_code_size F_code_size g_FIRST_LONG g_LONG
  have G_code_at : Told l.prog w K mg base (L2.CX l.prog w) 5 f_code_at _ ["data", "at", "is_turned"] (spCodeAt K c_WrongByte c_Unfinished) := ok_code_at F_code_at m_range g_LAST_FIRST G_digit_at b_digit_at (PySem.W.mg_of X G a_digit_at) k_digit_at G_code_size b_code_size (PySem.W.mg_of X G a_code_size) k_code_size G_least_second b_least_second (PySem.W.mg_of X G a_least_second) k_least_second
  have G_number_at : Told l.prog w K mg base (L2.CX l.prog w) 6 f_number_at _ ["data", "at"] (spNumberAt K c_WrongByte c_Unfinished) := ok_number_at F_number_at G_code_at b_code_at (PySem.W.mg_of X G a_code_at) k_code_at
  have G__law_row_of : Told l.prog w K mg base CX0 4 f__law_row_of _ ["_law_bag_here"] spRowOf := ok__law_row_of F__law_row_of m_range m_len G__law_take b__law_take (PySem.W.mg_of X G a__law_take) k__law_take G__law_of b__law_of (PySem.W.mg_of X G a__law_of) k__law_of G__law_code b__law_code (PySem.W.mg_of X G a__law_code) k__law_code G__law_number b__law_number (PySem.W.mg_of X G a__law_number) k__law_number
  have G__law_spoilt : Told l.prog w K mg base CX0 3 f__law_spoilt _ ["_law_bag_here", "_law_row"] spSpoilt := ok__law_spoilt F__law_spoilt m_list m_len G__law_take b__law_take (PySem.W.mg_of X G a__law_take) k__law_take G__law_of b__law_of (PySem.W.mg_of X G a__law_of) k__law_of
  have G__law_is_byte : Told l.prog w K mg base CX0 1 f__law_is_byte _ ["_law_entry"] (spIsByte K) := ok__law_is_byte F__law_is_byte m_isinstance m_bool m_int
  have G__law_due : Told l.prog w K mg base CX0 3 f__law_due _ ["_law_row", "_law_start"] (spDue K) := ok__law_due F__law_due m_len m_range G__law_is_byte b__law_is_byte (PySem.W.mg_of X G a__law_is_byte) k__law_is_byte
  have G__law_told : Told l.prog w K mg base CX0 7 f__law_told _ ["_law_row", "_law_start"] (spDue K) := ok__law_told F__law_told m_isinstance g_ShortestBytesError E_WrongByte E_Unfinished G_number_at b_number_at (PySem.W.mg_of X G a_number_at) k_number_at d_number_at bd_number_at s_W_SBE s_U_SBE s_W_U s_U_W s_W_W s_U_U h_SBE t_SBE
  exact ok_law F_law m_range m_max m_len m_repr m_list G__law_bag b__law_bag (PySem.W.mg_of X G a__law_bag) k__law_bag G__law_take b__law_take (PySem.W.mg_of X G a__law_take) k__law_take G__law_of b__law_of (PySem.W.mg_of X G a__law_of) k__law_of G__law_spoilt b__law_spoilt (PySem.W.mg_of X G a__law_spoilt) k__law_spoilt G__law_row_of b__law_row_of (PySem.W.mg_of X G a__law_row_of) k__law_row_of G__law_told b__law_told (PySem.W.mg_of X G a__law_told) k__law_told G__law_due b__law_due (PySem.W.mg_of X G a__law_due) k__law_due
end Sb
open PySem PySem.W PyProof.Rows in
set_option maxRecDepth 100000 in
set_option maxHeartbeats 0 in
theorem PySem.Challenge.cw_shortestbytes_k03_wrong_codes_holds : PySem.Challenge.rw_shortestbytes_k03_wrong_codes.Holds := by
  w_on; o_law; k_head; (case hw => w_witness2)
  k_fill
  refine Sb.end_law (l := PySem.Challenge.rw_shortestbytes_k03_wrong_codes) (k := 8) (x := "_law_script") (sp := (fun K => Sb.spLaw K)) rfl rfl ⟨rfl, by decide, by decide⟩ (fun w h Y => PySem.W.kIn_of Y) ?F (fun K H a ns hl hS => ⟨a, ns, rfl, hS, hl, fun _ => rfl⟩)
  case F =>
    intro w mg fa h KX G hmg
    refine' Sb.all_mk KX G hmg ?a__law_bag ?l__law_bag ?c__law_bag ?k__law_bag ?a__law_take ?l__law_take ?c__law_take ?k__law_take ?a__law_of ?l__law_of ?c__law_of ?k__law_of ?a__law_number ?l__law_number ?c__law_number ?k__law_number ?a__law_code ?l__law_code ?c__law_code ?k__law_code ?a_is_int ?l_is_int ?c_is_int ?k_is_int ?a_is_byte ?l_is_byte ?c_is_byte ?k_is_byte ?a_least_second ?l_least_second ?c_least_second ?k_least_second ?a_byte_at ?l_byte_at ?c_byte_at ?k_byte_at ?a_digit_at ?l_digit_at ?c_digit_at ?k_digit_at ?a_code_size ?l_code_size ?c_code_size ?k_code_size ?a_code_at ?l_code_at ?c_code_at ?k_code_at ?a_number_at ?l_number_at ?c_number_at ?k_number_at ?lD_number_at ?a__law_row_of ?l__law_row_of ?c__law_row_of ?k__law_row_of ?a__law_spoilt ?l__law_spoilt ?c__law_spoilt ?k__law_spoilt ?a__law_is_byte ?l__law_is_byte ?c__law_is_byte ?k__law_is_byte ?a__law_due ?l__law_due ?c__law_due ?k__law_due ?a__law_told ?l__law_told ?c__law_told ?k__law_told ?a_law ?l_law ?c_law ?k_law ?z_len ?z_abs ?z_int ?z_range ?z_isinstance ?z_bool ?z_list ?z_max ?z_repr ?z_LONG ?z_FIRST_LONG ?z_LAST_FIRST ?z_ShortestBytesError ?z_Unfinished ?lC_Unfinished ?rv_Unfinished ?sa_Unfinished ?ex_Unfinished ?ty_Unfinished ?kp_Unfinished ?ga_Unfinished ?gg_Unfinished ?hd_Unfinished ?cc_Unfinished ?ob_Unfinished ?no_Unfinished ?in_Unfinished ?ti_Unfinished ?lI_Unfinished ?cI_Unfinished ?kI_Unfinished ?z_WrongByte ?lC_WrongByte ?rv_WrongByte ?sa_WrongByte ?ex_WrongByte ?ty_WrongByte ?kp_WrongByte ?ga_WrongByte ?gg_WrongByte ?hd_WrongByte ?cc_WrongByte ?ob_WrongByte ?no_WrongByte ?in_WrongByte ?ti_WrongByte ?lI_WrongByte ?cI_WrongByte ?kI_WrongByte ?ge ?tk ?s_W_SBE ?s_U_SBE ?s_W_U ?s_U_W ?s_W_W ?s_U_U ?h_SBE ?t_SBE
    (case a__law_bag => k_is)
    (case l__law_bag => k_is)
    (case c__law_bag => k_is)
    (case k__law_bag => k_is)
    (case a__law_take => k_is)
    (case l__law_take => k_is)
    (case c__law_take => k_is)
    (case k__law_take => k_is)
    (case a__law_of => k_is)
    (case l__law_of => k_is)
    (case c__law_of => k_is)
    (case k__law_of => k_is)
    (case a__law_number => k_is)
    (case l__law_number => k_is)
    (case c__law_number => k_is)
    (case k__law_number => k_is)
    (case a__law_code => k_is)
    (case l__law_code => k_is)
    (case c__law_code => k_is)
    (case k__law_code => k_is)
    (case a_is_int => k_is)
    (case l_is_int => k_is)
    (case c_is_int => k_is)
    (case k_is_int => k_is)
    (case a_is_byte => k_is)
    (case l_is_byte => k_is)
    (case c_is_byte => k_is)
    (case k_is_byte => k_is)
    (case a_least_second => k_is)
    (case l_least_second => k_is)
    (case c_least_second => k_is)
    (case k_least_second => k_is)
    (case a_byte_at => k_is)
    (case l_byte_at => k_is)
    (case c_byte_at => k_is)
    (case k_byte_at => k_is)
    (case a_digit_at => k_is)
    (case l_digit_at => k_is)
    (case c_digit_at => k_is)
    (case k_digit_at => k_is)
    (case a_code_size => k_is)
    (case l_code_size => k_is)
    (case c_code_size => k_is)
    (case k_code_size => k_is)
    (case a_code_at => k_is)
    (case l_code_at => k_is)
    (case c_code_at => k_is)
    (case k_code_at => k_is)
    (case a_number_at => k_is)
    (case l_number_at => k_is)
    (case c_number_at => k_is)
    (case k_number_at => k_is)
    (case lD_number_at => k_is)
    (case a__law_row_of => k_is)
    (case l__law_row_of => k_is)
    (case c__law_row_of => k_is)
    (case k__law_row_of => k_is)
    (case a__law_spoilt => k_is)
    (case l__law_spoilt => k_is)
    (case c__law_spoilt => k_is)
    (case k__law_spoilt => k_is)
    (case a__law_is_byte => k_is)
    (case l__law_is_byte => k_is)
    (case c__law_is_byte => k_is)
    (case k__law_is_byte => k_is)
    (case a__law_due => k_is)
    (case l__law_due => k_is)
    (case c__law_due => k_is)
    (case k__law_due => k_is)
    (case a__law_told => k_is)
    (case l__law_told => k_is)
    (case c__law_told => k_is)
    (case k__law_told => k_is)
    (case a_law => k_is)
    (case l_law => k_is)
    (case c_law => k_is)
    (case k_law => k_is)
    (case z_len => k_is)
    (case z_abs => k_is)
    (case z_int => k_is)
    (case z_range => k_is)
    (case z_isinstance => k_is)
    (case z_bool => k_is)
    (case z_list => k_is)
    (case z_max => k_is)
    (case z_repr => k_is)
    (case z_LONG => k_is)
    (case z_FIRST_LONG => k_is)
    (case z_LAST_FIRST => k_is)
    (case z_ShortestBytesError => k_is)
    (case z_Unfinished => k_is)
    (case lC_Unfinished => k_is)
    (case rv_Unfinished => decide +kernel)
    (case sa_Unfinished => k_is)
    (case ex_Unfinished => k_is)
    (case ty_Unfinished => k_is)
    (case kp_Unfinished => k_is)
    (case ga_Unfinished => k_is)
    (case gg_Unfinished => k_is)
    (case hd_Unfinished => k_is)
    (case cc_Unfinished => k_is)
    (case ob_Unfinished => k_is)
    (case no_Unfinished => k_is)
    (case in_Unfinished => k_is)
    (case ti_Unfinished => k_is)
    (case lI_Unfinished => k_is)
    (case cI_Unfinished => k_is)
    (case kI_Unfinished => k_is)
    (case z_WrongByte => k_is)
    (case lC_WrongByte => k_is)
    (case rv_WrongByte => decide +kernel)
    (case sa_WrongByte => k_is)
    (case ex_WrongByte => k_is)
    (case ty_WrongByte => k_is)
    (case kp_WrongByte => k_is)
    (case ga_WrongByte => k_is)
    (case gg_WrongByte => k_is)
    (case hd_WrongByte => k_is)
    (case cc_WrongByte => k_is)
    (case ob_WrongByte => k_is)
    (case no_WrongByte => k_is)
    (case in_WrongByte => k_is)
    (case ti_WrongByte => k_is)
    (case lI_WrongByte => k_is)
    (case cI_WrongByte => k_is)
    (case kI_WrongByte => k_is)
    (case ge => k_is)
    (case tk => k_is)
    (case s_W_SBE => k_is)
    (case s_U_SBE => k_is)
    (case s_W_U => k_is)
    (case s_U_W => k_is)
    (case s_W_W => k_is)
    (case s_U_U => k_is)
    (case h_SBE => k_is)
    (case t_SBE => k_is)



