import PyProof.Rows.All
import Wide.All
import OpenK.AllK
import Wide.FinOn
import PyProof.EqAt
import PyProof.EqKinds
import PyProof.TupleCall
import PyProof.ReprRoads
import HandS.Base
import HandS.Call
import HandS.List
import HandS.Comp
import HandS.Ends
import HandS.Iter
import HandS.Words
import HandS.WordsList
import HandS.Wide
import HandS.WideBits
import HandS.IsInst
import HandS.Walk
import HandS.Defaults
import KE.KExcIs
import HandS.Exc
import HandS.ExcOwn
import HandS.ExcInit
import HandS.ExcField
import HandS.TryOnly
import HandS.WordsExc
import KE.LtSeq
import HandS.ExcValue
import PySem.Challenge.RW_shortestbytes_k15_errors_made
set_option Elab.async false
set_option linter.all false
set_option maxRecDepth 100000
set_option maxHeartbeats 2000000
namespace Sb
open PySem PySem.Spec PyProof.Rows L2

/-! ### promises of defs that are called while nothing is being shown by repr -/
def Clr (A : Around) : Prop := A.guards = some []

structure Told (P : Program) (w : World) (K : PySem.W.Frag) (mg : Str → Option Value) (base : Heap) (CX : CXT) (k : Nat) (f : Addr) (fd : FuncData) (ps : List Str) (sp : Sp) : Prop where
  arity : ∀ {vs H Q E}, sp vs H Q E → vs.length = ps.length
  go : ∀ {A : Around} {outer : List Env} {s : Shared} {H : Hp} {args : Args} {us : List Value} {vs : List V} {Q : VK} {E : XK}, Clr A → Room k A → Env0 P w K mg base A outer s H →
    BindsTo s fd args (ps.zip us) → Vals vs us → sp vs H Q E → codeAny (model P w) A (.call (.ref f) args) (CR CX outer P w H s Q E) s

section
variable {P : Program} {w : World} {K : PySem.W.Frag} {mg : Str → Option Value} {base : Heap} {CX : CXT} {k : Nat} {f : Addr} {fd : FuncData} {ps : List Str} {sp : Sp}
theorem told_of (F : FnOk P w K mg base CX k f fd ps sp) : Told P w K mg base CX k f fd ps sp :=
  ⟨fun h => F.len _ _ _ _ h, fun _ hr e hb hv hs => F.run _ _ _ _ _ _ _ _ _ hr e hb hv hs⟩

theorem told_core {x qual : Str} {st : Stmt} {N : List Str} {oc dV kV doc pm cdv ct : Value} {od an : Option Addr} {osl : Array (Option Value)}
    (lk : K.lookup f = some ⟨oc, od, .func (PySem.W.fnOf x qual (defArgs st) (defBody st) (defScope st) dV kV doc pm an cdv ct), osl⟩) (code : PySem.W.codeIn K cdv qual = true) (S : FnScope N ps (defScope st)) (ar : ∀ vs H Q E, sp vs H Q E → vs.length = ps.length)
    (body : ∀ (cdv : Value) (A : Around) (outer : List Env) (s : Shared) (H : Hp) (vs : List V) (Q : VK) (E : XK), Clr (A.deeper (envOfC qual (defScope st) s.heap.objs.size f cdv)) →
      Room k (A.deeper (envOfC qual (defScope st) s.heap.objs.size f cdv)) → sp vs H Q E →
      ∃ t, PSs (cxOf CX P w K mg base N qual (defScope st) f cdv A outer s H E) (defBody st) t ∧ t { nx := fun _ H' => Q .non H', rt := Q } (start N vs) H) :
    Told P w K mg base CX (k + 1) f (PySem.W.fnOf x qual (defArgs st) (defBody st) (defScope st) dV kV doc pm an cdv ct) ps sp := by
  refine ⟨fun h => ar _ _ _ _ h, ?_⟩
  intro A outer s H args us vs Q E clr room e0 bind rv say
  have hin : K.In s.heap := e0.mod.kin.keeps (fun b o z => (e0.bs b o z).1)
  have nolim : s.heap.NoLimit := e0.mod.nolimit.keeps (fun b o z => (e0.bs b o z).1)
  have slotsOf : ∀ y ∈ ps.zip us, (defScope st).names.lookup y.1 = some .local ∨
      ((defScope st).names.lookup y.1 = some .cell ∧ ((cellsFrom (s.heap.objs.size + 1) (defScope st).names []).lookup y.1).isSome = true) := by
    intro y hy
    have hp : y.1 ∈ ps := (List.of_mem_zip (show (y.1, y.2) ∈ ps.zip us from hy)).1
    cases S.par y.1 hp with
    | inl q => exact .inl q
    | inr q => exact .inr ⟨q, PySem.W.cellsFrom_some _ _ _ (.inl q)⟩
  apply codeAny_call_function room.depth (hin _ _ lk) rfl S.co S.gen rfl (PySem.W.codeRec_of hin code)
  refine bind _ _ _ _ ?_
  apply wpAny_newFunctionEnv_cells S.kind slotsOf
  intro env he s1 call
  subst he
  refine ⟨nolim.keeps call.toInCall.keep, codeAny_func ?_⟩
  obtain ⟨t, run, want⟩ := body cdv A outer s H vs Q E clr (room.deeper _) say
  have inv : Inv (cxOf CX P w K mg base N qual (defScope st) f cdv A outer s H E) [] (start N vs) H s1 := inv_start S room.hd e0 (ar _ _ _ _ say) rv call
  refine wpAny_mono (run.run [] s1 _ H _ inv want) ?_ (fun _ _ h => h)
  intro fl s' h
  cases fl with
  | ret u => exact let ⟨v, _, H', J, r, q⟩ := h; ⟨v, H', J.os, J.bare, J.base, J.hok, r, q⟩
  | next => exact let ⟨_, H', J, q⟩ := h; ⟨V.non, H', J.os, J.bare, J.base, J.hok, rfl, q⟩
  | brk => exact let ⟨_, _, _, q⟩ := h; q.elim
  | cont => exact let ⟨_, _, _, q⟩ := h; q.elim

theorem toldX {x qual : Str} {st : Stmt} {N : List Str} (F : Fun K x qual st f fd) (S : FnScope N ps (defScope st)) (ar : ∀ vs H Q E, sp vs H Q E → vs.length = ps.length)
    (body : ∀ (cdv : Value) (A : Around) (outer : List Env) (s : Shared) (H : Hp) (vs : List V) (Q : VK) (E : XK), Clr (A.deeper (envOfC qual (defScope st) s.heap.objs.size f cdv)) →
      Room k (A.deeper (envOfC qual (defScope st) s.heap.objs.size f cdv)) → sp vs H Q E →
      ∃ t, PSs (cxOf CX P w K mg base N qual (defScope st) f cdv A outer s H E) (defBody st) t ∧ t { nx := fun _ H' => Q .non H', rt := Q } (start N vs) H) :
    Told P w K mg base CX (k + 1) f fd ps sp := by
  obtain ⟨oc, od, kV, doc, pm, an, cdv, ct, osl, rfl, lk, code⟩ := F.ex
  exact told_core lk code S ar body
/-- the same for a def with defaults -/
theorem toldD {x qual : Str} {st : Stmt} {N : List Str} {dvs : List V} {kws : List (Str × V)} (F : FunD K x qual (defArgs st) (defBody st) (defScope st) dvs kws f fd) (S : FnScope N ps (defScope st)) (ar : ∀ vs H Q E, sp vs H Q E → vs.length = ps.length)
    (body : ∀ (cdv : Value) (A : Around) (outer : List Env) (s : Shared) (H : Hp) (vs : List V) (Q : VK) (E : XK), Clr (A.deeper (envOfC qual (defScope st) s.heap.objs.size f cdv)) →
      Room k (A.deeper (envOfC qual (defScope st) s.heap.objs.size f cdv)) → sp vs H Q E →
      ∃ t, PSs (cxOf CX P w K mg base N qual (defScope st) f cdv A outer s H E) (defBody st) t ∧ t { nx := fun _ H' => Q .non H', rt := Q } (start N vs) H) :
    Told P w K mg base CX (k + 1) f fd ps sp := by
  obtain ⟨oc, od, dV, kV, doc, pm, an, cdv, ct, osl, rfl, lk, code, _, _⟩ := F.ex
  exact told_core lk code S ar body
end

section
variable {P : Program} {w : World} {K : PySem.W.Frag} {mg : Str → Option Value} {base : Heap} {CX : CXT} {k : Nat} {f : Addr} {fd : FuncData} {ps : List Str} {sp : Sp}
/-- the same for a def that lets no exception out -/
theorem told {x qual : Str} {st : Stmt} {N : List Str} (F : Fun K x qual st f fd) (S : FnScope N ps (defScope st)) (ar : ∀ vs H Q E, sp vs H Q E → vs.length = ps.length)
    (body : ∀ (cdv : Value) (A : Around) (outer : List Env) (s : Shared) (H : Hp) (vs : List V) (Q : VK) (E : XK), Clr (A.deeper (envOfC qual (defScope st) s.heap.objs.size f cdv)) →
      Room k (A.deeper (envOfC qual (defScope st) s.heap.objs.size f cdv)) → sp vs H Q E →
      ∃ t, PSs (cxOf CX0 P w K mg base N qual (defScope st) f cdv A outer s H E).nox (defBody st) t ∧ t { nx := fun _ H' => Q .non H', rt := Q } (start N vs) H) :
    Told P w K mg base CX0 (k + 1) f fd ps sp :=
  toldX F S ar fun cdv A outer s H vs Q E clr room say => let ⟨t, run, want⟩ := body cdv A outer s H vs Q E clr room say; ⟨t, run.nox, want⟩
end

section
variable {X : Cx} {CX : CXT} {k : Nat} {f : Addr} {fd : FuncData} {ps : List Str} {sp : Sp} {dvs : List V} {ds : List Value} {E : XK} {x : Str} {p pos : Pos} {e : Expr} {es : List Expr} {t : TA}
/-- a call of such a def -/
theorem pe_told (T : Told X.prog X.w X.K X.mg X.base CX k f fd ps sp) (clr : Clr X.A) (room : Room k X.A) (hg : Gl X x) (hm : X.mg x = some (.ref f)) (hk : PySem.W.keepIn X.K (.ref f) = true)
    (hb : Binds X.K fd ps ds) (hd : Vals dvs ds) (pass : Passes CX X E) (ha : PA X (e :: es) t) (hdb : (x == ("__debug__" : Str)) = false := by decide)
    (he : starEach (e :: es) X.env = (false, eval e X.env) :: starEach es X.env := by rfl) (hpl : (backTo pos (starEach es X.env)).any (·.1) = false := by rfl) :
    PE X (.Call (.Name x p) (e :: es) [] pos) (tCall sp dvs E t) := by
  constructor
  intro pins s σ H Q I want
  apply wpAny_Call_Name_kw
  refine ld_glob I hg hm ?_ hdb
  apply PySem.W.callWith_K (h₀ := X.base) I.ok.mod.kin hk ?_ he hpl
  refine thn (ha.run pos pins s σ H _ I want) ?_
  intro us s1 got
  obtain ⟨vs, H1, I1, r, say⟩ := got
  refine ⟨I1.kIn, wpAny_call ?_⟩
  have rr := r.append hd
  have many : (us ++ ds).length = ps.length := rr.length.symm.trans (T.arity say)
  refine codeAny_mono (T.go clr room I1.env0 (hb s1 us I1.kIn many) rr say) ?_
  intro res s2 h
  match res, h with
  | .error er, h => exact pass pins σ H1 s1 er s2 I1 h
  | .ok (.ret u), h => exact I1.after h
  | .ok .next, h => exact h.elim
  | .ok .brk, h => exact h.elim
  | .ok .cont, h => exact h.elim
end

/-! ### repr of data -/
def rReprD (K : PySem.W.Frag) : List V → Hp → VK → Prop := fun xs H Q => ∃ (v : V) (d : PyData), xs = [v] ∧ Dp K H v d ∧ d.showable = true ∧ d.hasDict = false ∧ d.depth ≤ 60 ∧ d.shown.length ≤ sizeLine ∧ Q (.str d.shown) H

section
variable {X : Cx}
theorem call_reprD (clr : Clr X.A) (hu : X.A.units + 64 < cLine) : CallR X (.builtin "repr") (rReprD X.K) := by
  intro pins s σ H xs us Q I r h
  obtain ⟨v, d, rfl, hd, hs, hn, hz, hl, q⟩ := h
  obtain ⟨u, rfl, rv⟩ := vals1 r
  obtain ⟨as, rd⟩ := Dp.reads I d v u hd rv
  have byRef : ∀ a : Addr, u = .ref a → wpAny (model X.prog X.w) X.A (call (.builtin "repr") [u]) (EP X pins σ Q) X.xe s := by
    intro a e
    subst e
    refine repr_of_reads' rd hs (PyData.noDict_hsm hn) clr ?_ (fun _ _ z => z) (fun h' t tk keep => ⟨.str _, H, I.kept keep, ⟨t, rfl⟩, q⟩) hl
    omega
  cases hd with
  | non =>
    cases (show u = Value.none from rv)
    exact PySem.P.repr_of_none ⟨.str _, H, I.tok _, ⟨_, rfl⟩, PyData.shown_none ▸ q⟩
  | bl b =>
    cases (show u = Value.bool b from rv)
    refine PySem.P.repr_of_bool ⟨.str _, H, I.tok _, ⟨_, rfl⟩, ?_⟩
    rw [PyData.shown_bool] at q
    exact q
  | int i =>
    obtain ⟨t, rfl⟩ := rv
    refine PySem.P.repr_of_int ?_ ⟨.str _, H, I.tok _, ⟨_, rfl⟩, ?_⟩
    · simpa [PyData.showable] using hs
    · rw [PyData.shown_int] at q
      exact q
  | str x =>
    obtain ⟨t, rfl⟩ := rv
    refine PySem.P.repr_of_str ⟨.str _, H, I.tok _, ⟨_, rfl⟩, ?_⟩ ?_
    · rw [PyData.shown_str] at q
      exact q
    · rw [PyData.shown_str] at hl
      exact hl
  | lst a b => exact byRef _ rv
  | tup a b => exact byRef _ rv
end

/-! ### a law's end -/
section
variable {P : Program} {w : World} {K : PySem.W.Frag} {mg mb : Str → Option Value} {k : Nat} {fa a : Addr} {fd : FuncData} {x : Str} {sp : Sp} {s₁ : Shared} {vs : List Value} {ns : List Int}
/-- the heap of the layer that knows the script alone -/
def hpScript (a : Addr) (vs : List Value) (ns : List Int) : Hp := fun b => if b = a then some (.frz { cls := .type "list", data := .seq vs.toArray } (.lst (ns.map V.int))) else none
/-- a law's def, told over every base, called by the claim on a script of the heap -/
theorem call_law (hin : K.In s₁.heap) (names : s₁.heap.Ns mainGlobals mg) (bn : s₁.heap.Ns builtinsNs mb) (bb : ∀ x : Str, x ≠ "__name__" → mb x = bootBuiltins x) (nolim : s₁.heap.NoLimit) (nogen : s₁.gens = #[])
    (script : s₁.heap.get? a = some { cls := .type "list", data := .seq vs.toArray }) (nums : IntsAre vs ns) (short : ns.length ≤ sizeLine) (room : Room k callerA)
    (T : ∀ base : Heap, K.In base → base.Ns mainGlobals mg → Told P w K mg base CX0 k fa fd [x] sp) (bind : ∀ (s : Shared) (u : Value), BindsTo s fd ⟨[u], []⟩ [(x, u)])
    (say : ∀ H : Hp, Only H → SqL K H a (ns.map V.int) → sp [.ref a] H (fun v _ => v = .bl true) fun _ _ _ => False) :
    codeAny (model P w) callerA (.call (.ref fa) ⟨[.ref a], []⟩) (fun r s' => r = .ok (.ret (.bool true)) ∧ OldK s₁.heap s'.heap ∧ s'.os = s₁.os ∧ AllBare s'.gens) s₁ := by
  have rv := vals_ints nums
  have many := nums.length
  suffices main : ∀ H : Hp, Only H → SqL K H a (ns.map V.int) → HOk P w H s₁.heap → (∀ b u, H b = some u → b = a) → (∀ u, H a = some u → K.lookup a = none) →
      codeAny (model P w) callerA (.call (.ref fa) ⟨[.ref a], []⟩) (fun r s' => r = .ok (.ret (.bool true)) ∧ OldK s₁.heap s'.heap ∧ s'.os = s₁.os ∧ AllBare s'.gens) s₁ by
    by_cases inK : ∃ o, K.lookup a = some o
    · obtain ⟨o, ho⟩ := inK
      have eo := hin a o ho
      rw [script] at eo
      cases eo
      refine main (fun _ => none) (fun _ => .inl rfl) (.inr ⟨_, vs.toArray, _, ho, rfl, rfl, rfl, ?_, ?_⟩) (fun _ u z => nomatch (z : (none : Option HO) = some u)) (fun _ u z => nomatch (z : (none : Option HO) = some u)) (fun u z => nomatch (z : (none : Option HO) = some u))
      · rw [List.size_toArray, many]
        exact short
      · simpa using rv
    · have outK : K.lookup a = none := by
        cases q : K.lookup a with
        | none => rfl
        | some o => exact (inK ⟨o, q⟩).elim
      have only : ∀ b u, hpScript a vs ns b = some u → b = a := fun b u z => by
        by_cases e : b = a
        · exact e
        · exact nomatch (if_neg e).symm.trans z
      refine main (hpScript a vs ns) (fun b => ?_) (.inl (.inr ⟨_, if_pos rfl⟩)) (fun b u z => ?_) only (fun _ _ => outK)
      · by_cases e : b = a
        · exact .inr ⟨_, _, if_pos e⟩
        · exact .inl (if_neg e)
      · obtain rfl := only b u z
        cases (if_pos rfl).symm.trans z
        exact ⟨script, by simpa using short, vs, _, rv, script⟩
  intro H only seq ok alone outK
  have under : ∀ {b : Addr} {o : Obj}, s₁.heap.get? b = some o → H b = none → (hidT s₁.heap H).get? b = some o := fun z n => hidT_get z n
  have dictOut : ∀ {b : Addr} {o : Obj} {es : Array DictEntry} {ep : Nat}, s₁.heap.get? b = some o → o.data = .dict es ep → H b = none := by
    intro b o es ep z d
    cases q : H b with
    | none => rfl
    | some u =>
      obtain rfl := alone b u q
      rw [script] at z
      cases z
      exact nomatch (d : Data.seq vs.toArray _ = Data.dict es ep)
  have nsUnder : ∀ {b : Addr} {m : Str → Option Value}, s₁.heap.Ns b m → (hidT s₁.heap H).Ns b m := by
    intro b m z
    obtain ⟨o, es, ep, e, d, r⟩ := z
    exact ⟨o, es, ep, under e (dictOut e d), d, r⟩
  have inBase : K.In (hidT s₁.heap H) := by
    intro b o e
    refine under (hin b o e) ?_
    cases q : H b with
    | none => rfl
    | some u =>
      obtain rfl := alone b u q
      rw [outK u q] at e
      cases e
  obtain ⟨mc, lim1, lim2⟩ := nolim
  have e0 : Env0 P w K mg (hidT s₁.heap H) callerA [] s₁ H :=
    { frames := rfl, mod := ⟨inBase, nsUnder names, ⟨mb, nsUnder bn, bb⟩, ⟨mc, nsUnder lim1, lim2⟩⟩, bs := fun _ _ z => of_hidT z, bsz := Nat.le_of_eq (hidT_size _ _), funs := trivial
      frf := fun b z => absurd (show b ∈ ([] : List Addr) from z) List.not_mem_nil, hok := ok, bare := .of_eq nogen }
  have run := (T _ inBase (nsUnder names)).go (A := callerA) (us := [.ref a]) (vs := [.ref a]) rfl room e0 (bind s₁ (.ref a)) (.cons rfl .nil) (say H only seq)
  refine codeAny_mono run ?_
  intro r s' h
  match r, h with
  | .error _, h => exact h.elim
  | .ok .next, h => exact h.elim
  | .ok .brk, h => exact h.elim
  | .ok .cont, h => exact h.elim
  | .ok (.ret u), h =>
    obtain ⟨v, H', os, bare, un, ok', r', q⟩ := h
    cases (show v = .bl true from q)
    cases (show u = Value.bool true from r')
    refine ⟨rfl, OldK.of_keep ?_, os, bare⟩
    intro b o z
    rcases only b with e | ⟨ob, xs, e⟩
    · exact un.keep b o z e (fun y => absurd (show b ∈ ([] : List Addr) from y) List.not_mem_nil) (by simp)
    · have e' := un.frzs b ob _ e
      have h1 := (ok b _ e).1
      have h2 := (ok' b _ e').1
      rw [z] at h1
      cases h1
      exact h2

theorem end_law {l : PySem.W.OpenLaw} {k : Nat} {q : Program} {loose : List Str} {XP : (Str → Option Value) → Heap → Prop} {YP : World → Heap → Prop} {d : DefRec} {K : Params → PySem.W.Frag} {sp : PySem.W.Frag → Sp} {x : Str}
    (hn : l.most = some 63) (hdf : d.params.defaults = []) (room : Room k callerA) (hY : ∀ (w : World) (h : Heap), YP w h → (K w.params).In h)
    (F : ∀ (w : World) (mg : Str → Option Value) (fa : Addr) (h : Heap), (K w.params).In h → h.Ns mainGlobals mg → mg d.name = some (.ref fa) →
      ∃ fd : FuncData, (∀ (s : Shared) (u : Value), BindsTo s fd ⟨[u], []⟩ [(x, u)]) ∧ ∀ base : Heap, (K w.params).In base → base.Ns mainGlobals mg → Told l.prog w (K w.params) mg base CX0 k fa fd [x] (sp (K w.params)))
    (say : ∀ (K : PySem.W.Frag) (H : Hp) (a : Addr) (ns : List Int), ns.length ≤ 63 → SqL K H a (ns.map V.int) → sp K [.ref a] H (fun v _ => v = .bl true) fun _ _ _ => False) :
    PySem.W.WalkO q loose XP YP l.row.toRowW d [] (fun f vs => PySem.call f vs) := by
  apply Att.attach_call hn hdf
  intro w s₀ s₁ mg mb fa o pm cd doc a vs ns G Y ho hd hcd hmg script nums len nogen
  obtain ⟨fd, bind, T⟩ := F w mg fa _ (hY w _ Y) G.T.g hmg
  exact call_law (hY w _ Y) G.T.g G.T.b G.T.builtins G.T.nolimit nogen script nums (Nat.le_trans len (by decide)) room T bind fun H _ seq => say _ H a ns len seq
end
end Sb

set_option Elab.async false
set_option linter.all false
set_option maxRecDepth 100000
namespace Sb
open PySem PySem.Spec PyProof.Rows L2

/-! ### numbers in base 256, the most significant digit first -/
def digs (n : Nat) : List Nat := if h : n = 0 then [] else digs (n / 256) ++ [n % 256]
termination_by n
decreasing_by omega
theorem digs_zero : digs 0 = [] := by rw [digs]; rfl
theorem digs_pos {n : Nat} (h : n ≠ 0) : digs n = digs (n / 256) ++ [n % 256] := by
  rw [digs, dif_neg h]
theorem digs_at : ∀ (n j : Nat), j < (digs n).length → (digs n)[j]? = some (n / 256 ^ ((digs n).length - 1 - j) % 256) := by
  intro n
  induction n using Nat.strongRecOn with
  | _ n ih =>
    intro j hj
    by_cases h : n = 0
    · subst h
      rw [digs_zero] at hj
      exact absurd hj (Nat.not_lt_zero _)
    · rw [digs_pos h] at hj ⊢
      rw [List.length_append, List.length_singleton] at hj ⊢
      by_cases hl : j < (digs (n / 256)).length
      · rw [List.getElem?_append_left hl, ih (n / 256) (by omega) j hl, Nat.div_div_eq_div_mul]
        have e : (digs (n / 256)).length + 1 - 1 - j = ((digs (n / 256)).length - 1 - j) + 1 := by omega
        rw [e, Nat.pow_succ, Nat.mul_comm]
      · have e : j = (digs (n / 256)).length := by omega
        subst e
        rw [List.getElem?_append_right (Nat.le_refl _), Nat.sub_self]
        have e2 : (digs (n / 256)).length + 1 - 1 - (digs (n / 256)).length = 0 := by omega
        rw [e2, Nat.pow_zero, Nat.div_one]
        rfl
theorem digs_len_le : ∀ (k n : Nat), n < 256 ^ k → (digs n).length ≤ k
  | 0, n, h => by
    have e : n = 0 := by
      rw [Nat.pow_zero] at h
      omega
    rw [e, digs_zero]
    exact Nat.le_refl _
  | k + 1, n, h => by
    by_cases e : n = 0
    · rw [e, digs_zero]
      exact Nat.zero_le _
    · rw [digs_pos e, List.length_append, List.length_singleton]
      rw [Nat.pow_succ] at h
      have := digs_len_le k (n / 256) (by omega)
      omega
theorem digs_lt : ∀ (n d : Nat), d ∈ digs n → d < 256 := by
  intro n
  induction n using Nat.strongRecOn with
  | _ n ih =>
    intro d hd
    by_cases h : n = 0
    · rw [h, digs_zero] at hd
      cases hd
    · rw [digs_pos h] at hd
      rcases List.mem_append.mp hd with q | q
      · exact ih _ (by omega) d q
      · rw [List.mem_singleton] at q
        omega
theorem digs_len : ∀ n : Nat, (digs n).length = (Builtin.Int.intBits (n : Int) + 7) / 8 := by
  intro n
  induction n using Nat.strongRecOn with
  | _ n ih =>
    by_cases h : n = 0
    · subst h
      rw [digs_zero]
      decide
    · have bits : Builtin.Int.intBits (n : Int) = n.log2 + 1 := by
        unfold Builtin.Int.intBits
        rw [if_neg (by simpa using h)]
        rfl
      rw [bits, digs_pos h, List.length_append, List.length_singleton, ih (n / 256) (by omega)]
      by_cases hs : n < 256
      · have e : n / 256 = 0 := by omega
        rw [e]
        have hl : n.log2 < 8 := (Nat.log2_lt h).mpr hs
        have e0 : Builtin.Int.intBits ((0 : Nat) : Int) = 0 := by decide
        rw [e0]
        omega
      · have h0 : n / 256 ≠ 0 := by omega
        have bits2 : Builtin.Int.intBits ((n / 256 : Nat) : Int) = (n / 256).log2 + 1 := by
          unfold Builtin.Int.intBits
          rw [if_neg (by
            have := h0
            simp
            omega)]
          rfl
        rw [bits2]
        have e : n.log2 = (n / 256).log2 + 8 := by
          obtain ⟨h1, h2⟩ := (Nat.log2_eq_iff h0 (k := (n / 256).log2)).mp rfl
          refine (Nat.log2_eq_iff h).mpr ⟨?_, ?_⟩
          · rw [Nat.pow_add]
            omega
          · have e9 : (n / 256).log2 + 8 + 1 = ((n / 256).log2 + 1) + 8 := by omega
            rw [e9, Nat.pow_add]
            omega
        omega

/-- the code of a number -/
def codeN (n : Nat) : List Nat := if n < 192 then [n] else (191 + (digs n).length) :: digs n
theorem codeN_small {n : Nat} (h : n < 192) : codeN n = [n] := if_pos h
theorem codeN_big {n : Nat} (h : ¬ n < 192) : codeN n = (191 + (digs n).length) :: digs n := if_neg h
theorem codeN_len {n : Nat} (h : n < 256 ^ 63) : (codeN n).length ≤ 64 := by
  by_cases c : n < 192
  · rw [codeN_small c, List.length_singleton]
    omega
  · rw [codeN_big c, List.length_cons]
    have := digs_len_le 63 n h
    omega
theorem codeN_lt {n : Nat} (h : n < 256 ^ 63) : ∀ d ∈ codeN n, d < 256 := by
  intro d hd
  by_cases c : n < 192
  · rw [codeN_small c, List.mem_singleton] at hd
    omega
  · rw [codeN_big c] at hd
    rcases List.mem_cons.mp hd with q | q
    · have := digs_len_le 63 n h
      omega
    · exact digs_lt n d q

/-! ### heaps -/
/-- numbers as values -/
def vN (d : Nat) : V := .int (d : Int)
/-- all but what stands at p is as it was -/
def But (p : Addr) (H H' : Hp) : Prop := ∀ b o, b ≠ p → H b = some o → H' b = some o
theorem But.refl (p : Addr) (H : Hp) : But p H H := fun _ _ _ h => h
theorem But.trans {p : Addr} {H H1 H2 : Hp} (a : But p H H1) (b : But p H1 H2) : But p H H2 := fun c o n h => b c o n (a c o n h)
theorem But.put {p : Addr} {H : Hp} {o : HO} : But p H (upd H p o) := fun b u n h => by
  rw [upd_ne n]
  exact h
theorem But.seq {p a : Addr} {K : PySem.W.Frag} {H H' : Hp} {xs : List V} (e : But p H H') (n : a ≠ p) (h : SqL K H a xs) : SqL K H' a xs := by
  rcases h with (h | ⟨o, h⟩) | h
  · exact .inl (.inl (e _ _ n h))
  · exact .inl (.inr ⟨o, e _ _ n h⟩)
  · exact .inr h
theorem But.same {p : Addr} {H H1 H2 : Hp} (a : But p H H1) (b : Same H1 H2) : But p H H2 := fun c o n h => b c o (a c o n h)
theorem Same.but {p : Addr} {H H' : Hp} (a : Same H H') : But p H H' := fun c o _ h => a c o h
theorem same_new {H : Hp} {p : Addr} {o : HO} (h : H p = none) : Same H (upd H p o) := fun b u z => by
  rw [upd_ne (ne_of_none z h)]
  exact z
theorem seq_new {K : PySem.W.Frag} {H : Hp} {p : Addr} {xs : List V} : SqL K (upd H p (.lst xs)) p xs := .inl (.inl upd_same)
theorem seq_of {K : PySem.W.Frag} {H : Hp} {p : Addr} {xs : List V} (h : H p = some (.lst xs)) : SqL K H p xs := .inl (.inl h)
/-- the law's bag: two numbers to draw from, and how many draws there were (at most n) -/
def BagAt (H : Hp) (p : Addr) (n : Nat) : Prop := ∃ d s k : Int, H p = some (.lst [.int d, .int s, .int k]) ∧ 0 ≤ d ∧ 0 ≤ s ∧ s ≤ 2 ^ 40 ∧ 0 ≤ k ∧ k ≤ n
theorem BagAt.mono {H : Hp} {p : Addr} {n m : Nat} (b : BagAt H p n) (h : n ≤ m) : BagAt H p m := by
  obtain ⟨d, s, k, e, h1, h2, h3, h4, h5⟩ := b
  exact ⟨d, s, k, e, h1, h2, h3, h4, by omega⟩
theorem BagAt.same {H H' : Hp} {p : Addr} {n : Nat} (b : BagAt H p n) (s : Same H H') : BagAt H' p n := by
  obtain ⟨d, z, k, e, r⟩ := b
  exact ⟨d, z, k, s _ _ e, r⟩
theorem sz {n : Nat} (h : n ≤ 1000000) : n ≤ sizeLine := by
  rw [sizeLine_eq]
  omega
theorem sz_lt {n : Nat} (h : n ≤ 1000000) : n < sizeLine := by
  rw [sizeLine_eq]
  omega
/-- a conditional expression whose two ways both give what R says -/
theorem if_val {c : TT} {ta tb : TE} {σ : L2.St} {H : Hp} {Q : VK} (R : V → Prop) (go : ∀ Q' : VK, (∀ v, R v → Q' v H) → tIf c ta tb σ H Q') (k : ∀ v, R v → Q v H) : tIf c ta tb σ H Q := go Q k

/-! ### lists of numbers as data -/
theorem dp_nums {K : PySem.W.Frag} {H : Hp} : ∀ l : List Nat, DpAll K H (l.map vN) (l.map fun d : Nat => PyData.int (d : Int))
  | [] => .nil
  | d :: l => .cons (.int _) (dp_nums l)
theorem shown_len_append : True := trivial
end Sb
namespace Sb
open PySem PySem.Spec PyProof.Rows L2
def dN (d : Nat) : PyData := .int (d : Int)
theorem nums_data : ∀ (l : List Nat), (∀ d ∈ l, d < 1024) → PyData.showableAll (l.map dN) = true ∧ PyData.hasDictAll (l.map dN) = false ∧ PyData.depthAll (l.map dN) ≤ 1 ∧ PyData.leavesShortAll 13 (l.map dN) = true ∧ PyData.weightAll (l.map dN) ≤ 12 * l.length
  | [], _ => by decide
  | d :: l, h => by
    obtain ⟨h1, h2, h3, h4, h5⟩ := nums_data l fun x hx => h x (List.mem_cons_of_mem _ hx)
    have hd := h d List.mem_cons_self
    have hn : ((d : Int).natAbs) = d := Int.natAbs_natCast d
    have hl : ((d : Int).natAbs).log2 < 11 := by
      rw [hn]
      by_cases e : d = 0
      · subst e
        decide
      · have : d.log2 < 10 := (Nat.log2_lt e).mpr hd
        omega
    have hs : (PyData.shown (dN d)).length ≤ 13 := PyData.shown_int_le (by rw [hn]; omega)
    refine ⟨?_, ?_, ?_, ?_, ?_⟩
    · show (PyData.showable (dN d) && PyData.showableAll (l.map dN)) = true
      rw [h1, Bool.and_true]
      exact decide_eq_true (show ((d : Int).natAbs).log2 < 1920 by omega)
    · show (PyData.hasDict (dN d) || PyData.hasDictAll (l.map dN)) = false
      rw [h2]
      rfl
    · show max (PyData.depth (dN d)) (PyData.depthAll (l.map dN)) ≤ 1
      have : PyData.depth (dN d) ≤ 1 := by
        unfold dN
        simp [PyData.depth]
      omega
    · show (PyData.leavesShort 13 (dN d) && PyData.leavesShortAll 13 (l.map dN)) = true
      rw [h4, Bool.and_true]
      exact decide_eq_true hs
    · show PyData.weight (dN d) + 1 + PyData.weightAll (l.map dN) ≤ 12 * (l.length + 1)
      have : PyData.weight (dN d) ≤ 11 := by
        show (if ((d : Int) == 0) = true then 0 else (d : Int).natAbs.log2 + 1) ≤ 11
        split <;> omega
      omega
theorem dp_nums' {K : PySem.W.Frag} {H : Hp} : ∀ l : List Nat, DpAll K H (l.map vN) (l.map dN)
  | [] => .nil
  | d :: l => .cons (.int _) (dp_nums' l)
/-- repr of a list of small numbers -/
theorem repr_nums {K : PySem.W.Frag} {H : Hp} {a : Addr} {l : List Nat} {Q : VK} (h : SqL K H a (l.map vN)) (hs : ∀ d ∈ l, d < 1024) (hl : l.length ≤ 5000) (q : Q (.str (PyData.list (l.map dN)).shown) H) : rReprD K [.ref a] H Q := by
  obtain ⟨h1, h2, h3, h4, h5⟩ := nums_data l hs
  refine ⟨_, .list (l.map dN), rfl, .lst h (dp_nums' l), ?_, ?_, ?_, ?_, q⟩
  · exact h1
  · exact h2
  · show PyData.depthAll (l.map dN) + 1 ≤ 60
    omega
  · have := PyData.shown_le 13 (by decide) (.list (l.map dN)) h4
    have hw : PyData.weight (.list (l.map dN)) = PyData.weightAll (l.map dN) := by simp only [PyData.weight]
    rw [hw] at this
    rw [sizeLine_eq]
    omega
theorem repr_int {K : PySem.W.Frag} {H : Hp} {i : Int} {Q : VK} (h : i.natAbs.log2 < 1920) (q : Q (.str (PyData.int i).shown) H) : rReprD K [.int i] H Q := by
  refine ⟨_, .int i, rfl, .int i, ?_, ?_, ?_, ?_, q⟩
  · simpa [PyData.showable] using h
  · simp [PyData.hasDict]
  · simp [PyData.depth]
  · rw [PyData.shown_int]
    exact int_text_fits h
theorem seq_but {K : PySem.W.Frag} {H H1 H' : Hp} {a p : Addr} {xs : List V} (h : SqL K H a xs) (np : H p = none) (s : Same H H1) (b : But p H1 H') : SqL K H' a xs := by
  rcases h with (h | ⟨o, h⟩) | h
  · exact .inl (.inl (b _ _ (ne_of_none h np) (s _ _ h)))
  · exact .inl (.inr ⟨o, b _ _ (ne_of_none h np) (s _ _ h)⟩)
  · exact .inr h
/-- range(max(1, n)) -/
theorem turns_le {n m : Nat} (h : n ≤ m) (h1 : 1 ≤ m) : (if (n : Int) > 1 then (n : Int) else 1).toNat ≤ m := by
  split <;> omega
def Shows (d : PyData) : Prop := d.showable = true ∧ d.hasDict = false ∧ d.depth ≤ 60 ∧ d.shown.length ≤ sizeLine
theorem nums_ok {l : List Nat} (hs : ∀ d ∈ l, d < 1024) (hl : l.length ≤ 5000) : Shows (.list (l.map dN)) := by
  obtain ⟨h1, h2, h3, h4, h5⟩ := nums_data l hs
  refine ⟨h1, h2, ?_, ?_⟩
  · show PyData.depthAll (l.map dN) + 1 ≤ 60
    omega
  · have := PyData.shown_le 13 (by decide) (.list (l.map dN)) h4
    have hw : PyData.weight (.list (l.map dN)) = PyData.weightAll (l.map dN) := by simp only [PyData.weight]
    rw [hw] at this
    rw [sizeLine_eq]
    omega
theorem int_ok {i : Int} (h : i.natAbs.log2 < 1920) : Shows (.int i) := by
  refine ⟨?_, ?_, ?_, ?_⟩
  · simpa [PyData.showable] using h
  · simp [PyData.hasDict]
  · simp [PyData.depth]
  · rw [PyData.shown_int]
    exact int_text_fits h
/-- what is new since H1 may change -/
theorem But.mut {p f : Addr} {H H1 H2 : Hp} {o : HO} (a : But p H H1) (n : H1 f = none) (b : But p H1 H2) : But p H (upd H2 f o) := fun c u hc h => by
  have h1 := a c u hc h
  rw [upd_ne (ne_of_none h1 n)]
  exact b c u hc h1
theorem BagAt.mut {H H1 : Hp} {p f : Addr} {n : Nat} {o : HO} (b : BagAt H p n) (nf : H f = none) (s : Same H H1) : BagAt (upd H1 f o) p n := by
  obtain ⟨d, z, k, e, r⟩ := b
  exact ⟨d, z, k, by rw [upd_ne (ne_of_none e nf)]; exact s _ _ e, r⟩
theorem But.free {p q : Addr} {H H' : Hp} (b : But p H H') (n : H' q = none) (ne : q ≠ p) : H q = none := by
  cases z : H q with
  | none => rfl
  | some o =>
    rw [b q o ne z] at n
    cases n
end Sb
namespace Sb
open PySem PySem.Spec PyProof.Rows L2
/-- a conditional expression that may make objects -/
theorem tIf_all {c : TT} {ta tb : TE} {σ : L2.St} {H : Hp} {Q : VK} (R : V → Hp → Prop) (go : ∀ Q' : VK, (∀ v H', R v H' → Q' v H') → tIf c ta tb σ H Q') (k : ∀ v H', R v H' → Q v H') : tIf c ta tb σ H Q := go Q k
end Sb

set_option Elab.async false
set_option linter.all false
set_option maxRecDepth 100000
set_option maxHeartbeats 2000000
namespace Sb
open PySem PySem.Spec PyProof.Rows L2

/-! ### errors with one field, whose __init__ sets it -/
def spInit (K : PySem.W.Frag) (f : Str) : Sp := fun vs H Q _ => ∃ (a C : Addr) (v : V), vs = [.ref a, v] ∧ OexC K C ∧ PySem.W.findIn K (.ref C) f = some none ∧ H a = some (exo a C none) ∧
  ∀ dx, H dx = none → dx ≠ a → Q .non (upd (upd H dx (exd dx [(f, v)])) a (exo a C (some dx)))
/-- what is asked of such a class for isinstance -/
structure IsC (K : PySem.W.Frag) (D : Addr) : Prop where
  cl : (PySem.W.clsIn K D).isSome = true
  ga : PySem.W.findIn K (.ref D) "__getattribute__" = some (some (.builtin "BaseException.__getattribute__"))
  gg : PySem.W.findIn K (.ref D) "__getattr__" = some none
  ex : PySem.W.subIn K (.ref D) (.type "BaseException") = some true
  cc : PySem.W.findIn K (.ref D) "__class__" = some (some (.builtin "object.__class__"))
  ge : PySem.W.specialIn K (.builtin "object.__class__") "__get__" = some (some (.builtin "getset_descriptor.__get__"))
  tk : PySem.W.takesIn K (.builtin "object.__class__") = some true
  ob : PySem.W.mroIn K D (.type "object") = some true
/-- the class x of the program, at C, with the field f -/
structure Err (P : Program) (w : World) (K : PySem.W.Frag) (mg : Str → Option Value) (base : Heap) (x f : Str) (C : Addr) : Prop where
  g : mg x = some (.ref C)
  T : OexC K C
  X : XfC K C
  I : IsC K C
  no : PySem.W.findIn K (.ref C) f = some none
  maker : ∃ fI fd, PySem.W.findIn K (.ref C) "__init__" = some (some (.ref fI)) ∧ PySem.W.typeIn K (.ref fI) = some (.type "function") ∧ FnOk P w K mg base CX0 1 fI fd ["self", f] (spInit K f) ∧ Binds K fd ["self", f] []
section
variable {X : Cx} {x f : Str} {C : Addr} {e : Expr} {es : List Expr} {ta : TA} {p pos : Pos}
theorem pmk_err (R : Err X.prog X.w X.K X.mg X.base x f C) (room : Room 2 X.A) (hg : Gl X x) (ha : PA X (e :: es) ta)
    (hdb : (x == ("__debug__" : Str)) = false := by decide) (he : starEach (e :: es) X.env = (false, eval e X.env) :: starEach es X.env := by rfl) (hpl : (backTo pos (starEach es X.env)).any (·.1) = false := by rfl) :
    PMk X (.Call (.Name x p) (e :: es) [] pos) (tMkO C (spInit X.K f) [] ta) := by
  obtain ⟨fI, fd, h1, h2, h3, h4⟩ := R.maker
  exact pmk_oex R.T h1 h2 h3 room h4 .nil pass0 hg R.g ha hdb he hpl
end
theorem err_made {K : PySem.W.Frag} {C : Addr} {f : Str} {v : V} {H : Hp} {R : XK} (T : OexC K C) (no : PySem.W.findIn K (.ref C) f = some none) (k : ∀ d H', H d = none → Same H H' → H' d = some (.xd [(f, v)]) → R (.ref C) (some d) H') :
    ([v] : List V).length ≤ 1000 ∧ ∀ a, H a = none → spInit K f (.ref a :: ([v] ++ [])) (upd H a (exo a C none)) (fun u H2 => u = .non ∧ ∃ (d : Addr) (fs : List (Str × V)), H2 a = some (exo a C (some d)) ∧ H2 d = some (exd d fs) ∧ H d = none ∧
      R (.ref C) (some d) (upd (del H2 a) d (.xd fs))) (fun _ _ _ => False) := by
  refine ⟨Nat.le_trans (Nat.le_refl 1) (by decide), fun a na => ⟨a, C, v, rfl, T, no, upd_same, fun dx nd ne => ⟨rfl, dx, [(f, v)], upd_same, ?_, ?_, ?_⟩⟩⟩
  · rw [upd_ne ne, upd_same]
  · rw [upd_ne ne] at nd
    exact nd
  · rw [upd_ne ne] at nd
    refine k dx _ nd ?_ upd_same
    intro b o z
    have hb : b ≠ a := ne_of_none z na
    have hd : b ≠ dx := ne_of_none z nd
    rw [upd_ne hd, del_ne hb, upd_ne hb, upd_ne hd, upd_ne hb]
    exact z

/-! the __init__ of such a class, as it stands in the text -/
section
variable {P : Program} {w : World} {K : PySem.W.Frag} {mg : Str → Option Value} {base : Heap}
theorem ok_initBy {q : Str} {st : Stmt} {f : Addr} {fd : FuncData} {fld : Str} (F : Fun K "__init__" q st f fd) (S : FnScope ["self", fld] ["self", fld] (defScope st))
    (body : ∀ (cdv : Value) (A : Around) (outer : List Env) (s : Shared) (H : Hp) (E : XK), PSs (cxOf CX0 P w K mg base ["self", fld] q (defScope st) f cdv A outer s H E).nox (defBody st) (tOst K fld (tVar 0) (tVar 1))) :
    FnOk P w K mg base CX0 1 f fd ["self", fld] (spInit K fld) := by
  refine F.ok S (fun vs H Q E h => ?_) (fun cdv A outer s H vs Q E hr h => ?_)
  · obtain ⟨a, C, v, rfl, _⟩ := h
    rfl
  · obtain ⟨a, C, v, rfl, T, no, ha, k⟩ := h
    exact ⟨_, body cdv A outer s H E, _, rfl, _, rfl, a, C, rfl, T, no, .inl ⟨ha, fun dx n ne => k dx n ne⟩⟩
end

/-! ### isinstance of the caught error -/
def rIsX (K : PySem.W.Frag) (cls : Value) (d : Option Addr) (a : Addr) : List V → Hp → VK → Prop := fun xs H Q =>
  ∃ (D dd : Addr) (fs : List (Str × V)) (c : V) (cv : Value) (b : Bool), xs = [.ref a, c] ∧ cls = .ref D ∧ IsC K D ∧ d = some dd ∧ H dd = some (.xd fs) ∧ (∀ u, RelV c u → u = cv) ∧ PySem.W.kitOne K (.ref D) cv = some b ∧ Q (.bl b) H
theorem call_isX {X : Cx} {a : Addr} {cls : Value} {d : Option Addr} {oe : Obj} {pn : List (Addr × Obj)} (hz : Zc cls d oe) (hf : ∃ vs, oe.data = .fields vs) : CallR (X.suite a ((a, oe) :: pn)) (.builtin "isinstance") (rIsX X.K cls d a) := by
  intro pins s σ H xs us Q I r h
  obtain ⟨D, dd, fs, c, cv, b, rfl, rfl, T, rfl, hd, rc, e, q⟩ := h
  obtain ⟨u1, u2, rfl, r1, r2⟩ := vals2 r
  cases (show u1 = Value.ref a from r1)
  cases rc _ r2
  obtain ⟨here, _⟩ := I.pin (a, oe) (List.mem_append.mpr (.inl List.mem_cons_self))
  obtain ⟨vs, hv⟩ := hf
  obtain ⟨mA, hns, _⟩ := (show ObjOk X.prog X.w H s.heap dd (.xd fs) from I.hok dd _ hd)
  obtain ⟨od, ho, _⟩ := lookIn_ns hns
  have J : PySem.W.InstAt s.heap a oe D (some od) := ⟨here, hz.1, by unfold PySem.W.notCls; rw [hv] <;> rfl, by rw [hz.2]; exact ho⟩
  exact PySem.W.kia_one (PySem.W.kitx_exc T.cl T.ga T.gg T.ex T.cc T.ge T.tk T.ob) I.kIn J e (fun z => nomatch z) fun tk => ⟨.bl b, H, I.tok tk, rfl, q⟩

/-! ### calls whose errors are wished for at the caller's slots -/
section
variable {X : Cx} {CX : CXT} {k : Nat} {f : Addr} {fd : FuncData} {ps : List Str} {sp : Sp} {ds : List Value} {dvs : List V} {E : L2.St → XK} {x : Str} {p pos : Pos} {e : Expr} {es : List Expr} {t : TA}
def tToldS (sp : Sp) (dvs : List V) (E : L2.St → XK) (t : TA) : TE := fun σ H Q => t σ H fun vs H1 => sp (vs ++ dvs) H1 Q (E σ)
theorem pe_toldS (T : Told X.prog X.w X.K X.mg X.base CX k f fd ps sp) (clr : Clr X.A) (room : Room k X.A) (hg : Gl X x) (hm : X.mg x = some (.ref f)) (hk : PySem.W.keepIn X.K (.ref f) = true)
    (hb : Binds X.K fd ps ds) (hd : Vals dvs ds) (pass : ∀ σ, PassesAt CX X σ (E σ)) (ha : PA X (e :: es) t) (hdb : (x == ("__debug__" : Str)) = false := by decide)
    (he : starEach (e :: es) X.env = (false, eval e X.env) :: starEach es X.env := by rfl) (hpl : (backTo pos (starEach es X.env)).any (·.1) = false := by rfl) :
    PE X (.Call (.Name x p) (e :: es) [] pos) (tToldS sp dvs E t) := by
  constructor
  intro pins s σ H Q I want
  apply wpAny_Call_Name_kw
  refine ld_glob I hg hm ?_ hdb
  apply PySem.W.callWith_K (h₀ := X.base) I.ok.mod.kin hk ?_ he hpl
  refine thn (ha.run pos pins s σ H _ I want) ?_
  intro us s1 got
  obtain ⟨vs, H1, I1, r, say⟩ := got
  refine ⟨I1.kIn, wpAny_call ?_⟩
  have rr := r.append hd
  have many : (us ++ ds).length = ps.length := rr.length.symm.trans (T.arity say)
  refine codeAny_mono (T.go clr room I1.env0 (hb s1 us I1.kIn many) rr say) ?_
  intro res s2 h
  match res, h with
  | .error er, h => exact pass σ pins H1 s1 er s2 I1 h
  | .ok (.ret u), h => exact I1.after h
  | .ok .next, h => exact h.elim
  | .ok .brk, h => exact h.elim
  | .ok .cont, h => exact h.elim
end

theorem call_reprDs {X : Cx} {a : Addr} {pn : List (Addr × Obj)} (clr : Clr X.A) (hu : X.A.units + 64 < cLine) : CallR (X.suite a pn) (.builtin "repr") (rReprD X.K) := call_reprD (X := X.suite a pn) clr hu

/-! ### isinstance by classes of the program -/
theorem cls_some {K : PySem.W.Frag} {C : Addr} (h : PySem.W.hasDictIn K C = true) : (PySem.W.clsIn K C).isSome = true := by
  obtain ⟨cd, hc, _⟩ := PySem.W.any_some h
  rw [hc]
  rfl
theorem kit_own {K : PySem.W.Frag} {D C : Addr} {b : Bool} (ne : b = false → D ≠ C) (cl : (PySem.W.clsIn K C).isSome = true) (ty : PySem.W.typeIn K (.ref C) = some (.type "type")) (s : PySem.W.subIn K (.ref D) (.ref C) = some b) : PySem.W.kitOne K (.ref D) (.ref C) = some b := by
  have e2 : ((PySem.W.clsIn K C).isSome && PySem.W.typeIn K (.ref C) == some (.type "type")) = true := by rw [cl, ty] <;> rfl
  have e3 : PySem.W.kitCls K (.ref D) (.ref C) = some b := by
    show (if ((PySem.W.clsIn K C).isSome && PySem.W.typeIn K (.ref C) == some (.type "type")) = true then PySem.W.subIn K (.ref D) (.ref C) else none) = some b
    rw [if_pos e2]
    exact s
  unfold PySem.W.kitOne
  by_cases h : (Value.ref D == Value.ref C) = true
  · rw [if_pos h]
    have e : D = C := Value.ref.inj (beq_iff_eq.mp h)
    cases b with
    | true => rfl
    | false => exact absurd e (ne rfl)
  · rw [if_neg h]
    exact e3
theorem kit_type {K : PySem.W.Frag} {D : Addr} {T : String} {b : Bool} (m : PySem.W.kitMeta T = true) (s : PySem.W.subIn K (.ref D) (.type T) = some b) : PySem.W.kitOne K (.ref D) (.type T) = some b := by
  have h : ¬ (Value.ref D == Value.type T) = true := fun z => nomatch (beq_iff_eq.mp z)
  unfold PySem.W.kitOne
  rw [if_neg h]
  show (if PySem.W.kitMeta T = true then PySem.W.subIn K (.ref D) (.type T) else none) = some b
  rw [if_pos m]
  exact s
theorem ne_sub {K : PySem.W.Frag} {D C : Addr} (h1 : PySem.W.subIn K (.ref D) (.ref D) = some true) (h2 : PySem.W.subIn K (.ref D) (.ref C) = some false) : D ≠ C := fun e => by
  rw [← e, h1] at h2
  cases h2
/-- what an except clause asks of a class S of the program -/
theorem exm_own {K : PySem.W.Frag} {D S : Addr} {b : Bool} (h1 : PySem.W.subIn K (.ref S) (.type "BaseException") = some true) (h2 : PySem.W.hasDictIn K S = true) (h3 : PySem.W.typeIn K (.ref S) = some (.type "type")) (h4 : PySem.W.subIn K (.ref D) (.ref S) = some b) :
    PySem.W.exmOne K (.ref D) (.ref S) = some b := by
  have e1 : (PySem.W.subIn K (.ref S) (.type "BaseException") == some true) = true := by rw [h1] <;> rfl
  have e2 : ((PySem.W.clsIn K S).isSome && PySem.W.typeIn K (.ref S) == some (.type "type")) = true := by rw [cls_some h2, h3] <;> rfl
  show (if (PySem.W.subIn K (.ref S) (.type "BaseException") == some true) = true then (if ((PySem.W.clsIn K S).isSome && PySem.W.typeIn K (.ref S) == some (.type "type")) = true then PySem.W.subIn K (.ref D) (.ref S) else none) else none) = some b
  rw [if_pos e1, if_pos e2]
  exact h4
theorem relV_ref {C : Addr} : ∀ u, RelV (.ref C) u → u = .ref C := fun _ h => h
theorem relV_ty {T : String} : ∀ u, RelV (.ty T) u → u = .type T := fun _ h => h
end Sb
namespace Sb
open PySem PySem.Spec PyProof.Rows L2
theorem seqT {K : PySem.W.Frag} {H H' : Hp} {a : Addr} {xs : List V} (e : Same H H') (h : SqT K H a xs) : SqT K H' a xs := by
  rcases h with (h | ⟨o, h⟩) | h
  · exact .inl (.inl (e _ _ h))
  · exact .inl (.inr ⟨o, e _ _ h⟩)
  · exact .inr h
mutual
theorem dpSame {K : PySem.W.Frag} {H H' : Hp} (s : Same H H') : ∀ {v : V} {d : PyData}, Dp K H v d → Dp K H' v d
  | _, _, .non => .non
  | _, _, .bl b => .bl b
  | _, _, .int i => .int i
  | _, _, .str x => .str x
  | _, _, .lst a b => .lst (s.seq a) (dpSameAll s b)
  | _, _, .tup a b => .tup (seqT s a) (dpSameAll s b)
theorem dpSameAll {K : PySem.W.Frag} {H H' : Hp} (s : Same H H') : ∀ {vs : List V} {ds : List PyData}, DpAll K H vs ds → DpAll K H' vs ds
  | _, _, .nil => .nil
  | _, _, .cons a b => .cons (dpSame s a) (dpSameAll s b)
end
end Sb
namespace Sb
open PySem PySem.Spec PyProof.Rows L2
theorem shows_of {d : PyData} (h1 : d.showable = true) (h2 : d.hasDict = false) (h3 : d.depth ≤ 60) (h4 : PyData.leavesShort 1921 d = true) (h5 : d.weight ≤ 8000) : Shows d := by
  refine ⟨h1, h2, h3, ?_⟩
  have := PyData.shown_le 1921 (by decide) d h4
  rw [sizeLine_eq]
  have : (1921 + 2) * d.weight ≤ 1923 * 8000 := Nat.mul_le_mul_left _ h5
  omega
theorem log_of {i : Int} (h : i.natAbs < 2 ^ 1900) : i.natAbs.log2 < 1900 := by
  by_cases e : i.natAbs = 0
  · rw [e]
    decide
  · exact (Nat.log2_lt e).mpr h
theorem int_okB {i : Int} (h : i.natAbs < 2 ^ 1900) : Shows (.int i) := int_ok (Nat.lt_trans (log_of h) (by decide))
theorem one_data {i : Int} (h : i.natAbs < 2 ^ 1900) : PyData.showableAll [.int i] = true ∧ PyData.hasDictAll [.int i] = false ∧ PyData.depthAll [.int i] ≤ 1 ∧ PyData.leavesShortAll 1921 [.int i] = true ∧ PyData.weightAll [.int i] ≤ 2000 := by
  have l := log_of h
  refine ⟨?_, ?_, ?_, ?_, ?_⟩
  · show (decide (i.natAbs.log2 < 1920) && true) = true
    rw [decide_eq_true (show i.natAbs.log2 < 1920 by omega)]
    rfl
  · rfl
  · simp [PyData.depthAll, PyData.depth]
  · show (decide ((PyData.shown (.int i)).length ≤ 1921) && true) = true
    rw [PyData.shown_int, decide_eq_true (int_text_len_1921 (show i.natAbs.log2 < 1920 by omega))]
    rfl
  · show (if (i == 0) = true then 0 else i.natAbs.log2 + 1) + 1 + 0 ≤ 2000
    split <;> omega
theorem list1_ok {i : Int} (h : i.natAbs < 2 ^ 1900) : Shows (.list [.int i]) := by
  obtain ⟨h1, h2, h3, h4, h5⟩ := one_data h
  exact shows_of h1 h2 (show PyData.depthAll [.int i] + 1 ≤ 60 by omega) h4 (show PyData.weightAll [.int i] ≤ 8000 by omega)
theorem tup1_ok {i : Int} (h : i.natAbs < 2 ^ 1900) : Shows (.tuple [.int i]) := by
  obtain ⟨h1, h2, h3, h4, h5⟩ := one_data h
  exact shows_of h1 h2 (show PyData.depthAll [.int i] + 1 ≤ 60 by omega) h4 (show PyData.weightAll [.int i] ≤ 8000 by omega)
theorem bool_ok (b : Bool) : Shows (.bool b) := by cases b <;> exact ⟨by decide, by decide, by decide, by decide +kernel⟩
theorem none_ok : Shows .none := ⟨by decide, by decide, by decide, by decide +kernel⟩
theorem nil_ok : Shows (.list []) := ⟨by decide, by decide, by decide, by decide +kernel⟩
theorem unit_ok : Shows (.tuple []) := ⟨by decide, by decide, by decide, by decide +kernel⟩
end Sb

set_option Elab.async false
set_option linter.all false
set_option maxRecDepth 100000
set_option maxHeartbeats 4000000
namespace Sb
open PySem PySem.Spec PyProof.Rows L2
/-! ### try with several clauses, each with a name -/
/-- behind a suite its name is gone -/
def bare (i : Nat) (D : Ends) : Ends := { nx := fun σ H => D.nx (σ.set i none) H, rt := D.rt, bk := fun σ H => D.bk (σ.set i none) H, ct := fun σ H => D.ct (σ.set i none) H }
abbrev Suite := Addr → Value → Option Addr → TS
def wClauses (K : PySem.W.Frag) (Wout : WX) (D : Ends) : List (Value × Nat × Suite) → WX
  | [] => Wout
  | (c, i, ts) :: rest => fun cls d σ H => ∃ b, PySem.W.exmOne K cls c = some b ∧ (b = true → ∀ a, H a = none → ts a cls d (bare i D) (σ.set i (some (.ref a))) H) ∧ (b = false → wClauses K Wout D rest cls d σ H)
inductive Clauses (X : Cx) : List ExceptHandler → List (Value × Nat × Suite) → Prop
  | nil : Clauses X [] []
  | cons {x n : Str} {c : Value} {i : Nat} {ts : Suite} {st : Stmt} {sts : List Stmt} {p1 p2 : Pos} {hs : List ExceptHandler} {l : List (Value × Nat × Suite)} (slot : X.N[i]? = some n) (loc : X.env.kindOf n = some .local) (cls : Names X x c)
      (run : ∀ (a : Addr) (oe : Obj) (cls : Value) (d : Option Addr) (pn : List (Addr × Obj)), Zc cls d oe → (∃ vs, oe.data = .fields vs) → PSs (X.suite a ((a, oe) :: pn)) (st :: sts) (ts a cls d)) (more : Clauses X hs l) :
      Clauses X (.ExceptHandler (some (.Name x p1)) (some n) (st :: sts) p2 :: hs) ((c, i, ts) :: l)
section
variable {X : Cx} {body : List Stmt} {h₀ : ExceptHandler} {hs : List ExceptHandler} {l : List (Value × Nat × Suite)} {pos : Pos} {tb : WX → TS} {Wout : WX}
theorem ps_try_clauses (stk : X.stack = X.env :: X.outer) (frm : X.env.frame = some X.env.locals) (nd : X.N.Nodup) (out : Takes X Wout) (cl : Clauses X (h₀ :: hs) l)
    (inner : ∀ (W : WX) (pn : List (Addr × Obj)) (xe : Value → Shared → Prop), Takes (X.tr pn xe) W → PassesOwn (model X.prog X.w) X.A X.env xe → PSs (X.tr pn xe) body (tb W)) :
    PS X (.Try body (h₀ :: hs) [] [] pos) (fun D σ H => tb (wClauses X.K Wout D l) D σ H) := by
  constructor
  intro pins s σ H D inv want
  have ok := inv.ok
  have frames : X.A.frames = some (X.env :: X.outer) := ok.frames.trans (congrArg some stk)
  apply wpAny_Try_except
  let caught : Value → Shared → Prop := fun e s₁ => wpAny (model X.prog X.w) X.A (noteFrame e X.env) (fun _ s₂ => wpAny (model X.prog X.w) X.A (setFlight e none) (fun _ s₃ => wpAny (model X.prog X.w) X.A (handleBy e X.env (h₀ :: hs)) (SP X pins D) X.xe s₃) X.xe s₂) X.xe s₁
  have land : Takes (X.tr (X.pn ++ pins) caught) (wClauses X.K Wout D l) := by
    intro u s' air
    obtain ⟨a, B, sI, pins', σ', H', cls, d, rfl, inv0, ground, up, sky, fresh, os, gens, wish⟩ := air
    have invI : Inv X pins σ' H' sI := inv0.ofTry ok
    show wpAny (model X.prog X.w) X.A (noteFrame (.ref a) X.env) _ _ _
    refine Sky.land Zc.steady frames frm (show Sky B (X.env :: X.outer) a (Zc cls d) X.env.locals s'.heap from stk ▸ sky) ?_
    intro h3 flying up3
    have inv3 : Inv X pins σ' H' { s' with heap := h3 } := invI.landed ground flying.1 (up.trans up3) os gens
    obtain ⟨oe, fs, here, zc, recd⟩ := flying.there
    have notFrame : a ∉ frs (X.env :: X.outer) := fun mem => by
      obtain ⟨_, o, ho, no⟩ := flying.2.2.1.mem mem
      rw [here] at ho
      cases ho
      exact no _ recd
    have notLocals : a ≠ X.env.locals := fun e => notFrame (List.mem_filterMap.mpr ⟨X.env, List.mem_cons_self, by rw [frm, e]⟩)
    have notOuter : a ∉ X.fs := fun mem => by
      obtain ⟨env, hm, q⟩ := List.mem_filterMap.mp mem
      exact notFrame (List.mem_filterMap.mpr ⟨env, List.mem_cons_of_mem _ hm, q⟩)
    have invS := inv3.suite here recd fresh notLocals notOuter
    have typ : PySem.W.Looks (model X.prog X.w) h3 (typeOf (.ref a)) cls := by
      intro A Q E s k q
      refine wpAny_typeOf_ref (k _ _ here) ?_
      rw [zc.1]
      exact q
    suffices each : ∀ {hs' : List ExceptHandler} {l' : List (Value × Nat × Suite)}, Clauses X hs' l' → wClauses X.K Wout D l' cls d σ' H' → wpAny (model X.prog X.w) X.A (handleBy (.ref a) X.env hs') (SP X pins D) X.xe { s' with heap := h3 } from each cl wish
    intro hs' l' cl'
    induction cl' with
    | nil =>
      intro wOut
      apply wpAny_handleBy_nil
      obtain ⟨_, _, _, oe', fs', T, oT, ts', e1, _, e2, e3, _⟩ := id flying
      unfold PySem.passOn
      refine wpAny_bind (wpAny_field e1 e2 e3 ?_)
      rw [if_neg (by simp)]
      have gone : wpAny (model X.prog X.w) X.A (setFlight (.ref a) X.env.frame) (fun _ s4 => wpAny (model X.prog X.w) X.A (throw (.ref a) : Sem Flow) (SP X pins D) X.xe s4) X.xe { s' with heap := h3 } := by
        rw [frm]
        apply HandSPX.setFlight_upZ flying
        intro h4 held up4
        exact wpAny_throw (out _ _ ⟨a, B, sI, pins, σ', H', cls, d, rfl, invI, ground, (up.trans up3).trans up4, .inr (.inr (stk.symm ▸ held)), fresh, os, gens, wOut⟩)
      first
        | exact wpAny_bind (wpAny_pure (wpAny_bind gone))
        | exact wpAny_bind gone
    | @cons x n c i ts st sts p1 p2 hs2 l2 slot loc named run more ih =>
      intro w1
      obtain ⟨b, ans, yes, no⟩ := w1
      refine wpAny_handleBy_cons (codeAny_handlers_test ?_) (fun z => nomatch z)
      have looks := PySem.W.exm_one (M := model X.prog X.w) inv3.kIn typ ans
      have clsRead : ∀ {Q : Value → Shared → Prop} {E : Value → Shared → Prop}, Q c { s' with heap := h3 } → wpAny (model X.prog X.w) (X.A.mark (some (.ref a))) (eval (.Name x p1) X.env) Q E { s' with heap := h3 } := by
        intro Q E q
        obtain ⟨hg, hdb, h | ⟨h, hv, hn⟩⟩ := named
        · exact ld_glob (X := X.suite a ((a, oe) :: (X.pn ++ pins))) invS hg h q hdb
        · exact ld_blt (X := X.suite a ((a, oe) :: (X.pn ++ pins))) invS hg h hv q hn hdb
      refine clsRead (looks.here ?_)
      match b, ans, yes, no with
      | false, _, _, no => exact ih (no rfl)
      | true, _, yes, _ =>
        apply codeAny_handlers_suite_as
        apply HandSPX.lands_againZ flying
        intro h4 fl4 up4
        have inv4 : Inv X pins σ' H' { s' with heap := h4 } := invI.landed ground fl4.1 ((up.trans up3).trans up4) os gens
        obtain ⟨oe4, fs4, here4, zc4, rec4⟩ := fl4.there
        have invS4 := inv4.suite here4 rec4 fresh notLocals notOuter
        refine store_ok (X := X.suite a ((a, oe4) :: (X.pn ++ pins))) (v := .ref a) invS4 nd slot (.inl loc) rfl (fun s5 inv5 => ?_) (.inr loc)
        refine wpAny_mono ((run a oe4 cls d (X.pn ++ pins) zc4 ⟨_, rec4⟩).run [] s5 _ H' _ inv5 (yes rfl a fresh)) ?_ (fun _ _ z => z.elim)
        intro fl s6 done
        have unname : ∀ {σ6 : L2.St} {H6 : Hp} {Q : Shared → Prop}, Inv (X.suite a ((a, oe4) :: (X.pn ++ pins))) [] σ6 H6 s6 → (∀ s7, Inv X pins (σ6.set i none) H6 s7 → Q s7) →
            wpAny (model X.prog X.w) X.A (do bindName X.env n .none; unbindBehindTheSuite X.env n p2) (fun _ s7 => Q s7) X.xe s6 := fun S6 q => gone_ok (S6.unsuite ok) nd slot loc q
        match fl, done with
        | .next, done => exact let ⟨_, _, S6, q6⟩ := done; unname S6 fun s7 J7 => ⟨_, _, J7, q6⟩
        | .brk, done => exact let ⟨_, _, S6, q6⟩ := done; unname S6 fun s7 J7 => ⟨_, _, J7, q6⟩
        | .cont, done => exact let ⟨_, _, S6, q6⟩ := done; unname S6 fun s7 J7 => ⟨_, _, J7, q6⟩
        | .ret u, done => exact let ⟨_, _, _, S6, r6, q6⟩ := done; unname S6 fun s7 J7 => ⟨_, _, _, J7, r6, q6⟩
  refine wpAny_mono ((inner _ (X.pn ++ pins) caught land PassesOwn.looking).run [] s σ H D (inv.toTry _) want) ?_ (fun _ _ z => z)
  intro fl s1 done
  match fl, done with
  | .next, done => exact let ⟨_, _, J, q⟩ := done; wpAny_execs_nil ⟨_, _, J.ofTry ok, q⟩
  | .brk, done => exact let ⟨_, _, J, q⟩ := done; ⟨_, _, J.ofTry ok, q⟩
  | .cont, done => exact let ⟨_, _, J, q⟩ := done; ⟨_, _, J.ofTry ok, q⟩
  | .ret u, done => exact let ⟨_, _, _, J, r, q⟩ := done; ⟨_, _, _, J.ofTry ok, r, q⟩
end
end Sb

set_option Elab.async false
set_option linter.all false
set_option maxRecDepth 100000
set_option maxHeartbeats 4000000
namespace Sb
open PySem PySem.Spec PyProof.Rows L2
/-! ### the order of lists of numbers -/
def lexN : List Nat → List Nat → Bool
  | [], [] => false
  | [], _ :: _ => true
  | _ :: _, [] => false
  | x :: xs, y :: ys => if x = y then lexN xs ys else decide (x < y)
theorem lexN_cons (x y : Nat) (xs ys : List Nat) : lexN (x :: xs) (y :: ys) = if x = y then lexN xs ys else decide (x < y) := rfl
theorem getD_mid (pre xs : List Nat) (x : Nat) : (pre ++ x :: xs).getD pre.length 0 = x := by
  rw [List.getD_eq_getElem?_getD, List.getElem?_append_right (Nat.le_refl _), Nat.sub_self]
  rfl
theorem first_lex : ∀ (l m p q : List Nat), p.length = q.length →
    SeqAt.firstLt (fun j => ((((p ++ l).getD j 0 : Nat) : Int) == (((q ++ m).getD j 0 : Nat) : Int))) (fun j => decide ((((p ++ l).getD j 0 : Nat) : Int) < (((q ++ m).getD j 0 : Nat) : Int))) (decide (l.length < m.length)) (List.range' p.length (min l.length m.length)) = lexN l m
  | [], [], p, q, h => rfl
  | [], y :: ys, p, q, h => by
    rw [show min ([] : List Nat).length (y :: ys).length = 0 by simp, List.range'_zero]
    show decide _ = true
    simp
  | x :: xs, [], p, q, h => by
    rw [show min (x :: xs).length ([] : List Nat).length = 0 by simp, List.range'_zero]
    show decide _ = false
    simp
  | x :: xs, y :: ys, p, q, h => by
    have e1 : min (x :: xs).length (y :: ys).length = min xs.length ys.length + 1 := by
      simp only [List.length_cons]
      omega
    rw [e1, List.range'_succ, lexN_cons]
    have g1 := getD_mid p xs x
    have g2 := getD_mid q ys y
    rw [← h] at g2
    by_cases c : x = y
    · rw [SeqAt.firstLt_yes (by rw [g1, g2, c]; exact beq_self_eq_true _), if_pos c]
      have ih := first_lex xs ys (p ++ [x]) (q ++ [y]) (by simp [h])
      rw [List.append_assoc, List.append_assoc, List.length_append] at ih
      have ed : decide ((x :: xs).length < (y :: ys).length) = decide (xs.length < ys.length) := by simp
      rw [ed]
      exact ih
    · rw [SeqAt.firstLt_no (by rw [g1, g2]; exact beq_eq_false_iff_ne.mpr (fun z => c (by omega))), if_neg c, g1, g2]
      simp
theorem valsN {l : List Nat} {its : List Value} (r : Vals (l.map vN) its) (j : Nat) (h : j < its.length) : ∃ t, its[j]? = some (.int ((l.getD j 0 : Nat) : Int) t) := by
  have hl : its.length = l.length := by
    have := r.length
    rw [List.length_map] at this
    exact this.symm
  have hj : (l.map vN)[j]? = some (vN (l.getD j 0)) := by
    rw [List.getElem?_map, List.getElem?_eq_getElem (by omega), List.getD_eq_getElem?_getD, List.getElem?_eq_getElem (by omega)]
    rfl
  obtain ⟨u, hu, t, rfl⟩ := r.get hj
  exact ⟨t, hu⟩
def rLtN (K : PySem.W.Frag) : R2 := fun x y H Q => ∃ (a b : Addr) (l m : List Nat), x = .ref a ∧ y = .ref b ∧ SqL K H a (l.map vN) ∧ SqL K H b (m.map vN) ∧ Q (.bl (lexN l m)) H
theorem op_ltN {X : Cx} (hu : X.A.units + 64 < cLine) : OpR X (compareOp .Lt) (rLtN X.K) := by
  intro pins s σ H x y v u Q I rx ry h
  obtain ⟨a, b, l, m, rfl, rfl, ha, hb, q⟩ := h
  cases rx
  cases ry
  obtain ⟨its, r1, p1, _⟩ := I.list ha
  obtain ⟨its2, r2, p2, _⟩ := I.list hb
  have n1 : its.toArray.size = l.length := by
    have := r1.length
    rw [List.length_map] at this
    rw [List.size_toArray]
    exact this.symm
  have n2 : its2.toArray.size = m.length := by
    have := r2.length
    rw [List.length_map] at this
    rw [List.size_toArray]
    exact this.symm
  have main := SeqAt.RcLt.lists (A := X.A) (s := s) (e := fun j => (((([] ++ l).getD j 0 : Nat) : Int) == ((([] ++ m).getD j 0 : Nat) : Int))) (r := fun j => decide (((([] ++ l).getD j 0 : Nat) : Int) < ((([] ++ m).getD j 0 : Nat) : Int))) p1.isList p2.isList (by omega) ?_ ?_
  · rw [n1, n2, List.range_eq_range'] at main
    rw [show SeqAt.firstLt _ _ (decide (l.length < m.length)) (List.range' 0 (min l.length m.length)) = lexN l m from first_lex l m [] [] rfl] at main
    exact main X.prog X.w _ _ ⟨.bl (lexN l m), H, I, rfl, q⟩
  · intro j h1 h2
    obtain ⟨t, e1⟩ := valsN r1 j (by rw [List.size_toArray] at h1; exact h1)
    obtain ⟨t2, e2⟩ := valsN r2 j (by rw [List.size_toArray] at h2; exact h2)
    have f1 : its.toArray[j] = .int ((l.getD j 0 : Nat) : Int) t := by
      rw [List.getElem_toArray]
      exact Option.some.inj ((List.getElem?_eq_getElem _).symm.trans e1)
    have f2 : its2.toArray[j] = .int ((m.getD j 0 : Nat) : Int) t2 := by
      rw [List.getElem_toArray]
      exact Option.some.inj ((List.getElem?_eq_getElem _).symm.trans e2)
    rw [f1, f2]
    exact SeqAt.EqAt.int_int _ _ _ _
  · intro j h1 h2 _
    obtain ⟨t, e1⟩ := valsN r1 j (by rw [List.size_toArray] at h1; exact h1)
    obtain ⟨t2, e2⟩ := valsN r2 j (by rw [List.size_toArray] at h2; exact h2)
    have f1 : its.toArray[j] = .int ((l.getD j 0 : Nat) : Int) t := by
      rw [List.getElem_toArray]
      exact Option.some.inj ((List.getElem?_eq_getElem _).symm.trans e1)
    have f2 : its2.toArray[j] = .int ((m.getD j 0 : Nat) : Int) t2 := by
      rw [List.getElem_toArray]
      exact Option.some.inj ((List.getElem?_eq_getElem _).symm.trans e2)
    rw [f1, f2]
    exact fun prog w E Q h => HT.rcLt_int _ _ _ _ _ _ prog w E Q h
theorem lexN_irr : ∀ l : List Nat, lexN l l = false
  | [] => rfl
  | x :: l => by rw [lexN_cons, if_pos rfl, lexN_irr l]
/-! ### codes in their order -/
def valN : List Nat → Nat
  | [] => 0
  | x :: xs => x * 256 ^ xs.length + valN xs
theorem valN_lt : ∀ l : List Nat, (∀ d ∈ l, d < 256) → valN l < 256 ^ l.length
  | [], _ => by decide
  | x :: xs, h => by
    have h1 := valN_lt xs fun d hd => h d (List.mem_cons_of_mem _ hd)
    have h2 := h x List.mem_cons_self
    have h3 : (x + 1) * 256 ^ xs.length ≤ 256 * 256 ^ xs.length := Nat.mul_le_mul_right _ (by omega)
    show x * 256 ^ xs.length + valN xs < 256 ^ (xs.length + 1)
    rw [Nat.pow_succ, Nat.mul_comm (256 ^ xs.length) 256]
    rw [Nat.add_mul] at h3
    omega
theorem valN_snoc : ∀ (l : List Nat) (d : Nat), valN (l ++ [d]) = valN l * 256 + d
  | [], d => by
    show d * 256 ^ 0 + 0 = 0 * 256 + d
    omega
  | x :: xs, d => by
    show x * 256 ^ (xs ++ [d]).length + valN (xs ++ [d]) = (x * 256 ^ xs.length + valN xs) * 256 + d
    rw [valN_snoc xs d, List.length_append, List.length_singleton, Nat.pow_succ, Nat.add_mul, Nat.mul_assoc]
    omega
theorem valN_digs : ∀ n : Nat, valN (digs n) = n := by
  intro n
  induction n using Nat.strongRecOn with
  | _ n ih =>
    by_cases h : n = 0
    · rw [h, digs_zero]
      rfl
    · rw [digs_pos h, valN_snoc, ih (n / 256) (by omega)]
      omega
theorem lexN_val : ∀ (l m : List Nat), l.length = m.length → (∀ d ∈ l, d < 256) → (∀ d ∈ m, d < 256) → lexN l m = decide (valN l < valN m)
  | [], [], _, _, _ => rfl
  | [], _ :: _, h, _, _ => by cases h
  | _ :: _, [], h, _, _ => by cases h
  | x :: xs, y :: ys, h, h1, h2 => by
    have hl : xs.length = ys.length := Nat.succ.inj h
    have v1 := valN_lt xs fun d hd => h1 d (List.mem_cons_of_mem _ hd)
    have v2 := valN_lt ys fun d hd => h2 d (List.mem_cons_of_mem _ hd)
    rw [lexN_cons]
    show _ = decide (x * 256 ^ xs.length + valN xs < y * 256 ^ ys.length + valN ys)
    rw [← hl] at v2 ⊢
    by_cases c : x = y
    · rw [if_pos c, lexN_val xs ys hl (fun d hd => h1 d (List.mem_cons_of_mem _ hd)) (fun d hd => h2 d (List.mem_cons_of_mem _ hd)), c]
      by_cases z : valN xs < valN ys
      · rw [decide_eq_true z, decide_eq_true (by omega)]
      · rw [decide_eq_false z, decide_eq_false (by omega)]
    · rw [if_neg c]
      by_cases z : x < y
      · have : (x + 1) * 256 ^ xs.length ≤ y * 256 ^ xs.length := Nat.mul_le_mul_right _ z
        rw [Nat.add_mul] at this
        rw [decide_eq_true z, decide_eq_true (by omega)]
      · have : (y + 1) * 256 ^ xs.length ≤ x * 256 ^ xs.length := Nat.mul_le_mul_right _ (by omega)
        rw [Nat.add_mul] at this
        rw [decide_eq_false z, decide_eq_false (by omega)]
theorem digs_ge : ∀ n : Nat, n ≠ 0 → 256 ^ ((digs n).length - 1) ≤ n := by
  intro n
  induction n using Nat.strongRecOn with
  | _ n ih =>
    intro h
    rw [digs_pos h, List.length_append, List.length_singleton, Nat.add_sub_cancel]
    by_cases z : n / 256 = 0
    · rw [z, digs_zero]
      show 1 ≤ n
      omega
    · have := ih (n / 256) (by omega) z
      have h1 : 1 ≤ (digs (n / 256)).length := by
        rw [digs_pos z, List.length_append]
        exact Nat.le_add_left _ _
      have e : (digs (n / 256)).length = (digs (n / 256)).length - 1 + 1 := by omega
      rw [e, Nat.pow_succ]
      omega
theorem digs_ne {n : Nat} (h : n ≠ 0) : 1 ≤ (digs n).length := by
  rw [digs_pos h, List.length_append]
  exact Nat.le_add_left _ _
theorem digs_len_lt {m n : Nat} (hn : n ≠ 0) (h : (digs m).length < (digs n).length) : m < n := by
  have h1 := valN_lt (digs m) (digs_lt m)
  rw [valN_digs] at h1
  have h2 := digs_ge n hn
  have h3 : (256 : Nat) ^ (digs m).length ≤ 256 ^ ((digs n).length - 1) := Nat.pow_le_pow_right (by decide) (by omega)
  omega
theorem lex_code (m n : Nat) : lexN (codeN m) (codeN n) = decide (m < n) := by
  by_cases c1 : m < 192
  · rw [codeN_small c1]
    by_cases c2 : n < 192
    · rw [codeN_small c2, lexN_cons]
      by_cases e : m = n
      · rw [if_pos e, decide_eq_false (by omega)]
        rfl
      · rw [if_neg e]
    · rw [codeN_big c2, lexN_cons]
      have := digs_ne (n := n) (by omega)
      rw [if_neg (by omega), decide_eq_true (show m < 191 + (digs n).length by omega), decide_eq_true (by omega)]
  · rw [codeN_big c1]
    by_cases c2 : n < 192
    · rw [codeN_small c2, lexN_cons]
      have := digs_ne (n := m) (by omega)
      rw [if_neg (by omega), decide_eq_false (by omega), decide_eq_false (by omega)]
    · rw [codeN_big c2, lexN_cons]
      by_cases e : (digs m).length = (digs n).length
      · rw [if_pos (by omega), lexN_val _ _ e (digs_lt m) (digs_lt n), valN_digs, valN_digs]
      · rw [if_neg (by omega)]
        by_cases z : (digs m).length < (digs n).length
        · rw [decide_eq_true (by omega), decide_eq_true (digs_len_lt (by omega) z)]
        · have := digs_len_lt (m := n) (n := m) (by omega) (by omega)
          rw [decide_eq_false (by omega), decide_eq_false (by omega)]
theorem code_inj {m n : Nat} (h : codeN m = codeN n) : m = n := by
  have h1 := lex_code m n
  have h2 := lex_code n m
  rw [h, lexN_irr] at h1 h2
  have a := of_decide_eq_false h1.symm
  have b := of_decide_eq_false h2.symm
  omega
theorem code_free {m n : Nat} (h : codeN m = (codeN n).take (codeN m).length) : m = n := by
  by_cases c1 : m < 192
  · rw [codeN_small c1] at h
    by_cases c2 : n < 192
    · rw [codeN_small c2] at h
      exact List.cons.inj h |>.1
    · rw [codeN_big c2] at h
      have := (List.cons.inj h).1
      have := digs_ne (n := n) (by omega)
      omega
  · have e1 := codeN_big c1
    by_cases c2 : n < 192
    · rw [codeN_small c2, e1] at h
      have := (List.cons.inj h).1
      have := digs_ne (n := m) (by omega)
      omega
    · have e2 := codeN_big c2
      have hl : (codeN m).length = (codeN n).length := by
        rw [e1, e2] at h
        have h0 := (List.cons.inj h).1
        rw [e1, e2, List.length_cons, List.length_cons]
        omega
      rw [hl, List.take_length] at h
      exact code_inj h
theorem eqv_nums : ∀ l m : List Nat, PyData.eqvAll (l.map dN) (m.map dN) = decide (l = m)
  | [], [] => rfl
  | [], _ :: _ => rfl
  | _ :: _, [] => rfl
  | x :: xs, y :: ys => by
    show ((((x : Int) == (y : Int)) && PyData.eqvAll (xs.map dN) (ys.map dN))) = decide (x :: xs = y :: ys)
    rw [eqv_nums xs ys]
    by_cases c : x = y
    · subst c
      by_cases d : xs = ys
      · subst d
        simp
      · simp [d]
    · have : ((x : Int) == (y : Int)) = false := beq_eq_false_iff_ne.mpr (fun z => c (by omega))
      rw [this]
      simp [c]
end Sb
namespace Sb
open PySem PySem.Spec PyProof.Rows L2
theorem call_list_ofT {X : Cx} {pn : List (Addr × Obj)} {xe : Value → Shared → Prop} : CallR (X.tr pn xe) (.type "list") (fun xs H Q => ∃ p ys, xs = [.ref p] ∧ (SqL X.K H p ys ∨ SqT X.K H p ys) ∧ ∀ l, H l = none → Q (.ref l) (upd H l (.lst ys))) := call_list_of (X := X.tr pn xe)
end Sb
namespace Sb
open PySem PySem.Spec PyProof.Rows L2
/-- a statement, then the rest, by what holds between them -/
theorem seq_all {t1 t2 : TS} {D : Ends} {σ : L2.St} {H : Hp} (W : L2.St → Hp → Prop) (go : ∀ W' : L2.St → Hp → Prop, (∀ σ' H', W σ' H' → W' σ' H') → t1 { D with nx := W' } σ H) (k : ∀ σ' H', W σ' H' → t2 D σ' H') : tSeq t1 t2 D σ H := go _ k
theorem cut_take (l : List Nat) (k : Nat) : cutV (l.map vN) none (some (k : Int)) = (l.take k).map vN := by
  unfold cutV
  rw [HT.sIx_none, HT.sIx_nat, List.drop_zero, Nat.sub_zero, List.length_map, List.map_take]
  by_cases h : k ≤ l.length
  · rw [Nat.min_eq_left h]
  · rw [Nat.min_eq_right (by omega), List.take_of_length_le (by rw [List.length_map]; exact Nat.le_refl _), List.take_of_length_le (by rw [List.length_map]; omega)]
end Sb
namespace Sb
open PySem PySem.Spec PyProof.Rows L2
section
variable {X : Cx} {s : Shared} {H : Hp} {scope : Scope} {cenv : Env} {fp : List Addr}
theorem sl_listB : SlR (X.blk s H scope cenv fp) (rSlL X.K) := sl_list (X := X.blk s H scope cenv fp)
theorem ix_listB : IxR (X.blk s H scope cenv fp) (rIxL X.K) := ix_list (X := X.blk s H scope cenv fp)
theorem ix_tupB : IxR (X.blk s H scope cenv fp) (rIxT X.K) := ix_tup (X := X.blk s H scope cenv fp)
theorem call_len_seqB : CallR (X.blk s H scope cenv fp) (.builtin "len") (fun xs H Q => ∃ p ys, xs = [.ref p] ∧ (SqL X.K H p ys ∨ SqT X.K H p ys) ∧ Q (.int ys.length) H) := call_len_seq (X := X.blk s H scope cenv fp)
end
end Sb

set_option Elab.async false
set_option linter.all false
set_option maxRecDepth 100000
set_option maxHeartbeats 4000000
namespace Sb
open PySem PySem.Spec PyProof.Rows L2

/-! ### errors with one field as values -/
/-- an error object that is kept: of the class at C, with its own dict at d -/
def kept (a C d : Addr) : HO := .ext fun h => ∃ (oe : Obj) (fs : Array Value), h.get? a = some oe ∧ Zc (.ref C) (some d) oe ∧ oe.data = .fields fs
theorem kept_ok {P : Program} {w : World} {H : Hp} {h : Heap} {a C d : Addr} {oe : Obj} {fs : Array Value} (here : h.get? a = some oe) (cd : Zc (.ref C) (some d) oe) (data : oe.data = .fields fs) : ObjOk P w H h a (kept a C d) := by
  refine ⟨⟨oe, fs, here, cd, data⟩, ⟨oe, here⟩, ?_⟩
  rintro h1 h2 ⟨o, g, there, rest⟩ stays
  exact ⟨o, g, stays o there, rest⟩
/-- x is an error of the class at C whose field f holds v -/
def ErrV (C : Addr) (f : Str) (v x : V) (H : Hp) : Prop := ∃ a d : Addr, x = .ref a ∧ H a = some (kept a C d) ∧ H d = some (.xd [(f, v)])
theorem ErrV.same {C : Addr} {f : Str} {v x : V} {H H' : Hp} (e : ErrV C f v x H) (s : Same H H') : ErrV C f v x H' := by
  obtain ⟨a, d, h1, h2, h3⟩ := e
  exact ⟨a, d, h1, s _ _ h2, s _ _ h3⟩
/-- such an error as it lies -/
theorem ErrV.lies {X : Cx} {pins : List (Addr × Obj)} {σ : L2.St} {H : Hp} {s : Shared} {C : Addr} {f : Str} {v x : V} {u : Value} (I : Inv X pins σ H s) (e : ErrV C f v x H) (r : RelV x u) :
    ∃ (a : Addr) (oe od : Obj) (z : Value), u = .ref a ∧ PySem.W.InstAt s.heap a oe C (some od) ∧ PySem.W.lookIn f od = some (some z) ∧ RelV v z := by
  obtain ⟨a, d, rfl, ha, hd⟩ := e
  obtain ⟨⟨oe, fs, here, cd, data⟩, _⟩ := (show ObjOk X.prog X.w H s.heap a (.ext _) from I.hok a _ ha)
  obtain ⟨m, names, field⟩ := (show ObjOk X.prog X.w H s.heap d (.xd _) from I.hok d _ hd)
  obtain ⟨od, inHeap, look⟩ := lookIn_ns names
  have at_f := field f
  have first : ([(f, v)] : List (Str × V)).lookup f = some v := by simp [List.lookup]
  rw [first] at at_f
  obtain ⟨z, found, rz⟩ := at_f.some_of
  refine ⟨a, oe, od, z, r, ⟨here, cd.1, ?_, ?_⟩, (look f).trans (congrArg some found), rz⟩
  · unfold PySem.W.notCls
    rw [data] <;> rfl
  · rw [cd.2]
    exact inHeap
def Errs : List (Addr × Str) → V → List V → Hp → Prop
  | [], _, [], _ => True
  | p :: l, v, x :: xs, H => ErrV p.1 p.2 v x H ∧ Errs l v xs H
  | _, _, _, _ => False
theorem Errs.same {v : V} {H H' : Hp} (s : Same H H') : ∀ {l : List (Addr × Str)} {xs : List V}, Errs l v xs H → Errs l v xs H'
  | [], [], _ => trivial
  | _ :: _, _ :: _, h => ⟨h.1.same s, Errs.same s h.2⟩
  | [], _ :: _, h => h.elim
  | _ :: _, [], h => h.elim
theorem Errs.nil {v : V} {H : Hp} : ∀ {xs : List V}, Errs [] v xs H → xs = []
  | [], _ => rfl
  | _ :: _, h => h.elim
theorem Errs.cons {p : Addr × Str} {l : List (Addr × Str)} {v : V} {H : Hp} : ∀ {xs : List V}, Errs (p :: l) v xs H → ∃ x xs', xs = x :: xs' ∧ ErrV p.1 p.2 v x H ∧ Errs l v xs' H
  | [], h => h.elim
  | x :: xs, h => ⟨x, xs, rfl, h.1, h.2⟩
theorem Errs.len {v : V} {H : Hp} : ∀ {l : List (Addr × Str)} {xs : List V}, Errs l v xs H → xs.length = l.length
  | [], [], _ => rfl
  | _ :: _, _ :: _, h => congrArg (· + 1) (Errs.len h.2)
  | [], _ :: _, h => h.elim
  | _ :: _, [], h => h.elim
theorem Errs.get {v : V} {H : Hp} : ∀ {l : List (Addr × Str)} {xs : List V} {i : Nat}, Errs l v xs H → i < l.length → ∃ C f x, (l.map Prod.fst)[i]? = some C ∧ xs[i]? = some x ∧ ErrV C f v x H
  | p :: _, x :: _, 0, h, _ => ⟨p.1, p.2, x, rfl, rfl, h.1⟩
  | _ :: l, _ :: xs, i + 1, h, hi => by
    obtain ⟨C, f, x, h1, h2, h3⟩ := Errs.get (l := l) (xs := xs) (i := i) h.2 (Nat.lt_of_succ_lt_succ hi)
    exact ⟨C, f, x, h1, h2, h3⟩
  | [], [], _, _, hi => absurd hi (Nat.not_lt_zero _)
  | [], _ :: _, _, h, _ => h.elim
  | _ :: _, [], _, h, _ => h.elim

/-! ### such an error made, read, asked for its class -/
/-- what would be raised is kept instead -/
def tKept (t : L2.St → Hp → XK → Prop) : TE := fun σ H Q => t σ H fun cls d H1 => ∃ C dd : Addr, cls = .ref C ∧ d = some dd ∧ ∀ a, H1 a = none → Q (.ref a) (upd H1 a (kept a C dd))
theorem pe_kept {X : Cx} {e : Expr} {t : L2.St → Hp → XK → Prop} (made : PMk X e t) : PE X e (tKept t) := by
  constructor
  intro pins s σ H Q I want
  refine wpAny_mono (made pins s σ H _ I want) (fun u s1 got => ?_) fun _ _ z => z
  obtain ⟨a, oe, fs, sI, H1, _, _, rfl, J, keeps, new, here, cd, data, _, free, os, bare, _, C, dd, rfl, rfl, go⟩ := got
  have lies := kept_ok (P := X.prog) (w := X.w) (H := upd H1 a (kept a C dd)) here cd data
  exact ⟨.ref a, _, J.call' (ch := []) os (Un.laidN keeps new free) (J.hok.laidN keeps free lies) bare (fun _ z => absurd z List.not_mem_nil), rfl, go a free⟩
/-- what follows from what is wished -/
def tUp (te : TE) : TE := fun σ H Q => ∃ W : VK, te σ H W ∧ ∀ v H1, W v H1 → Q v H1
theorem pe_up {X : Cx} {e : Expr} {te : TE} (h : PE X e te) : PE X e (tUp te) := by
  constructor
  rintro pins s σ H Q I ⟨W, want, so⟩
  refine wpAny_mono (h.run pins s σ H W I want) ?_ fun _ _ z => z
  rintro u s1 ⟨v, H1, J, r, q⟩
  exact ⟨v, H1, J, r, so v H1 q⟩
/-- a call of the class -/
def tMkV (C : Addr) (f : Str) (te : TE) : TE := fun σ H Q => te σ H fun v H1 => ∀ x H', Same H1 H' → ErrV C f v x H' → Q x H'
theorem err_kept {K : PySem.W.Frag} {C : Addr} {f : Str} {v : V} {H : Hp} {Q : VK} (T : OexC K C) (no : PySem.W.findIn K (.ref C) f = some none) (k : ∀ x H', Same H H' → ErrV C f v x H' → Q x H') :
    ([v] : List V).length ≤ 1000 ∧ ∀ a, H a = none → spInit K f (.ref a :: ([v] ++ [])) (upd H a (exo a C none)) (fun u H2 => u = .non ∧ ∃ (d : Addr) (fs : List (Str × V)), H2 a = some (exo a C (some d)) ∧ H2 d = some (exd d fs) ∧ H d = none ∧
      ∃ C' dd : Addr, Value.ref C = .ref C' ∧ some d = some dd ∧ ∀ b, (upd (del H2 a) d (.xd fs)) b = none → Q (.ref b) (upd (upd (del H2 a) d (.xd fs)) b (kept b C' dd))) (fun _ _ _ => False) :=
  err_made (R := fun cls d H1 => ∃ C' dd : Addr, cls = .ref C' ∧ d = some dd ∧ ∀ b, H1 b = none → Q (.ref b) (upd H1 b (kept b C' dd))) T no fun d H1 _ sm at_d =>
    ⟨C, d, rfl, rfl, fun b nb => k _ _ (sm.trans (same_new nb)) ⟨b, d, rfl, upd_same, same_new nb _ _ at_d⟩⟩
theorem pe_mkv {X : Cx} {x f : Str} {C : Addr} {e : Expr} {te : TE} {p pos : Pos} (R : Err X.prog X.w X.K X.mg X.base x f C) (room : Room 2 X.A) (hg : Gl X x) (he : PE X e te)
    (hdb : (x == ("__debug__" : Str)) = false := by decide) (one : starEach [e] X.env = [(false, eval e X.env)] := by rfl) : PE X (.Call (.Name x p) [e] [] pos) (tMkV C f te) := by
  have made : PE X (.Call (.Name x p) [e] [] pos) (tKept (tMkO C (spInit X.K f) [] (tCons (tUp te) tNil))) := pe_kept (pmk_err R room hg (pa_cons (pe_up he) pa_nil (hs := one)) hdb one rfl)
  exact ⟨fun pins s σ H Q I want => made.run pins s σ H Q I ⟨_, want, fun v H1 k => err_kept R.T R.no k⟩⟩
/-- its field -/
def tXv (K : PySem.W.Frag) (n : Str) (te : TE) : TE := fun σ H Q => te σ H fun x H1 => ∃ (C : Addr) (v : V), ErrV C n v x H1 ∧ XfC K C ∧ PySem.W.findIn K (.ref C) n = some none ∧ Q v H1
theorem pe_xv {X : Cx} {e : Expr} {te : TE} {pos : Pos} {n : Str} (object : PE X e te) (plain : attributeBase e n X.env (eval e X.env) = eval e X.env := by rfl) : PE X (.Attribute e n pos) (tXv X.K n te) := by
  constructor
  intro pins s σ H Q I want
  apply attr_of plain
  refine thn (object.run pins s σ H _ I want) ?_
  rintro u s1 ⟨x, H1, I1, r, C, v, er, T, own, go⟩
  obtain ⟨a, oe, od, z, rfl, J, look, rz⟩ := er.lies I1 r
  have found := PySem.W.findObj_own (K := X.K) (attr := none) T.hdC own rfl look
  refine HandSPX.exc_get I1.kIn J T.ga T.gg T.exC found (handed_of rz) ?_
  exact ⟨v, H1, I1.tok _, rz, go⟩
/-- isinstance -/
def rIsV (K : PySem.W.Frag) : List V → Hp → VK → Prop := fun xs H Q =>
  ∃ (D : Addr) (f : Str) (v x c : V) (cv : Value) (b : Bool), xs = [x, c] ∧ ErrV D f v x H ∧ IsC K D ∧ (∀ u, RelV c u → u = cv) ∧ PySem.W.kitOne K (.ref D) cv = some b ∧ Q (.bl b) H
theorem call_isV {X : Cx} : CallR X (.builtin "isinstance") (rIsV X.K) := by
  rintro pins s σ H _ us Q I r ⟨D, f, v, x, c, cv, b, rfl, er, T, cls, answer, go⟩
  obtain ⟨y, z, rfl, ry, rz⟩ := vals2 r
  obtain rfl := cls z rz
  obtain ⟨a, oe, od, _, rfl, J, _, _⟩ := er.lies I ry
  have row := PySem.W.kitx_exc (x := a) (ox := oe) (od := some od) T.cl T.ga T.gg T.ex T.cc T.ge T.tk T.ob
  exact PySem.W.kia_one row I.kIn J answer (fun q => nomatch q) fun tk => ⟨.bl b, H, I.tok tk, rfl, go⟩

/-! ### the classes of such errors -/
def AllC (p : Addr → Prop) : List Addr → Prop
  | [] => True
  | c :: l => p c ∧ AllC p l
theorem AllC.mem {p : Addr → Prop} : ∀ {l : List Addr} {i : Nat} {c : Addr}, AllC p l → l[i]? = some c → p c
  | _ :: _, 0, _, h, e => by
    cases e
    exact h.1
  | _ :: l, i + 1, _, h, e => AllC.mem (l := l) (i := i) h.2 e
  | [], _, _, _, e => by cases e
def kindsB (K : PySem.W.Frag) (cs : List Addr) (S : Addr) : Bool := (List.range cs.length).all fun i => (List.range cs.length).all (fun j => decide (PySem.W.subIn K (.ref (cs.getD i 0)) (.ref (cs.getD j 0)) = some (decide (j = i)))) &&
  (decide (PySem.W.subIn K (.ref (cs.getD i 0)) (.ref S) = some true) && decide (PySem.W.subIn K (.ref (cs.getD i 0)) (.type "ValueError") = some true))
structure Kinds (K : PySem.W.Frag) (cs : List Addr) (S : Addr) : Prop where
  isc : AllC (IsC K) cs
  typ : AllC (fun C => PySem.W.typeIn K (.ref C) = some (.type "type")) cs
  sub : kindsB K cs S = true
  clS : PySem.W.hasDictIn K S = true
  tyS : PySem.W.typeIn K (.ref S) = some (.type "type")
section
variable {K : PySem.W.Frag} {cs : List Addr} {S : Addr}
theorem getD_of {i : Nat} {D : Addr} (h : cs[i]? = some D) : cs.getD i 0 = D := by
  rw [List.getD_eq_getElem?_getD, h]
  rfl
theorem lt_of_get {α : Type} {l : List α} {i : Nat} {D : α} (h : l[i]? = some D) : i < l.length := by
  rcases Nat.lt_or_ge i l.length with q | q
  · exact q
  · rw [List.getElem?_eq_none q] at h
    cases h
theorem Kinds.at (k : Kinds K cs S) {i : Nat} {D : Addr} (h : cs[i]? = some D) :
    (∀ j C, cs[j]? = some C → PySem.W.subIn K (.ref D) (.ref C) = some (decide (j = i))) ∧ PySem.W.subIn K (.ref D) (.ref S) = some true ∧ PySem.W.subIn K (.ref D) (.type "ValueError") = some true := by
  have a := List.all_eq_true.mp k.sub i (List.mem_range.mpr (lt_of_get h))
  obtain ⟨a1, a2⟩ := Bool.and_eq_true_iff.mp a
  obtain ⟨a3, a4⟩ := Bool.and_eq_true_iff.mp a2
  rw [getD_of h] at a3 a4
  refine ⟨fun j C hj => ?_, of_decide_eq_true a3, of_decide_eq_true a4⟩
  have b := of_decide_eq_true (List.all_eq_true.mp a1 j (List.mem_range.mpr (lt_of_get hj)))
  rw [getD_of h, getD_of hj] at b
  exact b
theorem Kinds.one (k : Kinds K cs S) {i j : Nat} {D C : Addr} (h : cs[i]? = some D) (hj : cs[j]? = some C) : PySem.W.kitOne K (.ref D) (.ref C) = some (decide (j = i)) := by
  have q := k.at h
  refine kit_own (fun z => ne_sub (K := K) ?_ ?_) (k.isc.mem hj).cl (k.typ.mem hj) (q.1 j C hj)
  · rw [q.1 i D h, decide_eq_true rfl]
  · rw [q.1 j C hj, z]
theorem Kinds.base (k : Kinds K cs S) {i : Nat} {D : Addr} (h : cs[i]? = some D) : PySem.W.kitOne K (.ref D) (.ref S) = some true := kit_own (fun z => nomatch z) (cls_some k.clS) k.tyS (k.at h).2.1
theorem Kinds.value (k : Kinds K cs S) {i : Nat} {D : Addr} (h : cs[i]? = some D) : PySem.W.kitOne K (.ref D) (.type "ValueError") = some true := kit_type (by decide +kernel) (k.at h).2.2
end

/-! ### sixteen times the same -/
def leafOk (d : PyData) : Prop := d.showable = true ∧ d.hasDict = false ∧ d.depth ≤ 50 ∧ PyData.leavesShort 1921 d = true ∧ d.weight ≤ 490
theorem rep16_ok {d : PyData} (h : leafOk d) : Shows (.list [d, d, d, d, d, d, d, d, d, d, d, d, d, d, d, d]) := by
  obtain ⟨h1, h2, h3, h4, h5⟩ := h
  refine shows_of ?_ ?_ ?_ ?_ ?_
  · simp [PyData.showable, PyData.showableAll, h1]
  · simp [PyData.hasDict, PyData.hasDictAll, h2]
  · simp [PyData.depth, PyData.depthAll]
    omega
  · simp [PyData.leavesShort, PyData.leavesShortAll, h4]
  · simp [PyData.weight, PyData.weightAll]
    omega
end Sb

set_option Elab.async false
set_option linter.all false
set_option maxRecDepth 100000
set_option maxHeartbeats 4000000
namespace Sb
open PySem PySem.Spec PyProof.Rows L2
def topS (i : Nat) : Stmt := PySem.Challenge.pw_shortestbytes_k15_errors_made.main.body.getD i (.Pass ⟨0, 0, 0, 0⟩)
section
variable {P : Program} {w : World} {K : PySem.W.Frag} {mg : Str → Option Value} {base : Heap}
def spBag (K : PySem.W.Frag) : Sp := fun vs H Q _ => ∃ (a : Addr) (ns : List Int) (i : Nat), vs = [.ref a, .int (i : Int)] ∧ SqL K H a (ns.map V.int) ∧ i ≤ 63 ∧
  ∀ p H', Same H H' → H p = none → BagAt H' p 0 → Q (.ref p) H'
abbrev s__law_bag : Stmt := topS 19
theorem sc__law_bag : FnScope ["_law_script", "_law_at", "_law_cell", "_law_digits"] ["_law_script", "_law_at"] (defScope s__law_bag) := ⟨rfl, rfl, rfl, by decide +kernel, rfl, by decide +kernel, by decide +kernel⟩
theorem ok__law_bag {f : Addr} {fd : FuncData} (F : Fun K "_law_bag" "_law_bag" s__law_bag f fd) (m_len : mg "len" = none) (m_abs : mg "abs" = none) (m_int : mg "int" = none) : Told P w K mg base CX0 1 f fd ["_law_script", "_law_at"] (spBag K) := by
  refine told F sc__law_bag (fun vs H Q E h => ?_) (fun cdv A outer s H vs Q E clr hr h => ?_)
  · obtain ⟨a, ns, i, rfl, hS, hi, k⟩ := h
    rfl
  · obtain ⟨a, ns, i, rfl, hS, hi, k⟩ := h
    refine ⟨_, (pss_cons (ps_set (i := 2) sc__law_bag.nd rfl (Or.inl rfl) (pe_ifExp (pt_cmpR op_lt (pv 1) (pe_callB call_len_seq (by rfl) m_len PySem.boot_len (pa_cons (pv 0) pa_nil)) (nomark _)) (pe_ix ix_list (pv 0) (pv 1) (fun _ _ => rfl)) pe_int))
    (pss_cons (ps_set (i := 3) sc__law_bag.nd rfl (Or.inl rfl) (pe_ifExp (pt_cmpR op_ge (pe_callB call_abs (by rfl) m_abs (by decide +kernel) (pa_cons (pv 2) pa_nil)) (pe_op op_pow pe_int pe_int) (nomark _)) (pe_callB call_abs (by rfl) m_abs (by decide +kernel) (pa_cons (pv 2) pa_nil)) pe_int))
    (pss_one (ps_ret (pe_lst (pa_cons (pv 3) (pa_cons (pe_op op_add (pe_op op_add (pe_op op_mod (pe_callTy call_int1 (by rfl) m_int (by decide +kernel) (pa_cons (pv 2) pa_nil)) pe_int) (pe_op op_mul pe_int (pv 1))) pe_int) (pa_cons pe_int pa_nil)))))))), ?_⟩
    refine if_val (fun v => ∃ c : Int, v = .int c) (fun Q' q' => ?_) ?_
    · refine ⟨_, rfl, _, rfl, a, _, rfl, .inl hS, _, _, rfl, rfl, _, rfl, ite2 (fun e => ?_) (fun _ => q' _ ⟨_, rfl⟩)⟩
      have hl : i < ns.length := by
        have := of_decide_eq_true e
        rw [List.length_map] at this
        omega
      refine ⟨_, rfl, _, rfl, a, _, _, .int ns[i], rfl, rfl, hS, atI_nat ?_, q' _ ⟨_, rfl⟩⟩
      rw [List.getElem?_map, List.getElem?_eq_getElem hl]
      rfl
    · rintro _ ⟨c, rfl⟩
      unfold gName
      dsimp only
      refine if_val (fun v => ∃ d : Int, v = .int d ∧ 0 ≤ d) (fun Q' q' => ?_) ?_
      · refine ⟨_, rfl, _, rfl, _, _, rfl, rfl, ⟨by decide, by decide, by decide⟩, _, _, rfl, rfl, _, rfl, ite2 (fun _ => ?_) (fun _ => q' _ ⟨_, rfl, Int.le_refl _⟩)⟩
        refine ⟨_, rfl, _, rfl, q' _ ⟨_, rfl, ?_⟩⟩
        split <;> omega
      · rintro _ ⟨d, rfl, hd⟩
        refine ⟨_, rfl, _, rfl, .inl ⟨_, rfl, _, _, rfl, rfl, (show (0 : Int) < 2147483629 by decide), _, rfl, _, _, rfl, rfl, .inl ⟨by decide, by decide⟩, _, _, rfl, rfl, _, _, rfl, rfl, sz (show 3 ≤ 1000000 by decide), fun p np => ?_⟩⟩
        refine k p _ (same_new np) np ⟨_, _, _, upd_same, hd, ?_, ?_, Int.le_refl _, Int.le_refl _⟩ <;> omega

def spTake : Sp := fun vs H Q _ => ∃ (p : Addr) (m n : Nat), vs = [.ref p, .int (m : Int)] ∧ BagAt H p n ∧ n ≤ 100000 ∧ 0 < m ∧ m < 1073741824 ∧
  ∀ (r : Nat) H', r < m → But p H H' → BagAt H' p (n + 1) → Q (.int (r : Int)) H'
abbrev s__law_take : Stmt := topS 20
theorem sc__law_take : FnScope ["_law_bag_here", "_law_many", "_law_digit", "_law_place", "_law_mixed"] ["_law_bag_here", "_law_many"] (defScope s__law_take) := ⟨rfl, rfl, rfl, by decide +kernel, rfl, by decide +kernel, by decide +kernel⟩
theorem ok__law_take {f : Addr} {fd : FuncData} (F : Fun K "_law_take" "_law_take" s__law_take f fd) (m_int : mg "int" = none) : Told P w K mg base CX0 1 f fd ["_law_bag_here", "_law_many"] spTake := by
  refine told F sc__law_take (fun vs H Q E h => ?_) (fun cdv A outer s H vs Q E clr hr h => ?_)
  · obtain ⟨p, m, n, rfl, hB, hn, hm0, hm1, k⟩ := h
    rfl
  · obtain ⟨p, m, n, rfl, hB, hn, hm0, hm1, k⟩ := h
    refine ⟨_, (pss_cons (ps_if (pt_cmpR op_gt (pe_ix ix_list (pv 0) pe_int (fun _ _ => rfl)) pe_int (nomark _))
    (pss_cons (ps_set (i := 2) sc__law_take.nd rfl (Or.inl rfl) (pe_op op_mod (pe_callTy call_int1 (by rfl) m_int (by decide +kernel) (pa_cons (pe_ix ix_list (pv 0) pe_int (fun _ _ => rfl)) pa_nil)) (pv 1)))
    (pss_cons (ps_asg (pe_op op_fdiv (pe_ix ix_list (pv 0) pe_int (fun _ _ => rfl)) (pv 1)) (pg_sub (pv 0) pe_int set_list))
    (pss_one (ps_ret (pv 2)))))
    pss_nil)
    (pss_cons (ps_asg (pe_op op_add (pe_ix ix_list (pv 0) pe_int (fun _ _ => rfl)) pe_int) (pg_sub (pv 0) pe_int set_list))
    (pss_cons (ps_set (i := 3) sc__law_take.nd rfl (Or.inl rfl) (pe_op op_add (pe_ix ix_list (pv 0) pe_int (fun _ _ => rfl)) (pe_op op_mul pe_int (pe_ix ix_list (pv 0) pe_int (fun _ _ => rfl)))))
    (pss_cons (ps_set (i := 4) sc__law_take.nd rfl (Or.inl rfl) (pe_op op_mod (pe_callTy call_int1 (by rfl) m_int (by decide +kernel) (pa_cons (pe_op op_add (pe_op op_pow (pv 3) pe_int) (pe_op op_mul pe_int (pe_ix ix_list (pv 0) pe_int (fun _ _ => rfl)))) pa_nil)) pe_int))
    (pss_cons (ps_set (i := 4) sc__law_take.nd rfl (Or.inl rfl) (pe_op op_mod (pe_callTy call_int1 (by rfl) m_int (by decide +kernel) (pa_cons (pe_op op_add (pe_op op_add (pe_op op_mul (pv 4) (pv 4)) (pe_op op_mul pe_int (pe_ix ix_list (pv 0) pe_int (fun _ _ => rfl)))) pe_int) pa_nil)) pe_int))
    (pss_one (ps_ret (pe_op op_mod (pe_callTy call_int1 (by rfl) m_int (by decide +kernel) (pa_cons (pe_op op_fdiv (pv 4) pe_int) pa_nil)) (pv 1))))))))), ?_⟩
    obtain ⟨d, s, c, hp, hd, hs, hs2, hc, hcn⟩ := hB
    have k' : ∀ (r : Int) H', 0 ≤ r → r < m → But p H H' → BagAt H' p (n + 1) → Q (.int r) H' := by
      intro r H' h0 h1 hb hB
      obtain ⟨j, rfl⟩ := Int.eq_ofNat_of_zero_le h0
      exact k j H' (by omega) hb hB
    have hm : (0 : Int) < m := by omega
    have at0 : ∀ x y z : V, atI [x, y, z] 0 = some x := fun _ _ _ => rfl
    have at1 : ∀ x y z : V, atI [x, y, z] 1 = some y := fun _ _ _ => rfl
    have at2 : ∀ x y z : V, atI [x, y, z] 2 = some z := fun _ _ _ => rfl
    refine ⟨_, rfl, p, _, _, _, rfl, rfl, seq_of hp, at0 _ _ _, _, _, rfl, rfl, _, rfl, ite2 (fun _ => ?_) (fun _ => ?_)⟩
    · refine ⟨_, rfl, p, _, _, _, rfl, rfl, seq_of hp, at0 _ _ _, .inl ⟨_, rfl, _, rfl, _, _, rfl, rfl, hm, ?_⟩⟩
      refine ⟨_, rfl, p, _, _, _, rfl, rfl, seq_of hp, at0 _ _ _, _, rfl, _, _, rfl, rfl, ⟨hm, by omega⟩, _, rfl, p, _, _, _, rfl, rfl, hp, rfl, _, rfl, ?_⟩
      refine k' _ _ (Int.emod_nonneg _ (by omega)) (Int.emod_lt_of_pos _ hm) But.put ⟨_, _, _, upd_same, Int.ediv_nonneg hd (by omega), hs, hs2, hc, by omega⟩
    · refine ⟨_, rfl, p, _, _, _, rfl, rfl, seq_of hp, at2 _ _ _, _, _, rfl, rfl, _, rfl, p, _, _, _, rfl, rfl, hp, rfl, ?_⟩
      have hp' : (upd H p (.lst [.int d, .int s, .int (c + 1)])) p = some (.lst [.int d, .int s, .int (c + 1)]) := upd_same
      refine ⟨_, rfl, p, _, _, _, rfl, rfl, seq_of hp', at1 _ _ _, _, rfl, p, _, _, _, rfl, rfl, seq_of hp', at2 _ _ _, _, _, rfl, rfl, .inl ⟨by decide, by decide⟩, _, _, rfl, rfl, ?_⟩
      have hpl : (s + 15485863 * (c + 1)).natAbs < 2 ^ 64 := by omega
      refine ⟨_, rfl, _, _, rfl, rfl, ⟨by decide, by decide, hpl⟩, _, rfl, p, _, _, _, rfl, rfl, seq_of hp', at2 _ _ _, _, _, rfl, rfl, .inl ⟨by decide, by decide⟩, _, _, rfl, rfl, .inl ⟨_, rfl, _, _, rfl, rfl, (show (0 : Int) < 2305843009213693951 by decide), ?_⟩⟩
      generalize (s + 15485863 * (c + 1)) ^ (3 : Int).toNat + 104729 * (c + 1) = y
      refine ⟨_, rfl, _, rfl, _, _, rfl, rfl, .inl ⟨by omega, by omega⟩, _, rfl, p, _, _, _, rfl, rfl, seq_of hp', at1 _ _ _, _, _, rfl, rfl, .inl ⟨by decide, by decide⟩, _, _, rfl, rfl, _, _, rfl, rfl, .inl ⟨_, rfl, _, _, rfl, rfl, (show (0 : Int) < 2305843009213693921 by decide), ?_⟩⟩
      refine ⟨_, rfl, _, _, rfl, rfl, ⟨by decide, by decide⟩, .inl ⟨_, rfl, _, rfl, _, _, rfl, rfl, hm, ?_⟩⟩
      exact k' _ _ (Int.emod_nonneg _ (by omega)) (Int.emod_lt_of_pos _ hm) But.put ⟨d, s, c + 1, hp', hd, hs, hs2, by omega, by omega⟩

def spOf (K : PySem.W.Frag) : Sp := fun vs H Q _ => ∃ (p l : Addr) (n : Nat) (xs : List V), vs = [.ref p, .ref l] ∧ BagAt H p n ∧ n ≤ 100000 ∧ SqL K H l xs ∧ l ≠ p ∧ 0 < xs.length ∧ xs.length ≤ 1000000 ∧
  ∀ (j : Nat) (v : V) H', xs[j]? = some v → But p H H' → BagAt H' p (n + 1) → Q v H'
abbrev s__law_of : Stmt := topS 21
theorem sc__law_of : FnScope ["_law_bag_here", "_law_some"] ["_law_bag_here", "_law_some"] (defScope s__law_of) := ⟨rfl, rfl, rfl, by decide +kernel, rfl, by decide +kernel, by decide +kernel⟩
theorem ok__law_of {f : Addr} {fd : FuncData} (F : Fun K "_law_of" "_law_of" s__law_of f fd) (m_len : mg "len" = none) {f__law_take : Addr} {fd__law_take : FuncData} (G__law_take : Told P w K mg base CX0 1 f__law_take fd__law_take ["_law_bag_here", "_law_many"] spTake) (b__law_take : Binds K fd__law_take ["_law_bag_here", "_law_many"] []) (g__law_take : mg "_law_take" = some (.ref f__law_take)) (k__law_take : PySem.W.keepIn K (.ref f__law_take) = true) : Told P w K mg base CX0 2 f fd ["_law_bag_here", "_law_some"] (spOf K) := by
  refine told F sc__law_of (fun vs H Q E h => ?_) (fun cdv A outer s H vs Q E clr hr h => ?_)
  · obtain ⟨p, l, n, xs, rfl, hB, hn, hS, hne, h0, h1, k⟩ := h
    rfl
  · obtain ⟨p, l, n, xs, rfl, hB, hn, hS, hne, h0, h1, k⟩ := h
    refine ⟨_, (pss_one (ps_ret (pe_ix ix_list (pv 1) (pe_told G__law_take clr (hr.mono (by decide)) (by rfl) g__law_take k__law_take b__law_take .nil pass0 (pa_cons (pv 0) (pa_cons (pe_callB call_len_seq (by rfl) m_len PySem.boot_len (pa_cons (pv 1) pa_nil)) pa_nil))) (fun _ _ => rfl)))), ?_⟩
    refine ⟨_, rfl, _, rfl, _, rfl, l, xs, rfl, .inl hS, p, xs.length, n, rfl, hB, hn, h0, by omega, fun r H' hr hb hB' => ?_⟩
    exact ⟨l, xs, _, xs[r], rfl, rfl, hb.seq hne hS, atI_nat (List.getElem?_eq_getElem hr), k r _ _ (List.getElem?_eq_getElem hr) hb hB'⟩

abbrev sI_BadNumber : Stmt := inClass (topS 2) 0
theorem okI_BadNumber {f : Addr} {fd : FuncData} (F : Fun K "__init__" "BadNumber.__init__" sI_BadNumber f fd) : FnOk P w K mg base CX0 1 f fd ["self", "number"] (spInit K "number") :=
  ok_initBy F ⟨rfl, rfl, rfl, by decide +kernel, rfl, by decide +kernel, by decide +kernel⟩ fun _ _ _ _ _ _ => pss_one (ps_ost (pv 0) (pv 1))
abbrev sI_BadValue : Stmt := inClass (topS 3) 0
theorem okI_BadValue {f : Addr} {fd : FuncData} (F : Fun K "__init__" "BadValue.__init__" sI_BadValue f fd) : FnOk P w K mg base CX0 1 f fd ["self", "path"] (spInit K "path") :=
  ok_initBy F ⟨rfl, rfl, rfl, by decide +kernel, rfl, by decide +kernel, by decide +kernel⟩ fun _ _ _ _ _ _ => pss_one (ps_ost (pv 0) (pv 1))
abbrev sI_WrongByte : Stmt := inClass (topS 4) 0
theorem okI_WrongByte {f : Addr} {fd : FuncData} (F : Fun K "__init__" "WrongByte.__init__" sI_WrongByte f fd) : FnOk P w K mg base CX0 1 f fd ["self", "at"] (spInit K "at") :=
  ok_initBy F ⟨rfl, rfl, rfl, by decide +kernel, rfl, by decide +kernel, by decide +kernel⟩ fun _ _ _ _ _ _ => pss_one (ps_ost (pv 0) (pv 1))
abbrev sI_Unfinished : Stmt := inClass (topS 5) 0
theorem okI_Unfinished {f : Addr} {fd : FuncData} (F : Fun K "__init__" "Unfinished.__init__" sI_Unfinished f fd) : FnOk P w K mg base CX0 1 f fd ["self", "at"] (spInit K "at") :=
  ok_initBy F ⟨rfl, rfl, rfl, by decide +kernel, rfl, by decide +kernel, by decide +kernel⟩ fun _ _ _ _ _ _ => pss_one (ps_ost (pv 0) (pv 1))
abbrev sI_TooDeep : Stmt := inClass (topS 6) 0
theorem okI_TooDeep {f : Addr} {fd : FuncData} (F : Fun K "__init__" "TooDeep.__init__" sI_TooDeep f fd) : FnOk P w K mg base CX0 1 f fd ["self", "reached"] (spInit K "reached") :=
  ok_initBy F ⟨rfl, rfl, rfl, by decide +kernel, rfl, by decide +kernel, by decide +kernel⟩ fun _ _ _ _ _ _ => pss_one (ps_ost (pv 0) (pv 1))
abbrev sI_BadItem : Stmt := inClass (topS 7) 0
theorem okI_BadItem {f : Addr} {fd : FuncData} (F : Fun K "__init__" "BadItem.__init__" sI_BadItem f fd) : FnOk P w K mg base CX0 1 f fd ["self", "at"] (spInit K "at") :=
  ok_initBy F ⟨rfl, rfl, rfl, by decide +kernel, rfl, by decide +kernel, by decide +kernel⟩ fun _ _ _ _ _ _ => pss_one (ps_ost (pv 0) (pv 1))
abbrev sI_BadPath : Stmt := inClass (topS 8) 0
theorem okI_BadPath {f : Addr} {fd : FuncData} (F : Fun K "__init__" "BadPath.__init__" sI_BadPath f fd) : FnOk P w K mg base CX0 1 f fd ["self", "at"] (spInit K "at") :=
  ok_initBy F ⟨rfl, rfl, rfl, by decide +kernel, rfl, by decide +kernel, by decide +kernel⟩ fun _ _ _ _ _ _ => pss_one (ps_ost (pv 0) (pv 1))
abbrev sI_BadDeed : Stmt := inClass (topS 9) 0
theorem okI_BadDeed {f : Addr} {fd : FuncData} (F : Fun K "__init__" "BadDeed.__init__" sI_BadDeed f fd) : FnOk P w K mg base CX0 1 f fd ["self", "at"] (spInit K "at") :=
  ok_initBy F ⟨rfl, rfl, rfl, by decide +kernel, rfl, by decide +kernel, by decide +kernel⟩ fun _ _ _ _ _ _ => pss_one (ps_ost (pv 0) (pv 1))
abbrev sI_DuplicateKey : Stmt := inClass (topS 10) 0
theorem okI_DuplicateKey {f : Addr} {fd : FuncData} (F : Fun K "__init__" "DuplicateKey.__init__" sI_DuplicateKey f fd) : FnOk P w K mg base CX0 1 f fd ["self", "at"] (spInit K "at") :=
  ok_initBy F ⟨rfl, rfl, rfl, by decide +kernel, rfl, by decide +kernel, by decide +kernel⟩ fun _ _ _ _ _ _ => pss_one (ps_ost (pv 0) (pv 1))
abbrev sI_BadShape : Stmt := inClass (topS 11) 0
theorem okI_BadShape {f : Addr} {fd : FuncData} (F : Fun K "__init__" "BadShape.__init__" sI_BadShape f fd) : FnOk P w K mg base CX0 1 f fd ["self", "word"] (spInit K "word") :=
  ok_initBy F ⟨rfl, rfl, rfl, by decide +kernel, rfl, by decide +kernel, by decide +kernel⟩ fun _ _ _ _ _ _ => pss_one (ps_ost (pv 0) (pv 1))
abbrev sI_UnknownName : Stmt := inClass (topS 12) 0
theorem okI_UnknownName {f : Addr} {fd : FuncData} (F : Fun K "__init__" "UnknownName.__init__" sI_UnknownName f fd) : FnOk P w K mg base CX0 1 f fd ["self", "name"] (spInit K "name") :=
  ok_initBy F ⟨rfl, rfl, rfl, by decide +kernel, rfl, by decide +kernel, by decide +kernel⟩ fun _ _ _ _ _ _ => pss_one (ps_ost (pv 0) (pv 1))
abbrev sI_Circular : Stmt := inClass (topS 13) 0
theorem okI_Circular {f : Addr} {fd : FuncData} (F : Fun K "__init__" "Circular.__init__" sI_Circular f fd) : FnOk P w K mg base CX0 1 f fd ["self", "name"] (spInit K "name") :=
  ok_initBy F ⟨rfl, rfl, rfl, by decide +kernel, rfl, by decide +kernel, by decide +kernel⟩ fun _ _ _ _ _ _ => pss_one (ps_ost (pv 0) (pv 1))
abbrev sI_Ambiguous : Stmt := inClass (topS 14) 0
theorem okI_Ambiguous {f : Addr} {fd : FuncData} (F : Fun K "__init__" "Ambiguous.__init__" sI_Ambiguous f fd) : FnOk P w K mg base CX0 1 f fd ["self", "name"] (spInit K "name") :=
  ok_initBy F ⟨rfl, rfl, rfl, by decide +kernel, rfl, by decide +kernel, by decide +kernel⟩ fun _ _ _ _ _ _ => pss_one (ps_ost (pv 0) (pv 1))
abbrev sI_Barren : Stmt := inClass (topS 15) 0
theorem okI_Barren {f : Addr} {fd : FuncData} (F : Fun K "__init__" "Barren.__init__" sI_Barren f fd) : FnOk P w K mg base CX0 1 f fd ["self", "name"] (spInit K "name") :=
  ok_initBy F ⟨rfl, rfl, rfl, by decide +kernel, rfl, by decide +kernel, by decide +kernel⟩ fun _ _ _ _ _ _ => pss_one (ps_ost (pv 0) (pv 1))
abbrev sI_TooLong : Stmt := inClass (topS 16) 0
theorem okI_TooLong {f : Addr} {fd : FuncData} (F : Fun K "__init__" "TooLong.__init__" sI_TooLong f fd) : FnOk P w K mg base CX0 1 f fd ["self", "debt"] (spInit K "debt") :=
  ok_initBy F ⟨rfl, rfl, rfl, by decide +kernel, rfl, by decide +kernel, by decide +kernel⟩ fun _ _ _ _ _ _ => pss_one (ps_ost (pv 0) (pv 1))
abbrev sI_NoDocument : Stmt := inClass (topS 17) 0
theorem okI_NoDocument {f : Addr} {fd : FuncData} (F : Fun K "__init__" "NoDocument.__init__" sI_NoDocument f fd) : FnOk P w K mg base CX0 1 f fd ["self", "number"] (spInit K "number") :=
  ok_initBy F ⟨rfl, rfl, rfl, by decide +kernel, rfl, by decide +kernel, by decide +kernel⟩ fun _ _ _ _ _ _ => pss_one (ps_ost (pv 0) (pv 1))
theorem same_free {H H' : Hp} {p : Addr} (s : Same H H') (n : H' p = none) : H p = none := by
  cases h : H p with
  | none => rfl
  | some o =>
    rw [s _ _ h] at n
    cases n
def spMade (L : List (Addr × Str)) : Sp := fun vs H Q _ => ∃ v : V, vs = [v] ∧ ∀ q xs H', Same H H' → H q = none → H' q = some (.lst xs) → Errs L v xs H' → Q (.ref q) H'
abbrev s__law_made : Stmt := topS 22
theorem sc__law_made : FnScope ["_law_field", "_law_found"] ["_law_field"] (defScope s__law_made) := ⟨rfl, rfl, rfl, by decide +kernel, rfl, by decide +kernel, by decide +kernel⟩
theorem ok__law_made {f : Addr} {fd : FuncData} (F : Fun K "_law_made" "_law_made" s__law_made f fd) {c_BadItem : Addr} (E_BadItem : Err P w K mg base "BadItem" "at" c_BadItem) {c_TooDeep : Addr} (E_TooDeep : Err P w K mg base "TooDeep" "reached" c_TooDeep) {c_Unfinished : Addr} (E_Unfinished : Err P w K mg base "Unfinished" "at" c_Unfinished) {c_WrongByte : Addr} (E_WrongByte : Err P w K mg base "WrongByte" "at" c_WrongByte) {c_BadValue : Addr} (E_BadValue : Err P w K mg base "BadValue" "path" c_BadValue) {c_BadNumber : Addr} (E_BadNumber : Err P w K mg base "BadNumber" "number" c_BadNumber) {c_UnknownName : Addr} (E_UnknownName : Err P w K mg base "UnknownName" "name" c_UnknownName) {c_BadShape : Addr} (E_BadShape : Err P w K mg base "BadShape" "word" c_BadShape) {c_DuplicateKey : Addr} (E_DuplicateKey : Err P w K mg base "DuplicateKey" "at" c_DuplicateKey) {c_BadDeed : Addr} (E_BadDeed : Err P w K mg base "BadDeed" "at" c_BadDeed) {c_BadPath : Addr} (E_BadPath : Err P w K mg base "BadPath" "at" c_BadPath) {c_NoDocument : Addr} (E_NoDocument : Err P w K mg base "NoDocument" "number" c_NoDocument) {c_TooLong : Addr} (E_TooLong : Err P w K mg base "TooLong" "debt" c_TooLong) {c_Barren : Addr} (E_Barren : Err P w K mg base "Barren" "name" c_Barren) {c_Ambiguous : Addr} (E_Ambiguous : Err P w K mg base "Ambiguous" "name" c_Ambiguous) {c_Circular : Addr} (E_Circular : Err P w K mg base "Circular" "name" c_Circular) : Told P w K mg base CX0 3 f fd ["_law_field"] (spMade [(c_BadNumber, ("number" : Str)), (c_BadValue, ("path" : Str)), (c_WrongByte, ("at" : Str)), (c_Unfinished, ("at" : Str)), (c_TooDeep, ("reached" : Str)), (c_BadItem, ("at" : Str)), (c_BadPath, ("at" : Str)), (c_BadDeed, ("at" : Str)), (c_DuplicateKey, ("at" : Str)), (c_BadShape, ("word" : Str)), (c_UnknownName, ("name" : Str)), (c_Circular, ("name" : Str)), (c_Ambiguous, ("name" : Str)), (c_Barren, ("name" : Str)), (c_TooLong, ("debt" : Str)), (c_NoDocument, ("number" : Str))]) := by
  refine told F sc__law_made (fun vs H Q E h => ?_) (fun cdv A outer s H vs Q E clr hr h => ?_)
  · obtain ⟨v, rfl, k⟩ := h
    rfl
  · obtain ⟨v, rfl, k⟩ := h
    refine ⟨_, (pss_cons (ps_set (i := 1) sc__law_made.nd rfl (Or.inl rfl) (pe_lst (pa_cons (pe_mkv E_BadNumber (hr.mono (by decide)) (by rfl) (pv 0)) (pa_cons (pe_mkv E_BadValue (hr.mono (by decide)) (by rfl) (pv 0)) (pa_cons (pe_mkv E_WrongByte (hr.mono (by decide)) (by rfl) (pv 0)) (pa_cons (pe_mkv E_Unfinished (hr.mono (by decide)) (by rfl) (pv 0)) (pa_cons (pe_mkv E_TooDeep (hr.mono (by decide)) (by rfl) (pv 0)) (pa_cons (pe_mkv E_BadItem (hr.mono (by decide)) (by rfl) (pv 0)) pa_nil))))))))
    (pss_cons (ps_set (i := 1) sc__law_made.nd rfl (Or.inl rfl) (pe_op op_cat (pv 1) (pe_lst (pa_cons (pe_mkv E_BadPath (hr.mono (by decide)) (by rfl) (pv 0)) (pa_cons (pe_mkv E_BadDeed (hr.mono (by decide)) (by rfl) (pv 0)) (pa_cons (pe_mkv E_DuplicateKey (hr.mono (by decide)) (by rfl) (pv 0)) (pa_cons (pe_mkv E_BadShape (hr.mono (by decide)) (by rfl) (pv 0)) (pa_cons (pe_mkv E_UnknownName (hr.mono (by decide)) (by rfl) (pv 0)) pa_nil))))))))
    (pss_one (ps_ret (pe_op op_cat (pv 1) (pe_lst (pa_cons (pe_mkv E_Circular (hr.mono (by decide)) (by rfl) (pv 0)) (pa_cons (pe_mkv E_Ambiguous (hr.mono (by decide)) (by rfl) (pv 0)) (pa_cons (pe_mkv E_Barren (hr.mono (by decide)) (by rfl) (pv 0)) (pa_cons (pe_mkv E_TooLong (hr.mono (by decide)) (by rfl) (pv 0)) (pa_cons (pe_mkv E_NoDocument (hr.mono (by decide)) (by rfl) (pv 0)) pa_nil))))))))))), ?_⟩
    refine ⟨_, rfl, fun x0 H0 s0 e0 => ⟨_, rfl, fun x1 H1 s1 e1 => ⟨_, rfl, fun x2 H2 s2 e2 => ⟨_, rfl, fun x3 H3 s3 e3 => ⟨_, rfl, fun x4 H4 s4 e4 => ⟨_, rfl, fun x5 H5 s5 e5 => ⟨sz (show 6 ≤ 1000000 by decide), fun l0 nl0 => ?_⟩⟩⟩⟩⟩⟩⟩
    have n0 := same_new (o := .lst [x0, x1, x2, x3, x4, x5]) nl0
    refine ⟨_, rfl, _, rfl, fun x6 H6 s6 e6 => ⟨_, rfl, fun x7 H7 s7 e7 => ⟨_, rfl, fun x8 H8 s8 e8 => ⟨_, rfl, fun x9 H9 s9 e9 => ⟨_, rfl, fun x10 H10 s10 e10 => ⟨sz (show 5 ≤ 1000000 by decide), fun l1 nl1 => ?_⟩⟩⟩⟩⟩⟩
    have n1 := same_new (o := .lst [x6, x7, x8, x9, x10]) nl1
    refine ⟨l0, l1, _, _, rfl, rfl, (s6.trans (s7.trans (s8.trans (s9.trans (s10.trans n1))))) _ _ upd_same, upd_same, sz (show 11 ≤ 1000000 by decide), fun m1 nm1 => ?_⟩
    have k1 := same_new (o := .lst ([x0, x1, x2, x3, x4, x5] ++ [x6, x7, x8, x9, x10])) nm1
    refine ⟨_, rfl, _, rfl, fun x11 H11 s11 e11 => ⟨_, rfl, fun x12 H12 s12 e12 => ⟨_, rfl, fun x13 H13 s13 e13 => ⟨_, rfl, fun x14 H14 s14 e14 => ⟨_, rfl, fun x15 H15 s15 e15 => ⟨sz (show 5 ≤ 1000000 by decide), fun l2 nl2 => ?_⟩⟩⟩⟩⟩⟩
    have n2 := same_new (o := .lst [x11, x12, x13, x14, x15]) nl2
    refine ⟨m1, l2, _, _, rfl, rfl, (s11.trans (s12.trans (s13.trans (s14.trans (s15.trans n2))))) _ _ upd_same, upd_same, sz (show 16 ≤ 1000000 by decide), fun m2 nm2 => ?_⟩
    have k2 := same_new (o := .lst (([x0, x1, x2, x3, x4, x5] ++ [x6, x7, x8, x9, x10]) ++ [x11, x12, x13, x14, x15])) nm2
    have t20 := k2
    have t19 := n2.trans t20
    have t18 := s15.trans t19
    have t17 := s14.trans t18
    have t16 := s13.trans t17
    have t15 := s12.trans t16
    have t14 := s11.trans t15
    have t13 := k1.trans t14
    have t12 := n1.trans t13
    have t11 := s10.trans t12
    have t10 := s9.trans t11
    have t9 := s8.trans t10
    have t8 := s7.trans t9
    have t7 := s6.trans t8
    have t6 := n0.trans t7
    have t5 := s5.trans t6
    have t4 := s4.trans t5
    have t3 := s3.trans t4
    have t2 := s2.trans t3
    have t1 := s1.trans t2
    have t0 := s0.trans t1
    exact k m2 [x0, x1, x2, x3, x4, x5, x6, x7, x8, x9, x10, x11, x12, x13, x14, x15] _ t0 (same_free (s0.trans (s1.trans (s2.trans (s3.trans (s4.trans (s5.trans (n0.trans (s6.trans (s7.trans (s8.trans (s9.trans (s10.trans (n1.trans (k1.trans (s11.trans (s12.trans (s13.trans (s14.trans (s15.trans n2))))))))))))))))))) nm2) upd_same ⟨e0.same t1, e1.same t2, e2.same t3, e3.same t4, e4.same t5, e5.same t6, e6.same t8, e7.same t9, e8.same t10, e9.same t11, e10.same t12, e11.same t15, e12.same t16, e13.same t17, e14.same t18, e15.same t19, trivial⟩

def rep16 (v : V) : List V := [v, v, v, v, v, v, v, v, v, v, v, v, v, v, v, v]
def spFields (K : PySem.W.Frag) (L : List (Addr × Str)) : Sp := fun vs H Q _ => ∃ (q : Addr) (v : V) (xs : List V), vs = [.ref q] ∧ SqL K H q xs ∧ Errs L v xs H ∧ ∀ r H', Same H H' → H r = none → H' r = some (.lst (rep16 v)) → Q (.ref r) H'
abbrev s__law_fields : Stmt := topS 23
theorem sc__law_fields : FnScope ["_law_some", "_law_found"] ["_law_some"] (defScope s__law_fields) := ⟨rfl, rfl, rfl, by decide +kernel, rfl, by decide +kernel, by decide +kernel⟩
theorem ok__law_fields {f : Addr} {fd : FuncData} (F : Fun K "_law_fields" "_law_fields" s__law_fields f fd) {c_BadNumber : Addr} (E_BadNumber : Err P w K mg base "BadNumber" "number" c_BadNumber) {c_BadValue : Addr} (E_BadValue : Err P w K mg base "BadValue" "path" c_BadValue) {c_WrongByte : Addr} (E_WrongByte : Err P w K mg base "WrongByte" "at" c_WrongByte) {c_Unfinished : Addr} (E_Unfinished : Err P w K mg base "Unfinished" "at" c_Unfinished) {c_TooDeep : Addr} (E_TooDeep : Err P w K mg base "TooDeep" "reached" c_TooDeep) {c_BadItem : Addr} (E_BadItem : Err P w K mg base "BadItem" "at" c_BadItem) {c_BadPath : Addr} (E_BadPath : Err P w K mg base "BadPath" "at" c_BadPath) {c_BadDeed : Addr} (E_BadDeed : Err P w K mg base "BadDeed" "at" c_BadDeed) {c_DuplicateKey : Addr} (E_DuplicateKey : Err P w K mg base "DuplicateKey" "at" c_DuplicateKey) {c_BadShape : Addr} (E_BadShape : Err P w K mg base "BadShape" "word" c_BadShape) {c_UnknownName : Addr} (E_UnknownName : Err P w K mg base "UnknownName" "name" c_UnknownName) {c_Circular : Addr} (E_Circular : Err P w K mg base "Circular" "name" c_Circular) {c_Ambiguous : Addr} (E_Ambiguous : Err P w K mg base "Ambiguous" "name" c_Ambiguous) {c_Barren : Addr} (E_Barren : Err P w K mg base "Barren" "name" c_Barren) {c_TooLong : Addr} (E_TooLong : Err P w K mg base "TooLong" "debt" c_TooLong) {c_NoDocument : Addr} (E_NoDocument : Err P w K mg base "NoDocument" "number" c_NoDocument) : Told P w K mg base CX0 1 f fd ["_law_some"] (spFields K [(c_BadNumber, ("number" : Str)), (c_BadValue, ("path" : Str)), (c_WrongByte, ("at" : Str)), (c_Unfinished, ("at" : Str)), (c_TooDeep, ("reached" : Str)), (c_BadItem, ("at" : Str)), (c_BadPath, ("at" : Str)), (c_BadDeed, ("at" : Str)), (c_DuplicateKey, ("at" : Str)), (c_BadShape, ("word" : Str)), (c_UnknownName, ("name" : Str)), (c_Circular, ("name" : Str)), (c_Ambiguous, ("name" : Str)), (c_Barren, ("name" : Str)), (c_TooLong, ("debt" : Str)), (c_NoDocument, ("number" : Str))]) := by
  refine told F sc__law_fields (fun vs H Q E h => ?_) (fun cdv A outer s H vs Q E clr hr h => ?_)
  · obtain ⟨q, v, xs, rfl, hS, E, k⟩ := h
    rfl
  · obtain ⟨q, v, xs, rfl, hS, E, k⟩ := h
    refine ⟨_, (pss_cons (ps_set (i := 1) sc__law_fields.nd rfl (Or.inl rfl) (pe_lst (pa_cons (pe_xv (pe_ix ix_list (pv 0) pe_int (fun _ _ => rfl))) (pa_cons (pe_xv (pe_ix ix_list (pv 0) pe_int (fun _ _ => rfl))) (pa_cons (pe_xv (pe_ix ix_list (pv 0) pe_int (fun _ _ => rfl))) (pa_cons (pe_xv (pe_ix ix_list (pv 0) pe_int (fun _ _ => rfl))) (pa_cons (pe_xv (pe_ix ix_list (pv 0) pe_int (fun _ _ => rfl))) (pa_cons (pe_xv (pe_ix ix_list (pv 0) pe_int (fun _ _ => rfl))) (pa_cons (pe_xv (pe_ix ix_list (pv 0) pe_int (fun _ _ => rfl))) pa_nil)))))))))
    (pss_cons (ps_set (i := 1) sc__law_fields.nd rfl (Or.inl rfl) (pe_op op_cat (pv 1) (pe_lst (pa_cons (pe_xv (pe_ix ix_list (pv 0) pe_int (fun _ _ => rfl))) (pa_cons (pe_xv (pe_ix ix_list (pv 0) pe_int (fun _ _ => rfl))) (pa_cons (pe_xv (pe_ix ix_list (pv 0) pe_int (fun _ _ => rfl))) (pa_cons (pe_xv (pe_ix ix_list (pv 0) pe_int (fun _ _ => rfl))) (pa_cons (pe_xv (pe_ix ix_list (pv 0) pe_int (fun _ _ => rfl))) (pa_cons (pe_xv (pe_ix ix_list (pv 0) pe_int (fun _ _ => rfl))) pa_nil)))))))))
    (pss_one (ps_ret (pe_op op_cat (pv 1) (pe_lst (pa_cons (pe_xv (pe_ix ix_list (pv 0) pe_int (fun _ _ => rfl))) (pa_cons (pe_xv (pe_ix ix_list (pv 0) pe_int (fun _ _ => rfl))) (pa_cons (pe_xv (pe_ix ix_list (pv 0) pe_int (fun _ _ => rfl))) pa_nil))))))))), ?_⟩
    obtain ⟨x0, X0, rfl, e0, E0⟩ := E.cons
    obtain ⟨x1, X1, rfl, e1, E1⟩ := E0.cons
    obtain ⟨x2, X2, rfl, e2, E2⟩ := E1.cons
    obtain ⟨x3, X3, rfl, e3, E3⟩ := E2.cons
    obtain ⟨x4, X4, rfl, e4, E4⟩ := E3.cons
    obtain ⟨x5, X5, rfl, e5, E5⟩ := E4.cons
    obtain ⟨x6, X6, rfl, e6, E6⟩ := E5.cons
    obtain ⟨x7, X7, rfl, e7, E7⟩ := E6.cons
    obtain ⟨x8, X8, rfl, e8, E8⟩ := E7.cons
    obtain ⟨x9, X9, rfl, e9, E9⟩ := E8.cons
    obtain ⟨x10, X10, rfl, e10, E10⟩ := E9.cons
    obtain ⟨x11, X11, rfl, e11, E11⟩ := E10.cons
    obtain ⟨x12, X12, rfl, e12, E12⟩ := E11.cons
    obtain ⟨x13, X13, rfl, e13, E13⟩ := E12.cons
    obtain ⟨x14, X14, rfl, e14, E14⟩ := E13.cons
    obtain ⟨x15, X15, rfl, e15, E15⟩ := E14.cons
    obtain rfl := E15.nil
    refine ⟨_, rfl, q, _, _, x0, rfl, rfl, hS, rfl, _, v, e0, E_BadNumber.X, E_BadNumber.no, _, rfl, q, _, _, x1, rfl, rfl, hS, rfl, _, v, e1, E_BadValue.X, E_BadValue.no, _, rfl, q, _, _, x2, rfl, rfl, hS, rfl, _, v, e2, E_WrongByte.X, E_WrongByte.no, _, rfl, q, _, _, x3, rfl, rfl, hS, rfl, _, v, e3, E_Unfinished.X, E_Unfinished.no, _, rfl, q, _, _, x4, rfl, rfl, hS, rfl, _, v, e4, E_TooDeep.X, E_TooDeep.no, _, rfl, q, _, _, x5, rfl, rfl, hS, rfl, _, v, e5, E_BadItem.X, E_BadItem.no, _, rfl, q, _, _, x6, rfl, rfl, hS, rfl, _, v, e6, E_BadPath.X, E_BadPath.no, sz (show 7 ≤ 1000000 by decide), fun l0 nl0 => ?_⟩
    have n0 := same_new (o := .lst [v, v, v, v, v, v, v]) nl0
    have c1 := n0
    refine ⟨_, rfl, _, rfl, q, _, _, x7, rfl, rfl, (c1.seq hS), rfl, _, v, (e7.same c1), E_BadDeed.X, E_BadDeed.no, _, rfl, q, _, _, x8, rfl, rfl, (c1.seq hS), rfl, _, v, (e8.same c1), E_DuplicateKey.X, E_DuplicateKey.no, _, rfl, q, _, _, x9, rfl, rfl, (c1.seq hS), rfl, _, v, (e9.same c1), E_BadShape.X, E_BadShape.no, _, rfl, q, _, _, x10, rfl, rfl, (c1.seq hS), rfl, _, v, (e10.same c1), E_UnknownName.X, E_UnknownName.no, _, rfl, q, _, _, x11, rfl, rfl, (c1.seq hS), rfl, _, v, (e11.same c1), E_Circular.X, E_Circular.no, _, rfl, q, _, _, x12, rfl, rfl, (c1.seq hS), rfl, _, v, (e12.same c1), E_Ambiguous.X, E_Ambiguous.no, sz (show 6 ≤ 1000000 by decide), fun l1 nl1 => ?_⟩
    have n1 := same_new (o := .lst [v, v, v, v, v, v]) nl1
    refine ⟨l0, l1, _, _, rfl, rfl, n1 _ _ upd_same, upd_same, sz (show 13 ≤ 1000000 by decide), fun m1 nm1 => ?_⟩
    have k1 := same_new (o := .lst ([v, v, v, v, v, v, v] ++ [v, v, v, v, v, v])) nm1
    have c2 := ((n0.trans n1).trans k1)
    refine ⟨_, rfl, _, rfl, q, _, _, x13, rfl, rfl, (c2.seq hS), rfl, _, v, (e13.same c2), E_Barren.X, E_Barren.no, _, rfl, q, _, _, x14, rfl, rfl, (c2.seq hS), rfl, _, v, (e14.same c2), E_TooLong.X, E_TooLong.no, _, rfl, q, _, _, x15, rfl, rfl, (c2.seq hS), rfl, _, v, (e15.same c2), E_NoDocument.X, E_NoDocument.no, sz (show 3 ≤ 1000000 by decide), fun l2 nl2 => ?_⟩
    have n2 := same_new (o := .lst [v, v, v]) nl2
    refine ⟨m1, l2, _, _, rfl, rfl, n2 _ _ upd_same, upd_same, sz (show 16 ≤ 1000000 by decide), fun m2 nm2 => ?_⟩
    have k2 := same_new (o := .lst (([v, v, v, v, v, v, v] ++ [v, v, v, v, v, v]) ++ [v, v, v])) nm2
    exact k m2 _ ((((n0.trans n1).trans k1).trans n2).trans k2) (same_free (((n0.trans n1).trans k1).trans n2) nm2) upd_same

def bls16 (i : Nat) : List V := [V.bl (decide (0 = i)), V.bl (decide (1 = i)), V.bl (decide (2 = i)), V.bl (decide (3 = i)), V.bl (decide (4 = i)), V.bl (decide (5 = i)), V.bl (decide (6 = i)), V.bl (decide (7 = i)), V.bl (decide (8 = i)), V.bl (decide (9 = i)), V.bl (decide (10 = i)), V.bl (decide (11 = i)), V.bl (decide (12 = i)), V.bl (decide (13 = i)), V.bl (decide (14 = i)), V.bl (decide (15 = i))]
def spKinds (K : PySem.W.Frag) (cs : List Addr) : Sp := fun vs H Q _ => ∃ (i : Nat) (D : Addr) (f : Str) (v x : V), vs = [x] ∧ cs[i]? = some D ∧ ErrV D f v x H ∧ ∀ q H', Same H H' → H q = none → H' q = some (.lst (bls16 i)) → Q (.ref q) H'
abbrev s__law_kinds : Stmt := topS 24
theorem sc__law_kinds : FnScope ["_law_e", "_law_found"] ["_law_e"] (defScope s__law_kinds) := ⟨rfl, rfl, rfl, by decide +kernel, rfl, by decide +kernel, by decide +kernel⟩
theorem ok__law_kinds {f : Addr} {fd : FuncData} (F : Fun K "_law_kinds" "_law_kinds" s__law_kinds f fd) (m_isinstance : mg "isinstance" = none) {c_ShortestBytesError : Addr} (g_ShortestBytesError : mg "ShortestBytesError" = some (.ref c_ShortestBytesError)) {c_Unfinished : Addr} (E_Unfinished : Err P w K mg base "Unfinished" "at" c_Unfinished) {c_WrongByte : Addr} (E_WrongByte : Err P w K mg base "WrongByte" "at" c_WrongByte) {c_BadValue : Addr} (E_BadValue : Err P w K mg base "BadValue" "path" c_BadValue) {c_BadNumber : Addr} (E_BadNumber : Err P w K mg base "BadNumber" "number" c_BadNumber) {c_BadDeed : Addr} (E_BadDeed : Err P w K mg base "BadDeed" "at" c_BadDeed) {c_BadPath : Addr} (E_BadPath : Err P w K mg base "BadPath" "at" c_BadPath) {c_BadItem : Addr} (E_BadItem : Err P w K mg base "BadItem" "at" c_BadItem) {c_TooDeep : Addr} (E_TooDeep : Err P w K mg base "TooDeep" "reached" c_TooDeep) {c_UnknownName : Addr} (E_UnknownName : Err P w K mg base "UnknownName" "name" c_UnknownName) {c_BadShape : Addr} (E_BadShape : Err P w K mg base "BadShape" "word" c_BadShape) {c_DuplicateKey : Addr} (E_DuplicateKey : Err P w K mg base "DuplicateKey" "at" c_DuplicateKey) {c_Barren : Addr} (E_Barren : Err P w K mg base "Barren" "name" c_Barren) {c_Ambiguous : Addr} (E_Ambiguous : Err P w K mg base "Ambiguous" "name" c_Ambiguous) {c_Circular : Addr} (E_Circular : Err P w K mg base "Circular" "name" c_Circular) {c_NoDocument : Addr} (E_NoDocument : Err P w K mg base "NoDocument" "number" c_NoDocument) {c_TooLong : Addr} (E_TooLong : Err P w K mg base "TooLong" "debt" c_TooLong) (kinds : kindsB K [c_BadNumber, c_BadValue, c_WrongByte, c_Unfinished, c_TooDeep, c_BadItem, c_BadPath, c_BadDeed, c_DuplicateKey, c_BadShape, c_UnknownName, c_Circular, c_Ambiguous, c_Barren, c_TooLong, c_NoDocument] c_ShortestBytesError = true) (h_SBE : PySem.W.hasDictIn K c_ShortestBytesError = true) (t_SBE : PySem.W.typeIn K (.ref c_ShortestBytesError) = some (.type "type")) : Told P w K mg base CX0 1 f fd ["_law_e"] (spKinds K [c_BadNumber, c_BadValue, c_WrongByte, c_Unfinished, c_TooDeep, c_BadItem, c_BadPath, c_BadDeed, c_DuplicateKey, c_BadShape, c_UnknownName, c_Circular, c_Ambiguous, c_Barren, c_TooLong, c_NoDocument]) := by
  refine told F sc__law_kinds (fun vs H Q E h => ?_) (fun cdv A outer s H vs Q E clr hr h => ?_)
  · obtain ⟨i, D, f, v, x, rfl, hD, er, k⟩ := h
    rfl
  · obtain ⟨i, D, f, v, x, rfl, hD, er, k⟩ := h
    refine ⟨_, (pss_cons (ps_set (i := 1) sc__law_kinds.nd rfl (Or.inl rfl) (pe_lst (pa_cons (pe_callB call_isV (by rfl) m_isinstance (by decide +kernel) (pa_cons (pv 0) (pa_cons (pe_glob (v := .ref c_BadNumber) (by rfl) E_BadNumber.g rfl) pa_nil))) (pa_cons (pe_callB call_isV (by rfl) m_isinstance (by decide +kernel) (pa_cons (pv 0) (pa_cons (pe_glob (v := .ref c_BadValue) (by rfl) E_BadValue.g rfl) pa_nil))) (pa_cons (pe_callB call_isV (by rfl) m_isinstance (by decide +kernel) (pa_cons (pv 0) (pa_cons (pe_glob (v := .ref c_WrongByte) (by rfl) E_WrongByte.g rfl) pa_nil))) (pa_cons (pe_callB call_isV (by rfl) m_isinstance (by decide +kernel) (pa_cons (pv 0) (pa_cons (pe_glob (v := .ref c_Unfinished) (by rfl) E_Unfinished.g rfl) pa_nil))) pa_nil))))))
    (pss_cons (ps_set (i := 1) sc__law_kinds.nd rfl (Or.inl rfl) (pe_op op_cat (pv 1) (pe_lst (pa_cons (pe_callB call_isV (by rfl) m_isinstance (by decide +kernel) (pa_cons (pv 0) (pa_cons (pe_glob (v := .ref c_TooDeep) (by rfl) E_TooDeep.g rfl) pa_nil))) (pa_cons (pe_callB call_isV (by rfl) m_isinstance (by decide +kernel) (pa_cons (pv 0) (pa_cons (pe_glob (v := .ref c_BadItem) (by rfl) E_BadItem.g rfl) pa_nil))) (pa_cons (pe_callB call_isV (by rfl) m_isinstance (by decide +kernel) (pa_cons (pv 0) (pa_cons (pe_glob (v := .ref c_BadPath) (by rfl) E_BadPath.g rfl) pa_nil))) (pa_cons (pe_callB call_isV (by rfl) m_isinstance (by decide +kernel) (pa_cons (pv 0) (pa_cons (pe_glob (v := .ref c_BadDeed) (by rfl) E_BadDeed.g rfl) pa_nil))) pa_nil)))))))
    (pss_cons (ps_set (i := 1) sc__law_kinds.nd rfl (Or.inl rfl) (pe_op op_cat (pv 1) (pe_lst (pa_cons (pe_callB call_isV (by rfl) m_isinstance (by decide +kernel) (pa_cons (pv 0) (pa_cons (pe_glob (v := .ref c_DuplicateKey) (by rfl) E_DuplicateKey.g rfl) pa_nil))) (pa_cons (pe_callB call_isV (by rfl) m_isinstance (by decide +kernel) (pa_cons (pv 0) (pa_cons (pe_glob (v := .ref c_BadShape) (by rfl) E_BadShape.g rfl) pa_nil))) (pa_cons (pe_callB call_isV (by rfl) m_isinstance (by decide +kernel) (pa_cons (pv 0) (pa_cons (pe_glob (v := .ref c_UnknownName) (by rfl) E_UnknownName.g rfl) pa_nil))) pa_nil))))))
    (pss_cons (ps_set (i := 1) sc__law_kinds.nd rfl (Or.inl rfl) (pe_op op_cat (pv 1) (pe_lst (pa_cons (pe_callB call_isV (by rfl) m_isinstance (by decide +kernel) (pa_cons (pv 0) (pa_cons (pe_glob (v := .ref c_Circular) (by rfl) E_Circular.g rfl) pa_nil))) (pa_cons (pe_callB call_isV (by rfl) m_isinstance (by decide +kernel) (pa_cons (pv 0) (pa_cons (pe_glob (v := .ref c_Ambiguous) (by rfl) E_Ambiguous.g rfl) pa_nil))) (pa_cons (pe_callB call_isV (by rfl) m_isinstance (by decide +kernel) (pa_cons (pv 0) (pa_cons (pe_glob (v := .ref c_Barren) (by rfl) E_Barren.g rfl) pa_nil))) pa_nil))))))
    (pss_one (ps_ret (pe_op op_cat (pv 1) (pe_lst (pa_cons (pe_callB call_isV (by rfl) m_isinstance (by decide +kernel) (pa_cons (pv 0) (pa_cons (pe_glob (v := .ref c_TooLong) (by rfl) E_TooLong.g rfl) pa_nil))) (pa_cons (pe_callB call_isV (by rfl) m_isinstance (by decide +kernel) (pa_cons (pv 0) (pa_cons (pe_glob (v := .ref c_NoDocument) (by rfl) E_NoDocument.g rfl) pa_nil))) pa_nil)))))))))), ?_⟩
    have KS : Kinds K [c_BadNumber, c_BadValue, c_WrongByte, c_Unfinished, c_TooDeep, c_BadItem, c_BadPath, c_BadDeed, c_DuplicateKey, c_BadShape, c_UnknownName, c_Circular, c_Ambiguous, c_Barren, c_TooLong, c_NoDocument] c_ShortestBytesError := ⟨⟨E_BadNumber.I, E_BadValue.I, E_WrongByte.I, E_Unfinished.I, E_TooDeep.I, E_BadItem.I, E_BadPath.I, E_BadDeed.I, E_DuplicateKey.I, E_BadShape.I, E_UnknownName.I, E_Circular.I, E_Ambiguous.I, E_Barren.I, E_TooLong.I, E_NoDocument.I, trivial⟩, ⟨E_BadNumber.T.tyC, E_BadValue.T.tyC, E_WrongByte.T.tyC, E_Unfinished.T.tyC, E_TooDeep.T.tyC, E_BadItem.T.tyC, E_BadPath.T.tyC, E_BadDeed.T.tyC, E_DuplicateKey.T.tyC, E_BadShape.T.tyC, E_UnknownName.T.tyC, E_Circular.T.tyC, E_Ambiguous.T.tyC, E_Barren.T.tyC, E_TooLong.T.tyC, E_NoDocument.T.tyC, trivial⟩, kinds, h_SBE, t_SBE⟩
    have ID := KS.isc.mem hD
    refine ⟨_, rfl, D, f, v, x, _, _, _, rfl, er, ID, relV_ref, KS.one (j := 0) hD rfl, _, rfl, D, f, v, x, _, _, _, rfl, er, ID, relV_ref, KS.one (j := 1) hD rfl, _, rfl, D, f, v, x, _, _, _, rfl, er, ID, relV_ref, KS.one (j := 2) hD rfl, _, rfl, D, f, v, x, _, _, _, rfl, er, ID, relV_ref, KS.one (j := 3) hD rfl, sz (show 4 ≤ 1000000 by decide), fun l0 nl0 => ?_⟩
    have n0 := same_new (o := .lst [V.bl (decide (0 = i)), V.bl (decide (1 = i)), V.bl (decide (2 = i)), V.bl (decide (3 = i))]) nl0
    have c1 := n0
    refine ⟨_, rfl, _, rfl, D, f, v, x, _, _, _, rfl, (er.same c1), ID, relV_ref, KS.one (j := 4) hD rfl, _, rfl, D, f, v, x, _, _, _, rfl, (er.same c1), ID, relV_ref, KS.one (j := 5) hD rfl, _, rfl, D, f, v, x, _, _, _, rfl, (er.same c1), ID, relV_ref, KS.one (j := 6) hD rfl, _, rfl, D, f, v, x, _, _, _, rfl, (er.same c1), ID, relV_ref, KS.one (j := 7) hD rfl, sz (show 4 ≤ 1000000 by decide), fun l1 nl1 => ?_⟩
    have n1 := same_new (o := .lst [V.bl (decide (4 = i)), V.bl (decide (5 = i)), V.bl (decide (6 = i)), V.bl (decide (7 = i))]) nl1
    refine ⟨l0, l1, _, _, rfl, rfl, n1 _ _ upd_same, upd_same, sz (show 8 ≤ 1000000 by decide), fun m1 nm1 => ?_⟩
    have k1 := same_new (o := .lst ([V.bl (decide (0 = i)), V.bl (decide (1 = i)), V.bl (decide (2 = i)), V.bl (decide (3 = i))] ++ [V.bl (decide (4 = i)), V.bl (decide (5 = i)), V.bl (decide (6 = i)), V.bl (decide (7 = i))])) nm1
    have c2 := ((n0.trans n1).trans k1)
    refine ⟨_, rfl, _, rfl, D, f, v, x, _, _, _, rfl, (er.same c2), ID, relV_ref, KS.one (j := 8) hD rfl, _, rfl, D, f, v, x, _, _, _, rfl, (er.same c2), ID, relV_ref, KS.one (j := 9) hD rfl, _, rfl, D, f, v, x, _, _, _, rfl, (er.same c2), ID, relV_ref, KS.one (j := 10) hD rfl, sz (show 3 ≤ 1000000 by decide), fun l2 nl2 => ?_⟩
    have n2 := same_new (o := .lst [V.bl (decide (8 = i)), V.bl (decide (9 = i)), V.bl (decide (10 = i))]) nl2
    refine ⟨m1, l2, _, _, rfl, rfl, n2 _ _ upd_same, upd_same, sz (show 11 ≤ 1000000 by decide), fun m2 nm2 => ?_⟩
    have k2 := same_new (o := .lst (([V.bl (decide (0 = i)), V.bl (decide (1 = i)), V.bl (decide (2 = i)), V.bl (decide (3 = i))] ++ [V.bl (decide (4 = i)), V.bl (decide (5 = i)), V.bl (decide (6 = i)), V.bl (decide (7 = i))]) ++ [V.bl (decide (8 = i)), V.bl (decide (9 = i)), V.bl (decide (10 = i))])) nm2
    have c3 := ((((n0.trans n1).trans k1).trans n2).trans k2)
    refine ⟨_, rfl, _, rfl, D, f, v, x, _, _, _, rfl, (er.same c3), ID, relV_ref, KS.one (j := 11) hD rfl, _, rfl, D, f, v, x, _, _, _, rfl, (er.same c3), ID, relV_ref, KS.one (j := 12) hD rfl, _, rfl, D, f, v, x, _, _, _, rfl, (er.same c3), ID, relV_ref, KS.one (j := 13) hD rfl, sz (show 3 ≤ 1000000 by decide), fun l3 nl3 => ?_⟩
    have n3 := same_new (o := .lst [V.bl (decide (11 = i)), V.bl (decide (12 = i)), V.bl (decide (13 = i))]) nl3
    refine ⟨m2, l3, _, _, rfl, rfl, n3 _ _ upd_same, upd_same, sz (show 14 ≤ 1000000 by decide), fun m3 nm3 => ?_⟩
    have k3 := same_new (o := .lst ((([V.bl (decide (0 = i)), V.bl (decide (1 = i)), V.bl (decide (2 = i)), V.bl (decide (3 = i))] ++ [V.bl (decide (4 = i)), V.bl (decide (5 = i)), V.bl (decide (6 = i)), V.bl (decide (7 = i))]) ++ [V.bl (decide (8 = i)), V.bl (decide (9 = i)), V.bl (decide (10 = i))]) ++ [V.bl (decide (11 = i)), V.bl (decide (12 = i)), V.bl (decide (13 = i))])) nm3
    have c4 := ((((((n0.trans n1).trans k1).trans n2).trans k2).trans n3).trans k3)
    refine ⟨_, rfl, _, rfl, D, f, v, x, _, _, _, rfl, (er.same c4), ID, relV_ref, KS.one (j := 14) hD rfl, _, rfl, D, f, v, x, _, _, _, rfl, (er.same c4), ID, relV_ref, KS.one (j := 15) hD rfl, sz (show 2 ≤ 1000000 by decide), fun l4 nl4 => ?_⟩
    have n4 := same_new (o := .lst [V.bl (decide (14 = i)), V.bl (decide (15 = i))]) nl4
    refine ⟨m3, l4, _, _, rfl, rfl, n4 _ _ upd_same, upd_same, sz (show 16 ≤ 1000000 by decide), fun m4 nm4 => ?_⟩
    have k4 := same_new (o := .lst (((([V.bl (decide (0 = i)), V.bl (decide (1 = i)), V.bl (decide (2 = i)), V.bl (decide (3 = i))] ++ [V.bl (decide (4 = i)), V.bl (decide (5 = i)), V.bl (decide (6 = i)), V.bl (decide (7 = i))]) ++ [V.bl (decide (8 = i)), V.bl (decide (9 = i)), V.bl (decide (10 = i))]) ++ [V.bl (decide (11 = i)), V.bl (decide (12 = i)), V.bl (decide (13 = i))]) ++ [V.bl (decide (14 = i)), V.bl (decide (15 = i))])) nm4
    exact k m4 _ ((((((((n0.trans n1).trans k1).trans n2).trans k2).trans n3).trans k3).trans n4).trans k4) (same_free (((((((n0.trans n1).trans k1).trans n2).trans k2).trans n3).trans k3).trans n4) nm4) upd_same

def spLaw (K : PySem.W.Frag) : Sp := fun vs H Q _ => ∃ (a : Addr) (ns : List Int), vs = [.ref a] ∧ SqL K H a (ns.map V.int) ∧ ns.length ≤ 63 ∧ ∀ H', Q (.bl true) H'
theorem cells_lt (ns : List Int) (c : Int) (h : ns.length ≤ 63) : (if ((cutV (ns.map V.int) none (some c)).length : Int) > 1 then ((cutV (ns.map V.int) none (some c)).length : Int) else 1).toNat ≤ 63 ∧
    -(2 ^ 62) ≤ (if ((cutV (ns.map V.int) none (some c)).length : Int) > 1 then ((cutV (ns.map V.int) none (some c)).length : Int) else 1) ∧ (if ((cutV (ns.map V.int) none (some c)).length : Int) > 1 then ((cutV (ns.map V.int) none (some c)).length : Int) else 1) < 2 ^ 62 := by
  have := cutV_length (ns.map V.int) none (some c)
  rw [List.length_map] at this
  refine ⟨turns_le (by omega) (by decide), ?_, ?_⟩
  · split <;> omega
  · split <;> omega
theorem bag_ne {H : Hp} {p l : Addr} {n : Nat} (b : BagAt H p n) (h : H l = none) : l ≠ p := fun e => by
  obtain ⟨d, s, k, hp, _⟩ := b
  rw [e, hp] at h
  cases h
instance (d : PyData) : Decidable (leafOk d) := by
  unfold leafOk
  infer_instance
theorem dpAll16 {K : PySem.W.Frag} {H : Hp} {v : V} {d : PyData} (h : Dp K H v d) : DpAll K H (rep16 v) [d, d, d, d, d, d, d, d, d, d, d, d, d, d, d, d] :=
  .cons h (.cons h (.cons h (.cons h (.cons h (.cons h (.cons h (.cons h (.cons h (.cons h (.cons h (.cons h (.cons h (.cons h (.cons h (.cons h .nil)))))))))))))))
theorem leaf_nat {r : Nat} (h : r < 300) : leafOk (.int (r : Int)) := by
  have l : ((r : Int)).natAbs.log2 < 10 := by
    by_cases e : ((r : Int)).natAbs = 0
    · rw [e]
      decide
    · exact (Nat.log2_lt e).mpr (by omega)
  refine ⟨?_, rfl, ?_, ?_, ?_⟩
  · show decide (((r : Int)).natAbs.log2 < 1920) = true
    exact decide_eq_true (by omega)
  · simp [PyData.depth]
  · show decide ((PyData.shown (.int (r : Int))).length ≤ 1921) = true
    rw [PyData.shown_int, decide_eq_true (int_text_len_1921 (show ((r : Int)).natAbs.log2 < 1920 by omega))]
  · show (if ((r : Int) == 0) = true then 0 else ((r : Int)).natAbs.log2 + 1) ≤ 490
    split <;> omega
theorem dp_bools {K : PySem.W.Frag} {H : Hp} : ∀ l : List Bool, DpAll K H (l.map V.bl) (l.map PyData.bool)
  | [] => .nil
  | b :: l => .cons (.bl b) (dp_bools l)
theorem eqv_bools : ∀ l : List Bool, PyData.eqvAll (l.map PyData.bool) (l.map PyData.bool) = true
  | [] => rfl
  | b :: l => by
    show (PyData.eqv (.bool b) (.bool b) && PyData.eqvAll (l.map PyData.bool) (l.map PyData.bool)) = true
    rw [eqv_bools l]
    cases b <;> rfl
theorem shaped_bools (l : List Bool) : SeqAt.shaped (.list (l.map PyData.bool)) = true := by
  have h : ∀ l : List Bool, PyData.canLayAll0 (l.map PyData.bool) = true := by
    intro l
    induction l with
    | nil => rfl
    | cons d l ih =>
      show (PyData.canLay0 (.bool d) && PyData.canLayAll0 (l.map PyData.bool)) = true
      rw [ih]
      rfl
  have d1 : ∀ l : List Bool, PyData.depthAll (l.map PyData.bool) ≤ 1 := by
    intro l
    induction l with
    | nil => exact Nat.zero_le _
    | cons d l ih =>
      show max (PyData.depth (.bool d)) (PyData.depthAll (l.map PyData.bool)) ≤ 1
      have : PyData.depth (.bool d) ≤ 1 := by simp [PyData.depth]
      omega
  show (PyData.canLayAll0 (l.map PyData.bool) && decide (PyData.depthAll (l.map PyData.bool) + 1 ≤ 64)) = true
  rw [h, decide_eq_true (show PyData.depthAll (l.map PyData.bool) + 1 ≤ 64 by have := d1 l; omega)]
  rfl
def bb16 (i : Nat) : List Bool := (List.range 16).map fun j => decide (j = i)
theorem bls_bb (i : Nat) : bls16 i = (bb16 i).map V.bl := rfl
abbrev s_law : Stmt := topS 25
theorem sc_law : FnScope ["_law_script", "_law_at", "_law_bag_here", "_law_field", "_law_some", "_law_k", "_law_place"] ["_law_script"] (defScope s_law) := ⟨rfl, rfl, rfl, by decide +kernel, rfl, by decide +kernel, by decide +kernel⟩
theorem ok_law {f : Addr} {fd : FuncData} (F : Fun K "law" "law" s_law f fd) (m_range : mg "range" = none) (m_max : mg "max" = none) (m_len : mg "len" = none) (m_repr : mg "repr" = none) (m_isinstance : mg "isinstance" = none) (m_ValueError : mg "ValueError" = none) {c_ShortestBytesError : Addr} (g_ShortestBytesError : mg "ShortestBytesError" = some (.ref c_ShortestBytesError)) {c_BadNumber : Addr} (E_BadNumber : Err P w K mg base "BadNumber" "number" c_BadNumber) {c_BadValue : Addr} (E_BadValue : Err P w K mg base "BadValue" "path" c_BadValue) {c_WrongByte : Addr} (E_WrongByte : Err P w K mg base "WrongByte" "at" c_WrongByte) {c_Unfinished : Addr} (E_Unfinished : Err P w K mg base "Unfinished" "at" c_Unfinished) {c_TooDeep : Addr} (E_TooDeep : Err P w K mg base "TooDeep" "reached" c_TooDeep) {c_BadItem : Addr} (E_BadItem : Err P w K mg base "BadItem" "at" c_BadItem) {c_BadPath : Addr} (E_BadPath : Err P w K mg base "BadPath" "at" c_BadPath) {c_BadDeed : Addr} (E_BadDeed : Err P w K mg base "BadDeed" "at" c_BadDeed) {c_DuplicateKey : Addr} (E_DuplicateKey : Err P w K mg base "DuplicateKey" "at" c_DuplicateKey) {c_BadShape : Addr} (E_BadShape : Err P w K mg base "BadShape" "word" c_BadShape) {c_UnknownName : Addr} (E_UnknownName : Err P w K mg base "UnknownName" "name" c_UnknownName) {c_Circular : Addr} (E_Circular : Err P w K mg base "Circular" "name" c_Circular) {c_Ambiguous : Addr} (E_Ambiguous : Err P w K mg base "Ambiguous" "name" c_Ambiguous) {c_Barren : Addr} (E_Barren : Err P w K mg base "Barren" "name" c_Barren) {c_TooLong : Addr} (E_TooLong : Err P w K mg base "TooLong" "debt" c_TooLong) {c_NoDocument : Addr} (E_NoDocument : Err P w K mg base "NoDocument" "number" c_NoDocument) {f__law_bag : Addr} {fd__law_bag : FuncData} (G__law_bag : Told P w K mg base CX0 1 f__law_bag fd__law_bag ["_law_script", "_law_at"] (spBag K)) (b__law_bag : Binds K fd__law_bag ["_law_script", "_law_at"] []) (g__law_bag : mg "_law_bag" = some (.ref f__law_bag)) (k__law_bag : PySem.W.keepIn K (.ref f__law_bag) = true) {f__law_of : Addr} {fd__law_of : FuncData} (G__law_of : Told P w K mg base CX0 2 f__law_of fd__law_of ["_law_bag_here", "_law_some"] (spOf K)) (b__law_of : Binds K fd__law_of ["_law_bag_here", "_law_some"] []) (g__law_of : mg "_law_of" = some (.ref f__law_of)) (k__law_of : PySem.W.keepIn K (.ref f__law_of) = true) {f__law_take : Addr} {fd__law_take : FuncData} (G__law_take : Told P w K mg base CX0 1 f__law_take fd__law_take ["_law_bag_here", "_law_many"] spTake) (b__law_take : Binds K fd__law_take ["_law_bag_here", "_law_many"] []) (g__law_take : mg "_law_take" = some (.ref f__law_take)) (k__law_take : PySem.W.keepIn K (.ref f__law_take) = true) {f__law_made : Addr} {fd__law_made : FuncData} (G__law_made : Told P w K mg base CX0 3 f__law_made fd__law_made ["_law_field"] (spMade [(c_BadNumber, ("number" : Str)), (c_BadValue, ("path" : Str)), (c_WrongByte, ("at" : Str)), (c_Unfinished, ("at" : Str)), (c_TooDeep, ("reached" : Str)), (c_BadItem, ("at" : Str)), (c_BadPath, ("at" : Str)), (c_BadDeed, ("at" : Str)), (c_DuplicateKey, ("at" : Str)), (c_BadShape, ("word" : Str)), (c_UnknownName, ("name" : Str)), (c_Circular, ("name" : Str)), (c_Ambiguous, ("name" : Str)), (c_Barren, ("name" : Str)), (c_TooLong, ("debt" : Str)), (c_NoDocument, ("number" : Str))])) (b__law_made : Binds K fd__law_made ["_law_field"] []) (g__law_made : mg "_law_made" = some (.ref f__law_made)) (k__law_made : PySem.W.keepIn K (.ref f__law_made) = true) {f__law_fields : Addr} {fd__law_fields : FuncData} (G__law_fields : Told P w K mg base CX0 1 f__law_fields fd__law_fields ["_law_some"] (spFields K [(c_BadNumber, ("number" : Str)), (c_BadValue, ("path" : Str)), (c_WrongByte, ("at" : Str)), (c_Unfinished, ("at" : Str)), (c_TooDeep, ("reached" : Str)), (c_BadItem, ("at" : Str)), (c_BadPath, ("at" : Str)), (c_BadDeed, ("at" : Str)), (c_DuplicateKey, ("at" : Str)), (c_BadShape, ("word" : Str)), (c_UnknownName, ("name" : Str)), (c_Circular, ("name" : Str)), (c_Ambiguous, ("name" : Str)), (c_Barren, ("name" : Str)), (c_TooLong, ("debt" : Str)), (c_NoDocument, ("number" : Str))])) (b__law_fields : Binds K fd__law_fields ["_law_some"] []) (g__law_fields : mg "_law_fields" = some (.ref f__law_fields)) (k__law_fields : PySem.W.keepIn K (.ref f__law_fields) = true) {f__law_kinds : Addr} {fd__law_kinds : FuncData} (G__law_kinds : Told P w K mg base CX0 1 f__law_kinds fd__law_kinds ["_law_e"] (spKinds K [c_BadNumber, c_BadValue, c_WrongByte, c_Unfinished, c_TooDeep, c_BadItem, c_BadPath, c_BadDeed, c_DuplicateKey, c_BadShape, c_UnknownName, c_Circular, c_Ambiguous, c_Barren, c_TooLong, c_NoDocument])) (b__law_kinds : Binds K fd__law_kinds ["_law_e"] []) (g__law_kinds : mg "_law_kinds" = some (.ref f__law_kinds)) (k__law_kinds : PySem.W.keepIn K (.ref f__law_kinds) = true) (kinds : kindsB K [c_BadNumber, c_BadValue, c_WrongByte, c_Unfinished, c_TooDeep, c_BadItem, c_BadPath, c_BadDeed, c_DuplicateKey, c_BadShape, c_UnknownName, c_Circular, c_Ambiguous, c_Barren, c_TooLong, c_NoDocument] c_ShortestBytesError = true) (h_SBE : PySem.W.hasDictIn K c_ShortestBytesError = true) (t_SBE : PySem.W.typeIn K (.ref c_ShortestBytesError) = some (.type "type")) : Told P w K mg base CX0 5 f fd ["_law_script"] (spLaw K) := by
  refine told F sc_law (fun vs H Q E h => ?_) (fun cdv A outer s H vs Q E clr hr h => ?_)
  · obtain ⟨a, ns, rfl, hS, h63, k⟩ := h
    rfl
  · obtain ⟨a, ns, rfl, hS, h63, k⟩ := h
    refine ⟨_, (pss_cons (ps_for PassesOwn.never rfl (pi_range1 (by rfl) m_range (pa_cons (pe_callB (call_max2 rfl) (by rfl) m_max (by decide +kernel) (pa_cons pe_int (pa_cons (pe_callB call_len_seq (by rfl) m_len PySem.boot_len (pa_cons (pe_slice sl_list (pv 0) po_none (po_some pe_int)) pa_nil)) pa_nil))) pa_nil)) (pg_name (i := 1) sc_law.nd rfl (Or.inl rfl))
    (pss_cons (ps_set (i := 2) sc_law.nd rfl (Or.inl rfl) (pe_told G__law_bag clr (hr.mono (by decide)) (by rfl) g__law_bag k__law_bag b__law_bag .nil pass0 (pa_cons (pv 0) (pa_cons (pv 1) pa_nil))))
    (pss_cons (ps_set (i := 3) sc_law.nd rfl (Or.inl rfl) (pe_told G__law_of clr (hr.mono (by decide)) (by rfl) g__law_of k__law_of b__law_of .nil pass0 (pa_cons (pv 2) (pa_cons (pe_lst (pa_cons pe_non (pa_cons pe_bl (pa_cons pe_str (pa_cons pe_str (pa_cons (pe_tup (pa_cons pe_int (pa_cons pe_str pa_nil))) (pa_cons (pe_tup pa_nil) (pa_cons (pe_un un_neg pe_int) (pa_cons (pe_op op_pow pe_int pe_int) (pa_cons (pe_told G__law_take clr (hr.mono (by decide)) (by rfl) g__law_take k__law_take b__law_take .nil pass0 (pa_cons (pv 2) (pa_cons pe_int pa_nil))) pa_nil)))))))))) pa_nil))))
    (pss_cons (ps_set (i := 4) sc_law.nd rfl (Or.inl rfl) (pe_told G__law_made clr (hr.mono (by decide)) (by rfl) g__law_made k__law_made b__law_made .nil pass0 (pa_cons (pv 3) pa_nil)))
    (pss_cons (ps_if (pt_cmpR op_ne (pe_callB (call_reprD clr hr.units) (by rfl) m_repr (by decide +kernel) (pa_cons (pe_told G__law_fields clr (hr.mono (by decide)) (by rfl) g__law_fields k__law_fields b__law_fields .nil pass0 (pa_cons (pv 4) pa_nil)) pa_nil)) (pe_callB (call_reprD clr hr.units) (by rfl) m_repr (by decide +kernel) (pa_cons (pe_op op_rep (pe_lst (pa_cons (pv 3) pa_nil)) pe_int) pa_nil)) (nomark _))
    (pss_one (ps_ret pe_bl))
    pss_nil)
    (pss_one (ps_for PassesOwn.never rfl (pi_range1 (by rfl) m_range (pa_cons pe_int pa_nil)) (pg_name (i := 5) sc_law.nd rfl (Or.inr rfl))
    (pss_cons (ps_if (pt_cmpR (op_neD hr.units) (pe_told G__law_kinds clr (hr.mono (by decide)) (by rfl) g__law_kinds k__law_kinds b__law_kinds .nil pass0 (pa_cons (pe_ix ix_list (pv 4) (pv 5) (fun _ _ => rfl)) pa_nil)) (pe_lc (own := [("_law_place", 6)]) (g := gName 6) (tt := tYes) rfl sc_law.nd (pi_range1 (by rfl) m_range (pa_cons pe_int pa_nil)) (blkOk_by (N := ["_law_script", "_law_at", "_law_bag_here", "_law_field", "_law_some", "_law_k", "_law_place"]) (sc := defScope s_law) (by decide +kernel)) (fun _ _ _ _ _ => pg_name (i := 6) sc_law.nd rfl (Or.inl rfl)) (fun _ _ _ _ _ => pts_nil) (fun _ _ _ _ _ => (pe_cmpR op_eq (pv 6) (pv 5) (nomark _)))) (nomark _))
    (pss_one (ps_ret pe_bl))
    pss_nil)
    (pss_one (ps_if (PW.pt (pw_or (pt_not (pt_val (pe_callB call_isV (by rfl) m_isinstance (by decide +kernel) (pa_cons (pe_ix ix_list (pv 4) (pv 5) (fun _ _ => rfl)) (pa_cons (pe_glob (v := .ref c_ShortestBytesError) (by rfl) g_ShortestBytesError rfl) pa_nil))))) (pw_or1 (pt_not (pt_val (pe_callB call_isV (by rfl) m_isinstance (by decide +kernel) (pa_cons (pe_ix ix_list (pv 4) (pv 5) (fun _ _ => rfl)) (pa_cons (pe_bltn (by rfl) m_ValueError (by decide +kernel) (show RelV (.ty "ValueError") (.type "ValueError") from rfl)) pa_nil))))))))
    (pss_one (ps_ret pe_bl))
    pss_nil))))))))))
    (pss_one (ps_ret pe_bl))), ?_⟩
    have KS : Kinds K [c_BadNumber, c_BadValue, c_WrongByte, c_Unfinished, c_TooDeep, c_BadItem, c_BadPath, c_BadDeed, c_DuplicateKey, c_BadShape, c_UnknownName, c_Circular, c_Ambiguous, c_Barren, c_TooLong, c_NoDocument] c_ShortestBytesError := ⟨⟨E_BadNumber.I, E_BadValue.I, E_WrongByte.I, E_Unfinished.I, E_TooDeep.I, E_BadItem.I, E_BadPath.I, E_BadDeed.I, E_DuplicateKey.I, E_BadShape.I, E_UnknownName.I, E_Circular.I, E_Ambiguous.I, E_Barren.I, E_TooLong.I, E_NoDocument.I, trivial⟩, ⟨E_BadNumber.T.tyC, E_BadValue.T.tyC, E_WrongByte.T.tyC, E_Unfinished.T.tyC, E_TooDeep.T.tyC, E_BadItem.T.tyC, E_BadPath.T.tyC, E_BadDeed.T.tyC, E_DuplicateKey.T.tyC, E_BadShape.T.tyC, E_UnknownName.T.tyC, E_Circular.T.tyC, E_Ambiguous.T.tyC, E_Barren.T.tyC, E_TooLong.T.tyC, E_NoDocument.T.tyC, trivial⟩, kinds, h_SBE, t_SBE⟩
    refine ⟨_, rfl, _, rfl, a, _, rfl, hS, fun c nc => ?_⟩
    have hS1 : SqL K (upd H c (.lst (cutV (ns.map V.int) none (some 4)))) a (ns.map V.int) := (same_new nc).seq hS
    obtain ⟨ht, hlo, hhi⟩ := cells_lt ns 4 h63
    refine ⟨c, _, rfl, .inl seq_new, _, _, rfl, _, rfl, hlo, hhi, ?_⟩
    generalize hM : (if ((cutV (ns.map V.int) none (some 4)).length : Int) > 1 then ((cutV (ns.map V.int) none (some 4)).length : Int) else 1).toNat = M at ht
    refine for_range (lo := 0) (n := M) (fun i σ H' => ∃ y1 y2 y3 y4 y5 y6, σ = [some (.ref a), y1, y2, y3, y4, y5, y6] ∧ SqL K H' a (ns.map V.int)) ⟨_, _, _, _, _, _, rfl, hS1⟩ ?_ ?_
    · rintro i σ H' hi ⟨y1, y2, y3, y4, y5, y6, rfl, hSi⟩
      refine ⟨_, rfl, _, rfl, a, ns, i, ?_, hSi, by omega, fun p H1 sm np B => ?_⟩
      · rw [Int.zero_add]
        rfl
      refine ⟨_, rfl, sz (show 2 ≤ 1000000 by decide), fun t1 m1 => ⟨Nat.zero_le _, fun t2 m2 => ⟨_, rfl, _, _, rfl, rfl, ⟨by decide, by decide, by decide⟩, ?_⟩⟩⟩
      have z1 := same_new (o := .tup [.int 1, .str "a"]) m1
      have z2 := same_new (o := .tup []) m2
      refine ⟨_, rfl, p, 300, 0, rfl, (B.same z1).same z2, by omega, by decide, by decide, fun r H2 hr2 b2 B2 => ⟨sz (show 9 ≤ 1000000 by decide), fun l nl => ?_⟩⟩
      have ne1 : t1 ≠ p := bag_ne B m1
      have ne2 : t2 ≠ p := bag_ne (B.same z1) m2
      have nel : l ≠ p := bag_ne B2 nl
      have z3 := same_new (o := .lst [.non, .bl true, .str "", .str "abc", .ref t1, .ref t2, .int (-5), .int (10 ^ (30 : Int).toNat), .int (r : Int)]) nl
      refine ⟨p, l, 1, _, rfl, B2.same z3, by omega, seq_new, nel, (show 0 < 9 by decide), (show 9 ≤ 1000000 by decide), fun j v H6 hv b6 B6 => ?_⟩
      have b16 : But p H1 H6 := (((But.refl p H1).same z1).same z2).trans (b2.trans (((But.refl p H2).same z3).trans b6))
      have e1 : H6 t1 = some (.tup [.int 1, .str "a"]) := b6 _ _ ne1 (z3 _ _ (b2 _ _ ne1 (z2 _ _ upd_same)))
      have e2 : H6 t2 = some (.tup []) := b6 _ _ ne2 (z3 _ _ (b2 _ _ ne2 upd_same))
      have told : ∃ d, Dp K H6 v d ∧ leafOk d := by
        have hm := List.mem_of_getElem? hv
        simp only [List.mem_cons, List.not_mem_nil, or_false] at hm
        rcases hm with rfl | rfl | rfl | rfl | rfl | rfl | rfl | rfl | rfl
        · exact ⟨_, .non, by decide +kernel⟩
        · exact ⟨_, .bl _, by decide +kernel⟩
        · exact ⟨_, .str _, by decide +kernel⟩
        · exact ⟨_, .str _, by decide +kernel⟩
        · exact ⟨_, .tup (.inl (.inl e1)) (.cons (.int _) (.cons (.str _) .nil)), by decide +kernel⟩
        · exact ⟨_, .tup (.inl (.inl e2)) .nil, by decide +kernel⟩
        · exact ⟨_, .int _, by decide +kernel⟩
        · exact ⟨_, .int _, by decide +kernel⟩
        · exact ⟨_, .int _, leaf_nat hr2⟩
      obtain ⟨d, dp, lf⟩ := told
      have sh := rep16_ok lf
      refine ⟨_, rfl, v, rfl, fun q xs H7 s7 nq hq E => ?_⟩
      refine ⟨_, rfl, q, v, xs, rfl, seq_of hq, E, fun u H8 s8 nu hu => ?_⟩
      refine ⟨_, _, rfl, .lst (seq_of hu) (dpAll16 (dpSame (s7.trans s8) dp)), sh.1, sh.2.1, sh.2.2.1, sh.2.2.2, ?_⟩
      refine ⟨_, rfl, sz (show 1 ≤ 1000000 by decide), fun l3 nl3 => ⟨l3, 16, _, rfl, rfl, upd_same, by decide, by decide, sz (show 16 ≤ 1000000 by decide), fun u2 nu2 => ?_⟩⟩
      have z4 := same_new (o := .lst [v]) nl3
      have z5 := same_new (o := .lst (List.replicate (16 : Int).toNat [v]).flatten) nu2
      have dp2 : DpAll K (upd (upd H8 l3 (.lst [v])) u2 (.lst (List.replicate (16 : Int).toNat [v]).flatten)) ((List.replicate (16 : Int).toNat [v]).flatten) [d, d, d, d, d, d, d, d, d, d, d, d, d, d, d, d] := dpAll16 (dpSame (((s7.trans s8).trans z4).trans z5) dp)
      refine ⟨_, _, rfl, .lst seq_new dp2, sh.1, sh.2.1, sh.2.2.1, sh.2.2.2, rfl, _, rfl, iteNS rfl ?_⟩
      generalize hH9 : upd (upd H8 l3 (.lst [v])) u2 (.lst (List.replicate (16 : Int).toNat [v]).flatten) = H9
      have s79 : Same H7 H9 := hH9 ▸ (s8.trans z4).trans z5
      have hq9 := s79 _ _ hq
      have E9 := E.same s79
      unfold tNext
      dsimp only
      refine ⟨_, rfl, by decide, by decide, ?_⟩
      refine for_range (lo := 0) (n := 16) (fun n σ Hx => ∃ z5 z6, σ = [some (.ref a), some (.int (0 + (i : Int))), some (.ref p), some v, some (.ref q), z5, z6] ∧ Same H9 Hx) ⟨_, _, rfl, Same.refl _⟩ ?_ ?_
      · rintro n σ Hx hn ⟨z5, z6, rfl, sx⟩
        have Ex := E9.same sx
        obtain ⟨C, fC, x, hC, hx, er⟩ := Ex.get (i := n) hn
        have hqx := sx _ _ hq9
        have hat : atI xs (0 + (n : Int)) = some x := by
          rw [Int.zero_add]
          exact atI_nat hx
        refine ⟨_, rfl, _, rfl, q, xs, _, x, rfl, rfl, seq_of hqx, hat, n, C, fC, v, x, rfl, hC, er, fun r1 Ha sa na ha => ?_⟩
        refine ⟨_, rfl, by decide, by decide, fun D nD => ?_⟩
        refine lc_range (lo := 0) (n := 16) (fun m Hy => Same Ha Hy ∧ Hy D = some (.lst (((List.range m).map fun j => decide (j = n)).map V.bl))) ⟨same_new nD, upd_same⟩ ?_ ?_
        · rintro m Hy hm ⟨sy, hD⟩
          refine ⟨rfl, ?_⟩
          refine ⟨_, rfl, _, rfl, rfl, _, hD, sz_lt (by rw [List.length_map, List.length_map, List.length_range]; omega), ?_, ?_⟩
          · intro b o z
            rw [upd_ne (ne_of_none z nD)]
            exact sy b o z
          · rw [upd_same, List.range_succ, List.map_append, List.map_append]
            have e : decide (V.int (0 + (m : Int)) = V.int (0 + (n : Int))) = decide (m = n) := by
              by_cases c : m = n
              · subst c
                rw [decide_eq_true rfl, decide_eq_true rfl]
              · rw [decide_eq_false c, decide_eq_false (fun z => c (by have := V.int.inj z; omega))]
            rw [e]
            rfl
        · rintro Hy ⟨sy, hD⟩
          have ha' := sy _ _ ha
          rw [bls_bb] at ha'
          refine ⟨.list ((bb16 n).map PyData.bool), .list ((bb16 n).map PyData.bool), .lst (seq_of ha') (dp_bools _), .lst (seq_of hD) (dp_bools _), shaped_bools _, shaped_bools _, _, rfl, ?_⟩
          have ev : PyData.eqv (.list ((bb16 n).map PyData.bool)) (.list ((bb16 n).map PyData.bool)) = true := eqv_bools _
          rw [ev]
          refine iteF ?_
          have sxy := (sx.trans sa).trans sy
          have hqy := sxy _ _ hq9
          have ery := er.same (sa.trans sy)
          have ID := KS.isc.mem hC
          refine ⟨_, rfl, _, rfl, q, xs, _, x, rfl, rfl, seq_of hqy, hat, C, fC, v, x, _, _, _, rfl, ery, ID, relV_ref, KS.base hC, _, rfl, iteF ?_⟩
          refine ⟨_, rfl, _, rfl, q, xs, _, x, rfl, rfl, seq_of hqy, hat, C, fC, v, x, _, _, _, rfl, ery, ID, relV_ty, KS.value hC, _, rfl, iteF ?_⟩
          exact ⟨_, _, rfl, sxy⟩
      · rintro σ Hx ⟨z5, z6, rfl, sx⟩
        exact ⟨_, _, _, _, _, _, rfl, seq_but hSi np sm ((b16.same ((s7.trans s79).trans sx)))⟩
    · rintro σ H' ⟨y1, y2, y3, y4, y5, y6, rfl, hSi⟩
      exact k H'
end

theorem all_mk {l : PySem.W.OpenLaw} {w : World} {K : PySem.W.Frag} {h : Heap} {mg : Str → Option Value} {fa f__law_bag f__law_take f__law_of f__law_made f__law_fields f__law_kinds f_law c_ShortestBytesError c_BadItem N_BadItem fI_BadItem c_TooDeep N_TooDeep fI_TooDeep c_Unfinished N_Unfinished fI_Unfinished c_WrongByte N_WrongByte fI_WrongByte c_BadValue N_BadValue fI_BadValue c_BadNumber N_BadNumber fI_BadNumber c_UnknownName N_UnknownName fI_UnknownName c_BadShape N_BadShape fI_BadShape c_DuplicateKey N_DuplicateKey fI_DuplicateKey c_BadDeed N_BadDeed fI_BadDeed c_BadPath N_BadPath fI_BadPath c_NoDocument N_NoDocument fI_NoDocument c_TooLong N_TooLong fI_TooLong c_Barren N_Barren fI_Barren c_Ambiguous N_Ambiguous fI_Ambiguous c_Circular N_Circular fI_Circular : Addr} (X : K.In h) (G : h.Ns mainGlobals mg) (hfa : mg "law" = some (.ref fa))
    {od__law_bag an__law_bag od__law_take an__law_take od__law_of an__law_of od__law_made an__law_made od__law_fields an__law_fields od__law_kinds an__law_kinds od_law an_law odI_BadItem anI_BadItem dd_BadItem odI_TooDeep anI_TooDeep dd_TooDeep odI_Unfinished anI_Unfinished dd_Unfinished odI_WrongByte anI_WrongByte dd_WrongByte odI_BadValue anI_BadValue dd_BadValue odI_BadNumber anI_BadNumber dd_BadNumber odI_UnknownName anI_UnknownName dd_UnknownName odI_BadShape anI_BadShape dd_BadShape odI_DuplicateKey anI_DuplicateKey dd_DuplicateKey odI_BadDeed anI_BadDeed dd_BadDeed odI_BadPath anI_BadPath dd_BadPath odI_NoDocument anI_NoDocument dd_NoDocument odI_TooLong anI_TooLong dd_TooLong odI_Barren anI_Barren dd_Barren odI_Ambiguous anI_Ambiguous dd_Ambiguous odI_Circular anI_Circular dd_Circular : Option Addr} {sl__law_bag sl__law_take sl__law_of sl__law_made sl__law_fields sl__law_kinds sl_law slI_BadItem slI_TooDeep slI_Unfinished slI_WrongByte slI_BadValue slI_BadNumber slI_UnknownName slI_BadShape slI_DuplicateKey slI_BadDeed slI_BadPath slI_NoDocument slI_TooLong slI_Barren slI_Ambiguous slI_Circular : Array (Option Value)} {oc__law_bag kV__law_bag dc__law_bag pm__law_bag cd__law_bag ct__law_bag oc__law_take kV__law_take dc__law_take pm__law_take cd__law_take ct__law_take oc__law_of kV__law_of dc__law_of pm__law_of cd__law_of ct__law_of oc__law_made kV__law_made dc__law_made pm__law_made cd__law_made ct__law_made oc__law_fields kV__law_fields dc__law_fields pm__law_fields cd__law_fields ct__law_fields oc__law_kinds kV__law_kinds dc__law_kinds pm__law_kinds cd__law_kinds ct__law_kinds oc_law kV_law dc_law pm_law cd_law ct_law ocI_BadItem kVI_BadItem dcI_BadItem pmI_BadItem cdI_BadItem ctI_BadItem ocI_TooDeep kVI_TooDeep dcI_TooDeep pmI_TooDeep cdI_TooDeep ctI_TooDeep ocI_Unfinished kVI_Unfinished dcI_Unfinished pmI_Unfinished cdI_Unfinished ctI_Unfinished ocI_WrongByte kVI_WrongByte dcI_WrongByte pmI_WrongByte cdI_WrongByte ctI_WrongByte ocI_BadValue kVI_BadValue dcI_BadValue pmI_BadValue cdI_BadValue ctI_BadValue ocI_BadNumber kVI_BadNumber dcI_BadNumber pmI_BadNumber cdI_BadNumber ctI_BadNumber ocI_UnknownName kVI_UnknownName dcI_UnknownName pmI_UnknownName cdI_UnknownName ctI_UnknownName ocI_BadShape kVI_BadShape dcI_BadShape pmI_BadShape cdI_BadShape ctI_BadShape ocI_DuplicateKey kVI_DuplicateKey dcI_DuplicateKey pmI_DuplicateKey cdI_DuplicateKey ctI_DuplicateKey ocI_BadDeed kVI_BadDeed dcI_BadDeed pmI_BadDeed cdI_BadDeed ctI_BadDeed ocI_BadPath kVI_BadPath dcI_BadPath pmI_BadPath cdI_BadPath ctI_BadPath ocI_NoDocument kVI_NoDocument dcI_NoDocument pmI_NoDocument cdI_NoDocument ctI_NoDocument ocI_TooLong kVI_TooLong dcI_TooLong pmI_TooLong cdI_TooLong ctI_TooLong ocI_Barren kVI_Barren dcI_Barren pmI_Barren cdI_Barren ctI_Barren ocI_Ambiguous kVI_Ambiguous dcI_Ambiguous pmI_Ambiguous cdI_Ambiguous ctI_Ambiguous ocI_Circular kVI_Circular dcI_Circular pmI_Circular cdI_Circular ctI_Circular : Value} {nm_BadItem q_BadItem : Str} {bs_BadItem bm_BadItem : List Value} {sn_BadItem : List Str} {sub_BadItem : List Value} {ab_BadItem : Bool} {col_BadItem : Option Bool} {k0_BadItem k1_BadItem k2_BadItem k3_BadItem k5_BadItem : Option Value} {nm_TooDeep q_TooDeep : Str} {bs_TooDeep bm_TooDeep : List Value} {sn_TooDeep : List Str} {sub_TooDeep : List Value} {ab_TooDeep : Bool} {col_TooDeep : Option Bool} {k0_TooDeep k1_TooDeep k2_TooDeep k3_TooDeep k5_TooDeep : Option Value} {nm_Unfinished q_Unfinished : Str} {bs_Unfinished bm_Unfinished : List Value} {sn_Unfinished : List Str} {sub_Unfinished : List Value} {ab_Unfinished : Bool} {col_Unfinished : Option Bool} {k0_Unfinished k1_Unfinished k2_Unfinished k3_Unfinished k5_Unfinished : Option Value} {nm_WrongByte q_WrongByte : Str} {bs_WrongByte bm_WrongByte : List Value} {sn_WrongByte : List Str} {sub_WrongByte : List Value} {ab_WrongByte : Bool} {col_WrongByte : Option Bool} {k0_WrongByte k1_WrongByte k2_WrongByte k3_WrongByte k5_WrongByte : Option Value} {nm_BadValue q_BadValue : Str} {bs_BadValue bm_BadValue : List Value} {sn_BadValue : List Str} {sub_BadValue : List Value} {ab_BadValue : Bool} {col_BadValue : Option Bool} {k0_BadValue k1_BadValue k2_BadValue k3_BadValue k5_BadValue : Option Value} {nm_BadNumber q_BadNumber : Str} {bs_BadNumber bm_BadNumber : List Value} {sn_BadNumber : List Str} {sub_BadNumber : List Value} {ab_BadNumber : Bool} {col_BadNumber : Option Bool} {k0_BadNumber k1_BadNumber k2_BadNumber k3_BadNumber k5_BadNumber : Option Value} {nm_UnknownName q_UnknownName : Str} {bs_UnknownName bm_UnknownName : List Value} {sn_UnknownName : List Str} {sub_UnknownName : List Value} {ab_UnknownName : Bool} {col_UnknownName : Option Bool} {k0_UnknownName k1_UnknownName k2_UnknownName k3_UnknownName k5_UnknownName : Option Value} {nm_BadShape q_BadShape : Str} {bs_BadShape bm_BadShape : List Value} {sn_BadShape : List Str} {sub_BadShape : List Value} {ab_BadShape : Bool} {col_BadShape : Option Bool} {k0_BadShape k1_BadShape k2_BadShape k3_BadShape k5_BadShape : Option Value} {nm_DuplicateKey q_DuplicateKey : Str} {bs_DuplicateKey bm_DuplicateKey : List Value} {sn_DuplicateKey : List Str} {sub_DuplicateKey : List Value} {ab_DuplicateKey : Bool} {col_DuplicateKey : Option Bool} {k0_DuplicateKey k1_DuplicateKey k2_DuplicateKey k3_DuplicateKey k5_DuplicateKey : Option Value} {nm_BadDeed q_BadDeed : Str} {bs_BadDeed bm_BadDeed : List Value} {sn_BadDeed : List Str} {sub_BadDeed : List Value} {ab_BadDeed : Bool} {col_BadDeed : Option Bool} {k0_BadDeed k1_BadDeed k2_BadDeed k3_BadDeed k5_BadDeed : Option Value} {nm_BadPath q_BadPath : Str} {bs_BadPath bm_BadPath : List Value} {sn_BadPath : List Str} {sub_BadPath : List Value} {ab_BadPath : Bool} {col_BadPath : Option Bool} {k0_BadPath k1_BadPath k2_BadPath k3_BadPath k5_BadPath : Option Value} {nm_NoDocument q_NoDocument : Str} {bs_NoDocument bm_NoDocument : List Value} {sn_NoDocument : List Str} {sub_NoDocument : List Value} {ab_NoDocument : Bool} {col_NoDocument : Option Bool} {k0_NoDocument k1_NoDocument k2_NoDocument k3_NoDocument k5_NoDocument : Option Value} {nm_TooLong q_TooLong : Str} {bs_TooLong bm_TooLong : List Value} {sn_TooLong : List Str} {sub_TooLong : List Value} {ab_TooLong : Bool} {col_TooLong : Option Bool} {k0_TooLong k1_TooLong k2_TooLong k3_TooLong k5_TooLong : Option Value} {nm_Barren q_Barren : Str} {bs_Barren bm_Barren : List Value} {sn_Barren : List Str} {sub_Barren : List Value} {ab_Barren : Bool} {col_Barren : Option Bool} {k0_Barren k1_Barren k2_Barren k3_Barren k5_Barren : Option Value} {nm_Ambiguous q_Ambiguous : Str} {bs_Ambiguous bm_Ambiguous : List Value} {sn_Ambiguous : List Str} {sub_Ambiguous : List Value} {ab_Ambiguous : Bool} {col_Ambiguous : Option Bool} {k0_Ambiguous k1_Ambiguous k2_Ambiguous k3_Ambiguous k5_Ambiguous : Option Value} {nm_Circular q_Circular : Str} {bs_Circular bm_Circular : List Value} {sn_Circular : List Str} {sub_Circular : List Value} {ab_Circular : Bool} {col_Circular : Option Bool} {k0_Circular k1_Circular k2_Circular k3_Circular k5_Circular : Option Value}
    (a__law_bag : PySem.W.nsIn K mainGlobals "_law_bag" = some (some (.ref f__law_bag))) (l__law_bag : K.lookup f__law_bag = some ⟨oc__law_bag, od__law_bag, .func (PySem.W.fnOf "_law_bag" "_law_bag" (defArgs s__law_bag) (defBody s__law_bag) (defScope s__law_bag) .none kV__law_bag dc__law_bag pm__law_bag an__law_bag cd__law_bag ct__law_bag), sl__law_bag⟩) (c__law_bag : PySem.W.codeIn K cd__law_bag "_law_bag" = true) (k__law_bag : PySem.W.keepIn K (.ref f__law_bag) = true)
    (a__law_take : PySem.W.nsIn K mainGlobals "_law_take" = some (some (.ref f__law_take))) (l__law_take : K.lookup f__law_take = some ⟨oc__law_take, od__law_take, .func (PySem.W.fnOf "_law_take" "_law_take" (defArgs s__law_take) (defBody s__law_take) (defScope s__law_take) .none kV__law_take dc__law_take pm__law_take an__law_take cd__law_take ct__law_take), sl__law_take⟩) (c__law_take : PySem.W.codeIn K cd__law_take "_law_take" = true) (k__law_take : PySem.W.keepIn K (.ref f__law_take) = true)
    (a__law_of : PySem.W.nsIn K mainGlobals "_law_of" = some (some (.ref f__law_of))) (l__law_of : K.lookup f__law_of = some ⟨oc__law_of, od__law_of, .func (PySem.W.fnOf "_law_of" "_law_of" (defArgs s__law_of) (defBody s__law_of) (defScope s__law_of) .none kV__law_of dc__law_of pm__law_of an__law_of cd__law_of ct__law_of), sl__law_of⟩) (c__law_of : PySem.W.codeIn K cd__law_of "_law_of" = true) (k__law_of : PySem.W.keepIn K (.ref f__law_of) = true)
    (a__law_made : PySem.W.nsIn K mainGlobals "_law_made" = some (some (.ref f__law_made))) (l__law_made : K.lookup f__law_made = some ⟨oc__law_made, od__law_made, .func (PySem.W.fnOf "_law_made" "_law_made" (defArgs s__law_made) (defBody s__law_made) (defScope s__law_made) .none kV__law_made dc__law_made pm__law_made an__law_made cd__law_made ct__law_made), sl__law_made⟩) (c__law_made : PySem.W.codeIn K cd__law_made "_law_made" = true) (k__law_made : PySem.W.keepIn K (.ref f__law_made) = true)
    (a__law_fields : PySem.W.nsIn K mainGlobals "_law_fields" = some (some (.ref f__law_fields))) (l__law_fields : K.lookup f__law_fields = some ⟨oc__law_fields, od__law_fields, .func (PySem.W.fnOf "_law_fields" "_law_fields" (defArgs s__law_fields) (defBody s__law_fields) (defScope s__law_fields) .none kV__law_fields dc__law_fields pm__law_fields an__law_fields cd__law_fields ct__law_fields), sl__law_fields⟩) (c__law_fields : PySem.W.codeIn K cd__law_fields "_law_fields" = true) (k__law_fields : PySem.W.keepIn K (.ref f__law_fields) = true)
    (a__law_kinds : PySem.W.nsIn K mainGlobals "_law_kinds" = some (some (.ref f__law_kinds))) (l__law_kinds : K.lookup f__law_kinds = some ⟨oc__law_kinds, od__law_kinds, .func (PySem.W.fnOf "_law_kinds" "_law_kinds" (defArgs s__law_kinds) (defBody s__law_kinds) (defScope s__law_kinds) .none kV__law_kinds dc__law_kinds pm__law_kinds an__law_kinds cd__law_kinds ct__law_kinds), sl__law_kinds⟩) (c__law_kinds : PySem.W.codeIn K cd__law_kinds "_law_kinds" = true) (k__law_kinds : PySem.W.keepIn K (.ref f__law_kinds) = true)
    (a_law : PySem.W.nsIn K mainGlobals "law" = some (some (.ref f_law))) (l_law : K.lookup f_law = some ⟨oc_law, od_law, .func (PySem.W.fnOf "law" "law" (defArgs s_law) (defBody s_law) (defScope s_law) .none kV_law dc_law pm_law an_law cd_law ct_law), sl_law⟩) (c_law : PySem.W.codeIn K cd_law "law" = true) (k_law : PySem.W.keepIn K (.ref f_law) = true)
    (z_len : PySem.W.nsIn K mainGlobals "len" = some none)
    (z_abs : PySem.W.nsIn K mainGlobals "abs" = some none)
    (z_int : PySem.W.nsIn K mainGlobals "int" = some none)
    (z_isinstance : PySem.W.nsIn K mainGlobals "isinstance" = some none)
    (z_range : PySem.W.nsIn K mainGlobals "range" = some none)
    (z_max : PySem.W.nsIn K mainGlobals "max" = some none)
    (z_repr : PySem.W.nsIn K mainGlobals "repr" = some none)
    (z_ValueError : PySem.W.nsIn K mainGlobals "ValueError" = some none)
    (z_ShortestBytesError : PySem.W.nsIn K mainGlobals "ShortestBytesError" = some (some (.ref c_ShortestBytesError)))
    (z_BadItem : PySem.W.nsIn K mainGlobals "BadItem" = some (some (.ref c_BadItem)))
    (lC_BadItem : K.lookup c_BadItem = some (excClassObj nm_BadItem q_BadItem c_BadItem N_BadItem bs_BadItem bm_BadItem true sn_BadItem sub_BadItem ab_BadItem col_BadItem dd_BadItem k0_BadItem k1_BadItem k2_BadItem k3_BadItem k5_BadItem "ValueError.__new__"))
    (rv_BadItem : PySem.HandSPX.refsVE bm_BadItem = true)
    (sa_BadItem : PySem.W.findIn K (.ref c_BadItem) "__setattr__" = some (some (.builtin "object.__setattr__")))
    (ex_BadItem : PySem.W.subIn K (.ref c_BadItem) (.type "BaseException") = some true)
    (ty_BadItem : PySem.W.typeIn K (.ref c_BadItem) = some (.type "type"))
    (kp_BadItem : PySem.W.keepIn K (.ref c_BadItem) = true)
    (ga_BadItem : PySem.W.findIn K (.ref c_BadItem) "__getattribute__" = some (some (.builtin "BaseException.__getattribute__")))
    (gg_BadItem : PySem.W.findIn K (.ref c_BadItem) "__getattr__" = some none)
    (hd_BadItem : PySem.W.hasDictIn K c_BadItem = true)
    (cc_BadItem : PySem.W.findIn K (.ref c_BadItem) "__class__" = some (some (.builtin "object.__class__")))
    (ob_BadItem : PySem.W.mroIn K c_BadItem (.type "object") = some true)
    (no_BadItem : PySem.W.findIn K (.ref c_BadItem) "at" = some none)
    (in_BadItem : PySem.W.findIn K (.ref c_BadItem) "__init__" = some (some (.ref fI_BadItem)))
    (ti_BadItem : PySem.W.typeIn K (.ref fI_BadItem) = some (.type "function"))
    (lI_BadItem : K.lookup fI_BadItem = some ⟨ocI_BadItem, odI_BadItem, .func (PySem.W.fnOf "__init__" "BadItem.__init__" (defArgs sI_BadItem) (defBody sI_BadItem) (defScope sI_BadItem) .none kVI_BadItem dcI_BadItem pmI_BadItem anI_BadItem cdI_BadItem ctI_BadItem), slI_BadItem⟩)
    (cI_BadItem : PySem.W.codeIn K cdI_BadItem "BadItem.__init__" = true)
    (kI_BadItem : PySem.W.keepIn K (.ref fI_BadItem) = true)
    (z_TooDeep : PySem.W.nsIn K mainGlobals "TooDeep" = some (some (.ref c_TooDeep)))
    (lC_TooDeep : K.lookup c_TooDeep = some (excClassObj nm_TooDeep q_TooDeep c_TooDeep N_TooDeep bs_TooDeep bm_TooDeep true sn_TooDeep sub_TooDeep ab_TooDeep col_TooDeep dd_TooDeep k0_TooDeep k1_TooDeep k2_TooDeep k3_TooDeep k5_TooDeep "ValueError.__new__"))
    (rv_TooDeep : PySem.HandSPX.refsVE bm_TooDeep = true)
    (sa_TooDeep : PySem.W.findIn K (.ref c_TooDeep) "__setattr__" = some (some (.builtin "object.__setattr__")))
    (ex_TooDeep : PySem.W.subIn K (.ref c_TooDeep) (.type "BaseException") = some true)
    (ty_TooDeep : PySem.W.typeIn K (.ref c_TooDeep) = some (.type "type"))
    (kp_TooDeep : PySem.W.keepIn K (.ref c_TooDeep) = true)
    (ga_TooDeep : PySem.W.findIn K (.ref c_TooDeep) "__getattribute__" = some (some (.builtin "BaseException.__getattribute__")))
    (gg_TooDeep : PySem.W.findIn K (.ref c_TooDeep) "__getattr__" = some none)
    (hd_TooDeep : PySem.W.hasDictIn K c_TooDeep = true)
    (cc_TooDeep : PySem.W.findIn K (.ref c_TooDeep) "__class__" = some (some (.builtin "object.__class__")))
    (ob_TooDeep : PySem.W.mroIn K c_TooDeep (.type "object") = some true)
    (no_TooDeep : PySem.W.findIn K (.ref c_TooDeep) "reached" = some none)
    (in_TooDeep : PySem.W.findIn K (.ref c_TooDeep) "__init__" = some (some (.ref fI_TooDeep)))
    (ti_TooDeep : PySem.W.typeIn K (.ref fI_TooDeep) = some (.type "function"))
    (lI_TooDeep : K.lookup fI_TooDeep = some ⟨ocI_TooDeep, odI_TooDeep, .func (PySem.W.fnOf "__init__" "TooDeep.__init__" (defArgs sI_TooDeep) (defBody sI_TooDeep) (defScope sI_TooDeep) .none kVI_TooDeep dcI_TooDeep pmI_TooDeep anI_TooDeep cdI_TooDeep ctI_TooDeep), slI_TooDeep⟩)
    (cI_TooDeep : PySem.W.codeIn K cdI_TooDeep "TooDeep.__init__" = true)
    (kI_TooDeep : PySem.W.keepIn K (.ref fI_TooDeep) = true)
    (z_Unfinished : PySem.W.nsIn K mainGlobals "Unfinished" = some (some (.ref c_Unfinished)))
    (lC_Unfinished : K.lookup c_Unfinished = some (excClassObj nm_Unfinished q_Unfinished c_Unfinished N_Unfinished bs_Unfinished bm_Unfinished true sn_Unfinished sub_Unfinished ab_Unfinished col_Unfinished dd_Unfinished k0_Unfinished k1_Unfinished k2_Unfinished k3_Unfinished k5_Unfinished "ValueError.__new__"))
    (rv_Unfinished : PySem.HandSPX.refsVE bm_Unfinished = true)
    (sa_Unfinished : PySem.W.findIn K (.ref c_Unfinished) "__setattr__" = some (some (.builtin "object.__setattr__")))
    (ex_Unfinished : PySem.W.subIn K (.ref c_Unfinished) (.type "BaseException") = some true)
    (ty_Unfinished : PySem.W.typeIn K (.ref c_Unfinished) = some (.type "type"))
    (kp_Unfinished : PySem.W.keepIn K (.ref c_Unfinished) = true)
    (ga_Unfinished : PySem.W.findIn K (.ref c_Unfinished) "__getattribute__" = some (some (.builtin "BaseException.__getattribute__")))
    (gg_Unfinished : PySem.W.findIn K (.ref c_Unfinished) "__getattr__" = some none)
    (hd_Unfinished : PySem.W.hasDictIn K c_Unfinished = true)
    (cc_Unfinished : PySem.W.findIn K (.ref c_Unfinished) "__class__" = some (some (.builtin "object.__class__")))
    (ob_Unfinished : PySem.W.mroIn K c_Unfinished (.type "object") = some true)
    (no_Unfinished : PySem.W.findIn K (.ref c_Unfinished) "at" = some none)
    (in_Unfinished : PySem.W.findIn K (.ref c_Unfinished) "__init__" = some (some (.ref fI_Unfinished)))
    (ti_Unfinished : PySem.W.typeIn K (.ref fI_Unfinished) = some (.type "function"))
    (lI_Unfinished : K.lookup fI_Unfinished = some ⟨ocI_Unfinished, odI_Unfinished, .func (PySem.W.fnOf "__init__" "Unfinished.__init__" (defArgs sI_Unfinished) (defBody sI_Unfinished) (defScope sI_Unfinished) .none kVI_Unfinished dcI_Unfinished pmI_Unfinished anI_Unfinished cdI_Unfinished ctI_Unfinished), slI_Unfinished⟩)
    (cI_Unfinished : PySem.W.codeIn K cdI_Unfinished "Unfinished.__init__" = true)
    (kI_Unfinished : PySem.W.keepIn K (.ref fI_Unfinished) = true)
    (z_WrongByte : PySem.W.nsIn K mainGlobals "WrongByte" = some (some (.ref c_WrongByte)))
    (lC_WrongByte : K.lookup c_WrongByte = some (excClassObj nm_WrongByte q_WrongByte c_WrongByte N_WrongByte bs_WrongByte bm_WrongByte true sn_WrongByte sub_WrongByte ab_WrongByte col_WrongByte dd_WrongByte k0_WrongByte k1_WrongByte k2_WrongByte k3_WrongByte k5_WrongByte "ValueError.__new__"))
    (rv_WrongByte : PySem.HandSPX.refsVE bm_WrongByte = true)
    (sa_WrongByte : PySem.W.findIn K (.ref c_WrongByte) "__setattr__" = some (some (.builtin "object.__setattr__")))
    (ex_WrongByte : PySem.W.subIn K (.ref c_WrongByte) (.type "BaseException") = some true)
    (ty_WrongByte : PySem.W.typeIn K (.ref c_WrongByte) = some (.type "type"))
    (kp_WrongByte : PySem.W.keepIn K (.ref c_WrongByte) = true)
    (ga_WrongByte : PySem.W.findIn K (.ref c_WrongByte) "__getattribute__" = some (some (.builtin "BaseException.__getattribute__")))
    (gg_WrongByte : PySem.W.findIn K (.ref c_WrongByte) "__getattr__" = some none)
    (hd_WrongByte : PySem.W.hasDictIn K c_WrongByte = true)
    (cc_WrongByte : PySem.W.findIn K (.ref c_WrongByte) "__class__" = some (some (.builtin "object.__class__")))
    (ob_WrongByte : PySem.W.mroIn K c_WrongByte (.type "object") = some true)
    (no_WrongByte : PySem.W.findIn K (.ref c_WrongByte) "at" = some none)
    (in_WrongByte : PySem.W.findIn K (.ref c_WrongByte) "__init__" = some (some (.ref fI_WrongByte)))
    (ti_WrongByte : PySem.W.typeIn K (.ref fI_WrongByte) = some (.type "function"))
    (lI_WrongByte : K.lookup fI_WrongByte = some ⟨ocI_WrongByte, odI_WrongByte, .func (PySem.W.fnOf "__init__" "WrongByte.__init__" (defArgs sI_WrongByte) (defBody sI_WrongByte) (defScope sI_WrongByte) .none kVI_WrongByte dcI_WrongByte pmI_WrongByte anI_WrongByte cdI_WrongByte ctI_WrongByte), slI_WrongByte⟩)
    (cI_WrongByte : PySem.W.codeIn K cdI_WrongByte "WrongByte.__init__" = true)
    (kI_WrongByte : PySem.W.keepIn K (.ref fI_WrongByte) = true)
    (z_BadValue : PySem.W.nsIn K mainGlobals "BadValue" = some (some (.ref c_BadValue)))
    (lC_BadValue : K.lookup c_BadValue = some (excClassObj nm_BadValue q_BadValue c_BadValue N_BadValue bs_BadValue bm_BadValue true sn_BadValue sub_BadValue ab_BadValue col_BadValue dd_BadValue k0_BadValue k1_BadValue k2_BadValue k3_BadValue k5_BadValue "ValueError.__new__"))
    (rv_BadValue : PySem.HandSPX.refsVE bm_BadValue = true)
    (sa_BadValue : PySem.W.findIn K (.ref c_BadValue) "__setattr__" = some (some (.builtin "object.__setattr__")))
    (ex_BadValue : PySem.W.subIn K (.ref c_BadValue) (.type "BaseException") = some true)
    (ty_BadValue : PySem.W.typeIn K (.ref c_BadValue) = some (.type "type"))
    (kp_BadValue : PySem.W.keepIn K (.ref c_BadValue) = true)
    (ga_BadValue : PySem.W.findIn K (.ref c_BadValue) "__getattribute__" = some (some (.builtin "BaseException.__getattribute__")))
    (gg_BadValue : PySem.W.findIn K (.ref c_BadValue) "__getattr__" = some none)
    (hd_BadValue : PySem.W.hasDictIn K c_BadValue = true)
    (cc_BadValue : PySem.W.findIn K (.ref c_BadValue) "__class__" = some (some (.builtin "object.__class__")))
    (ob_BadValue : PySem.W.mroIn K c_BadValue (.type "object") = some true)
    (no_BadValue : PySem.W.findIn K (.ref c_BadValue) "path" = some none)
    (in_BadValue : PySem.W.findIn K (.ref c_BadValue) "__init__" = some (some (.ref fI_BadValue)))
    (ti_BadValue : PySem.W.typeIn K (.ref fI_BadValue) = some (.type "function"))
    (lI_BadValue : K.lookup fI_BadValue = some ⟨ocI_BadValue, odI_BadValue, .func (PySem.W.fnOf "__init__" "BadValue.__init__" (defArgs sI_BadValue) (defBody sI_BadValue) (defScope sI_BadValue) .none kVI_BadValue dcI_BadValue pmI_BadValue anI_BadValue cdI_BadValue ctI_BadValue), slI_BadValue⟩)
    (cI_BadValue : PySem.W.codeIn K cdI_BadValue "BadValue.__init__" = true)
    (kI_BadValue : PySem.W.keepIn K (.ref fI_BadValue) = true)
    (z_BadNumber : PySem.W.nsIn K mainGlobals "BadNumber" = some (some (.ref c_BadNumber)))
    (lC_BadNumber : K.lookup c_BadNumber = some (excClassObj nm_BadNumber q_BadNumber c_BadNumber N_BadNumber bs_BadNumber bm_BadNumber true sn_BadNumber sub_BadNumber ab_BadNumber col_BadNumber dd_BadNumber k0_BadNumber k1_BadNumber k2_BadNumber k3_BadNumber k5_BadNumber "ValueError.__new__"))
    (rv_BadNumber : PySem.HandSPX.refsVE bm_BadNumber = true)
    (sa_BadNumber : PySem.W.findIn K (.ref c_BadNumber) "__setattr__" = some (some (.builtin "object.__setattr__")))
    (ex_BadNumber : PySem.W.subIn K (.ref c_BadNumber) (.type "BaseException") = some true)
    (ty_BadNumber : PySem.W.typeIn K (.ref c_BadNumber) = some (.type "type"))
    (kp_BadNumber : PySem.W.keepIn K (.ref c_BadNumber) = true)
    (ga_BadNumber : PySem.W.findIn K (.ref c_BadNumber) "__getattribute__" = some (some (.builtin "BaseException.__getattribute__")))
    (gg_BadNumber : PySem.W.findIn K (.ref c_BadNumber) "__getattr__" = some none)
    (hd_BadNumber : PySem.W.hasDictIn K c_BadNumber = true)
    (cc_BadNumber : PySem.W.findIn K (.ref c_BadNumber) "__class__" = some (some (.builtin "object.__class__")))
    (ob_BadNumber : PySem.W.mroIn K c_BadNumber (.type "object") = some true)
    (no_BadNumber : PySem.W.findIn K (.ref c_BadNumber) "number" = some none)
    (in_BadNumber : PySem.W.findIn K (.ref c_BadNumber) "__init__" = some (some (.ref fI_BadNumber)))
    (ti_BadNumber : PySem.W.typeIn K (.ref fI_BadNumber) = some (.type "function"))
    (lI_BadNumber : K.lookup fI_BadNumber = some ⟨ocI_BadNumber, odI_BadNumber, .func (PySem.W.fnOf "__init__" "BadNumber.__init__" (defArgs sI_BadNumber) (defBody sI_BadNumber) (defScope sI_BadNumber) .none kVI_BadNumber dcI_BadNumber pmI_BadNumber anI_BadNumber cdI_BadNumber ctI_BadNumber), slI_BadNumber⟩)
    (cI_BadNumber : PySem.W.codeIn K cdI_BadNumber "BadNumber.__init__" = true)
    (kI_BadNumber : PySem.W.keepIn K (.ref fI_BadNumber) = true)
    (z_UnknownName : PySem.W.nsIn K mainGlobals "UnknownName" = some (some (.ref c_UnknownName)))
    (lC_UnknownName : K.lookup c_UnknownName = some (excClassObj nm_UnknownName q_UnknownName c_UnknownName N_UnknownName bs_UnknownName bm_UnknownName true sn_UnknownName sub_UnknownName ab_UnknownName col_UnknownName dd_UnknownName k0_UnknownName k1_UnknownName k2_UnknownName k3_UnknownName k5_UnknownName "ValueError.__new__"))
    (rv_UnknownName : PySem.HandSPX.refsVE bm_UnknownName = true)
    (sa_UnknownName : PySem.W.findIn K (.ref c_UnknownName) "__setattr__" = some (some (.builtin "object.__setattr__")))
    (ex_UnknownName : PySem.W.subIn K (.ref c_UnknownName) (.type "BaseException") = some true)
    (ty_UnknownName : PySem.W.typeIn K (.ref c_UnknownName) = some (.type "type"))
    (kp_UnknownName : PySem.W.keepIn K (.ref c_UnknownName) = true)
    (ga_UnknownName : PySem.W.findIn K (.ref c_UnknownName) "__getattribute__" = some (some (.builtin "BaseException.__getattribute__")))
    (gg_UnknownName : PySem.W.findIn K (.ref c_UnknownName) "__getattr__" = some none)
    (hd_UnknownName : PySem.W.hasDictIn K c_UnknownName = true)
    (cc_UnknownName : PySem.W.findIn K (.ref c_UnknownName) "__class__" = some (some (.builtin "object.__class__")))
    (ob_UnknownName : PySem.W.mroIn K c_UnknownName (.type "object") = some true)
    (no_UnknownName : PySem.W.findIn K (.ref c_UnknownName) "name" = some none)
    (in_UnknownName : PySem.W.findIn K (.ref c_UnknownName) "__init__" = some (some (.ref fI_UnknownName)))
    (ti_UnknownName : PySem.W.typeIn K (.ref fI_UnknownName) = some (.type "function"))
    (lI_UnknownName : K.lookup fI_UnknownName = some ⟨ocI_UnknownName, odI_UnknownName, .func (PySem.W.fnOf "__init__" "UnknownName.__init__" (defArgs sI_UnknownName) (defBody sI_UnknownName) (defScope sI_UnknownName) .none kVI_UnknownName dcI_UnknownName pmI_UnknownName anI_UnknownName cdI_UnknownName ctI_UnknownName), slI_UnknownName⟩)
    (cI_UnknownName : PySem.W.codeIn K cdI_UnknownName "UnknownName.__init__" = true)
    (kI_UnknownName : PySem.W.keepIn K (.ref fI_UnknownName) = true)
    (z_BadShape : PySem.W.nsIn K mainGlobals "BadShape" = some (some (.ref c_BadShape)))
    (lC_BadShape : K.lookup c_BadShape = some (excClassObj nm_BadShape q_BadShape c_BadShape N_BadShape bs_BadShape bm_BadShape true sn_BadShape sub_BadShape ab_BadShape col_BadShape dd_BadShape k0_BadShape k1_BadShape k2_BadShape k3_BadShape k5_BadShape "ValueError.__new__"))
    (rv_BadShape : PySem.HandSPX.refsVE bm_BadShape = true)
    (sa_BadShape : PySem.W.findIn K (.ref c_BadShape) "__setattr__" = some (some (.builtin "object.__setattr__")))
    (ex_BadShape : PySem.W.subIn K (.ref c_BadShape) (.type "BaseException") = some true)
    (ty_BadShape : PySem.W.typeIn K (.ref c_BadShape) = some (.type "type"))
    (kp_BadShape : PySem.W.keepIn K (.ref c_BadShape) = true)
    (ga_BadShape : PySem.W.findIn K (.ref c_BadShape) "__getattribute__" = some (some (.builtin "BaseException.__getattribute__")))
    (gg_BadShape : PySem.W.findIn K (.ref c_BadShape) "__getattr__" = some none)
    (hd_BadShape : PySem.W.hasDictIn K c_BadShape = true)
    (cc_BadShape : PySem.W.findIn K (.ref c_BadShape) "__class__" = some (some (.builtin "object.__class__")))
    (ob_BadShape : PySem.W.mroIn K c_BadShape (.type "object") = some true)
    (no_BadShape : PySem.W.findIn K (.ref c_BadShape) "word" = some none)
    (in_BadShape : PySem.W.findIn K (.ref c_BadShape) "__init__" = some (some (.ref fI_BadShape)))
    (ti_BadShape : PySem.W.typeIn K (.ref fI_BadShape) = some (.type "function"))
    (lI_BadShape : K.lookup fI_BadShape = some ⟨ocI_BadShape, odI_BadShape, .func (PySem.W.fnOf "__init__" "BadShape.__init__" (defArgs sI_BadShape) (defBody sI_BadShape) (defScope sI_BadShape) .none kVI_BadShape dcI_BadShape pmI_BadShape anI_BadShape cdI_BadShape ctI_BadShape), slI_BadShape⟩)
    (cI_BadShape : PySem.W.codeIn K cdI_BadShape "BadShape.__init__" = true)
    (kI_BadShape : PySem.W.keepIn K (.ref fI_BadShape) = true)
    (z_DuplicateKey : PySem.W.nsIn K mainGlobals "DuplicateKey" = some (some (.ref c_DuplicateKey)))
    (lC_DuplicateKey : K.lookup c_DuplicateKey = some (excClassObj nm_DuplicateKey q_DuplicateKey c_DuplicateKey N_DuplicateKey bs_DuplicateKey bm_DuplicateKey true sn_DuplicateKey sub_DuplicateKey ab_DuplicateKey col_DuplicateKey dd_DuplicateKey k0_DuplicateKey k1_DuplicateKey k2_DuplicateKey k3_DuplicateKey k5_DuplicateKey "ValueError.__new__"))
    (rv_DuplicateKey : PySem.HandSPX.refsVE bm_DuplicateKey = true)
    (sa_DuplicateKey : PySem.W.findIn K (.ref c_DuplicateKey) "__setattr__" = some (some (.builtin "object.__setattr__")))
    (ex_DuplicateKey : PySem.W.subIn K (.ref c_DuplicateKey) (.type "BaseException") = some true)
    (ty_DuplicateKey : PySem.W.typeIn K (.ref c_DuplicateKey) = some (.type "type"))
    (kp_DuplicateKey : PySem.W.keepIn K (.ref c_DuplicateKey) = true)
    (ga_DuplicateKey : PySem.W.findIn K (.ref c_DuplicateKey) "__getattribute__" = some (some (.builtin "BaseException.__getattribute__")))
    (gg_DuplicateKey : PySem.W.findIn K (.ref c_DuplicateKey) "__getattr__" = some none)
    (hd_DuplicateKey : PySem.W.hasDictIn K c_DuplicateKey = true)
    (cc_DuplicateKey : PySem.W.findIn K (.ref c_DuplicateKey) "__class__" = some (some (.builtin "object.__class__")))
    (ob_DuplicateKey : PySem.W.mroIn K c_DuplicateKey (.type "object") = some true)
    (no_DuplicateKey : PySem.W.findIn K (.ref c_DuplicateKey) "at" = some none)
    (in_DuplicateKey : PySem.W.findIn K (.ref c_DuplicateKey) "__init__" = some (some (.ref fI_DuplicateKey)))
    (ti_DuplicateKey : PySem.W.typeIn K (.ref fI_DuplicateKey) = some (.type "function"))
    (lI_DuplicateKey : K.lookup fI_DuplicateKey = some ⟨ocI_DuplicateKey, odI_DuplicateKey, .func (PySem.W.fnOf "__init__" "DuplicateKey.__init__" (defArgs sI_DuplicateKey) (defBody sI_DuplicateKey) (defScope sI_DuplicateKey) .none kVI_DuplicateKey dcI_DuplicateKey pmI_DuplicateKey anI_DuplicateKey cdI_DuplicateKey ctI_DuplicateKey), slI_DuplicateKey⟩)
    (cI_DuplicateKey : PySem.W.codeIn K cdI_DuplicateKey "DuplicateKey.__init__" = true)
    (kI_DuplicateKey : PySem.W.keepIn K (.ref fI_DuplicateKey) = true)
    (z_BadDeed : PySem.W.nsIn K mainGlobals "BadDeed" = some (some (.ref c_BadDeed)))
    (lC_BadDeed : K.lookup c_BadDeed = some (excClassObj nm_BadDeed q_BadDeed c_BadDeed N_BadDeed bs_BadDeed bm_BadDeed true sn_BadDeed sub_BadDeed ab_BadDeed col_BadDeed dd_BadDeed k0_BadDeed k1_BadDeed k2_BadDeed k3_BadDeed k5_BadDeed "ValueError.__new__"))
    (rv_BadDeed : PySem.HandSPX.refsVE bm_BadDeed = true)
    (sa_BadDeed : PySem.W.findIn K (.ref c_BadDeed) "__setattr__" = some (some (.builtin "object.__setattr__")))
    (ex_BadDeed : PySem.W.subIn K (.ref c_BadDeed) (.type "BaseException") = some true)
    (ty_BadDeed : PySem.W.typeIn K (.ref c_BadDeed) = some (.type "type"))
    (kp_BadDeed : PySem.W.keepIn K (.ref c_BadDeed) = true)
    (ga_BadDeed : PySem.W.findIn K (.ref c_BadDeed) "__getattribute__" = some (some (.builtin "BaseException.__getattribute__")))
    (gg_BadDeed : PySem.W.findIn K (.ref c_BadDeed) "__getattr__" = some none)
    (hd_BadDeed : PySem.W.hasDictIn K c_BadDeed = true)
    (cc_BadDeed : PySem.W.findIn K (.ref c_BadDeed) "__class__" = some (some (.builtin "object.__class__")))
    (ob_BadDeed : PySem.W.mroIn K c_BadDeed (.type "object") = some true)
    (no_BadDeed : PySem.W.findIn K (.ref c_BadDeed) "at" = some none)
    (in_BadDeed : PySem.W.findIn K (.ref c_BadDeed) "__init__" = some (some (.ref fI_BadDeed)))
    (ti_BadDeed : PySem.W.typeIn K (.ref fI_BadDeed) = some (.type "function"))
    (lI_BadDeed : K.lookup fI_BadDeed = some ⟨ocI_BadDeed, odI_BadDeed, .func (PySem.W.fnOf "__init__" "BadDeed.__init__" (defArgs sI_BadDeed) (defBody sI_BadDeed) (defScope sI_BadDeed) .none kVI_BadDeed dcI_BadDeed pmI_BadDeed anI_BadDeed cdI_BadDeed ctI_BadDeed), slI_BadDeed⟩)
    (cI_BadDeed : PySem.W.codeIn K cdI_BadDeed "BadDeed.__init__" = true)
    (kI_BadDeed : PySem.W.keepIn K (.ref fI_BadDeed) = true)
    (z_BadPath : PySem.W.nsIn K mainGlobals "BadPath" = some (some (.ref c_BadPath)))
    (lC_BadPath : K.lookup c_BadPath = some (excClassObj nm_BadPath q_BadPath c_BadPath N_BadPath bs_BadPath bm_BadPath true sn_BadPath sub_BadPath ab_BadPath col_BadPath dd_BadPath k0_BadPath k1_BadPath k2_BadPath k3_BadPath k5_BadPath "ValueError.__new__"))
    (rv_BadPath : PySem.HandSPX.refsVE bm_BadPath = true)
    (sa_BadPath : PySem.W.findIn K (.ref c_BadPath) "__setattr__" = some (some (.builtin "object.__setattr__")))
    (ex_BadPath : PySem.W.subIn K (.ref c_BadPath) (.type "BaseException") = some true)
    (ty_BadPath : PySem.W.typeIn K (.ref c_BadPath) = some (.type "type"))
    (kp_BadPath : PySem.W.keepIn K (.ref c_BadPath) = true)
    (ga_BadPath : PySem.W.findIn K (.ref c_BadPath) "__getattribute__" = some (some (.builtin "BaseException.__getattribute__")))
    (gg_BadPath : PySem.W.findIn K (.ref c_BadPath) "__getattr__" = some none)
    (hd_BadPath : PySem.W.hasDictIn K c_BadPath = true)
    (cc_BadPath : PySem.W.findIn K (.ref c_BadPath) "__class__" = some (some (.builtin "object.__class__")))
    (ob_BadPath : PySem.W.mroIn K c_BadPath (.type "object") = some true)
    (no_BadPath : PySem.W.findIn K (.ref c_BadPath) "at" = some none)
    (in_BadPath : PySem.W.findIn K (.ref c_BadPath) "__init__" = some (some (.ref fI_BadPath)))
    (ti_BadPath : PySem.W.typeIn K (.ref fI_BadPath) = some (.type "function"))
    (lI_BadPath : K.lookup fI_BadPath = some ⟨ocI_BadPath, odI_BadPath, .func (PySem.W.fnOf "__init__" "BadPath.__init__" (defArgs sI_BadPath) (defBody sI_BadPath) (defScope sI_BadPath) .none kVI_BadPath dcI_BadPath pmI_BadPath anI_BadPath cdI_BadPath ctI_BadPath), slI_BadPath⟩)
    (cI_BadPath : PySem.W.codeIn K cdI_BadPath "BadPath.__init__" = true)
    (kI_BadPath : PySem.W.keepIn K (.ref fI_BadPath) = true)
    (z_NoDocument : PySem.W.nsIn K mainGlobals "NoDocument" = some (some (.ref c_NoDocument)))
    (lC_NoDocument : K.lookup c_NoDocument = some (excClassObj nm_NoDocument q_NoDocument c_NoDocument N_NoDocument bs_NoDocument bm_NoDocument true sn_NoDocument sub_NoDocument ab_NoDocument col_NoDocument dd_NoDocument k0_NoDocument k1_NoDocument k2_NoDocument k3_NoDocument k5_NoDocument "ValueError.__new__"))
    (rv_NoDocument : PySem.HandSPX.refsVE bm_NoDocument = true)
    (sa_NoDocument : PySem.W.findIn K (.ref c_NoDocument) "__setattr__" = some (some (.builtin "object.__setattr__")))
    (ex_NoDocument : PySem.W.subIn K (.ref c_NoDocument) (.type "BaseException") = some true)
    (ty_NoDocument : PySem.W.typeIn K (.ref c_NoDocument) = some (.type "type"))
    (kp_NoDocument : PySem.W.keepIn K (.ref c_NoDocument) = true)
    (ga_NoDocument : PySem.W.findIn K (.ref c_NoDocument) "__getattribute__" = some (some (.builtin "BaseException.__getattribute__")))
    (gg_NoDocument : PySem.W.findIn K (.ref c_NoDocument) "__getattr__" = some none)
    (hd_NoDocument : PySem.W.hasDictIn K c_NoDocument = true)
    (cc_NoDocument : PySem.W.findIn K (.ref c_NoDocument) "__class__" = some (some (.builtin "object.__class__")))
    (ob_NoDocument : PySem.W.mroIn K c_NoDocument (.type "object") = some true)
    (no_NoDocument : PySem.W.findIn K (.ref c_NoDocument) "number" = some none)
    (in_NoDocument : PySem.W.findIn K (.ref c_NoDocument) "__init__" = some (some (.ref fI_NoDocument)))
    (ti_NoDocument : PySem.W.typeIn K (.ref fI_NoDocument) = some (.type "function"))
    (lI_NoDocument : K.lookup fI_NoDocument = some ⟨ocI_NoDocument, odI_NoDocument, .func (PySem.W.fnOf "__init__" "NoDocument.__init__" (defArgs sI_NoDocument) (defBody sI_NoDocument) (defScope sI_NoDocument) .none kVI_NoDocument dcI_NoDocument pmI_NoDocument anI_NoDocument cdI_NoDocument ctI_NoDocument), slI_NoDocument⟩)
    (cI_NoDocument : PySem.W.codeIn K cdI_NoDocument "NoDocument.__init__" = true)
    (kI_NoDocument : PySem.W.keepIn K (.ref fI_NoDocument) = true)
    (z_TooLong : PySem.W.nsIn K mainGlobals "TooLong" = some (some (.ref c_TooLong)))
    (lC_TooLong : K.lookup c_TooLong = some (excClassObj nm_TooLong q_TooLong c_TooLong N_TooLong bs_TooLong bm_TooLong true sn_TooLong sub_TooLong ab_TooLong col_TooLong dd_TooLong k0_TooLong k1_TooLong k2_TooLong k3_TooLong k5_TooLong "ValueError.__new__"))
    (rv_TooLong : PySem.HandSPX.refsVE bm_TooLong = true)
    (sa_TooLong : PySem.W.findIn K (.ref c_TooLong) "__setattr__" = some (some (.builtin "object.__setattr__")))
    (ex_TooLong : PySem.W.subIn K (.ref c_TooLong) (.type "BaseException") = some true)
    (ty_TooLong : PySem.W.typeIn K (.ref c_TooLong) = some (.type "type"))
    (kp_TooLong : PySem.W.keepIn K (.ref c_TooLong) = true)
    (ga_TooLong : PySem.W.findIn K (.ref c_TooLong) "__getattribute__" = some (some (.builtin "BaseException.__getattribute__")))
    (gg_TooLong : PySem.W.findIn K (.ref c_TooLong) "__getattr__" = some none)
    (hd_TooLong : PySem.W.hasDictIn K c_TooLong = true)
    (cc_TooLong : PySem.W.findIn K (.ref c_TooLong) "__class__" = some (some (.builtin "object.__class__")))
    (ob_TooLong : PySem.W.mroIn K c_TooLong (.type "object") = some true)
    (no_TooLong : PySem.W.findIn K (.ref c_TooLong) "debt" = some none)
    (in_TooLong : PySem.W.findIn K (.ref c_TooLong) "__init__" = some (some (.ref fI_TooLong)))
    (ti_TooLong : PySem.W.typeIn K (.ref fI_TooLong) = some (.type "function"))
    (lI_TooLong : K.lookup fI_TooLong = some ⟨ocI_TooLong, odI_TooLong, .func (PySem.W.fnOf "__init__" "TooLong.__init__" (defArgs sI_TooLong) (defBody sI_TooLong) (defScope sI_TooLong) .none kVI_TooLong dcI_TooLong pmI_TooLong anI_TooLong cdI_TooLong ctI_TooLong), slI_TooLong⟩)
    (cI_TooLong : PySem.W.codeIn K cdI_TooLong "TooLong.__init__" = true)
    (kI_TooLong : PySem.W.keepIn K (.ref fI_TooLong) = true)
    (z_Barren : PySem.W.nsIn K mainGlobals "Barren" = some (some (.ref c_Barren)))
    (lC_Barren : K.lookup c_Barren = some (excClassObj nm_Barren q_Barren c_Barren N_Barren bs_Barren bm_Barren true sn_Barren sub_Barren ab_Barren col_Barren dd_Barren k0_Barren k1_Barren k2_Barren k3_Barren k5_Barren "ValueError.__new__"))
    (rv_Barren : PySem.HandSPX.refsVE bm_Barren = true)
    (sa_Barren : PySem.W.findIn K (.ref c_Barren) "__setattr__" = some (some (.builtin "object.__setattr__")))
    (ex_Barren : PySem.W.subIn K (.ref c_Barren) (.type "BaseException") = some true)
    (ty_Barren : PySem.W.typeIn K (.ref c_Barren) = some (.type "type"))
    (kp_Barren : PySem.W.keepIn K (.ref c_Barren) = true)
    (ga_Barren : PySem.W.findIn K (.ref c_Barren) "__getattribute__" = some (some (.builtin "BaseException.__getattribute__")))
    (gg_Barren : PySem.W.findIn K (.ref c_Barren) "__getattr__" = some none)
    (hd_Barren : PySem.W.hasDictIn K c_Barren = true)
    (cc_Barren : PySem.W.findIn K (.ref c_Barren) "__class__" = some (some (.builtin "object.__class__")))
    (ob_Barren : PySem.W.mroIn K c_Barren (.type "object") = some true)
    (no_Barren : PySem.W.findIn K (.ref c_Barren) "name" = some none)
    (in_Barren : PySem.W.findIn K (.ref c_Barren) "__init__" = some (some (.ref fI_Barren)))
    (ti_Barren : PySem.W.typeIn K (.ref fI_Barren) = some (.type "function"))
    (lI_Barren : K.lookup fI_Barren = some ⟨ocI_Barren, odI_Barren, .func (PySem.W.fnOf "__init__" "Barren.__init__" (defArgs sI_Barren) (defBody sI_Barren) (defScope sI_Barren) .none kVI_Barren dcI_Barren pmI_Barren anI_Barren cdI_Barren ctI_Barren), slI_Barren⟩)
    (cI_Barren : PySem.W.codeIn K cdI_Barren "Barren.__init__" = true)
    (kI_Barren : PySem.W.keepIn K (.ref fI_Barren) = true)
    (z_Ambiguous : PySem.W.nsIn K mainGlobals "Ambiguous" = some (some (.ref c_Ambiguous)))
    (lC_Ambiguous : K.lookup c_Ambiguous = some (excClassObj nm_Ambiguous q_Ambiguous c_Ambiguous N_Ambiguous bs_Ambiguous bm_Ambiguous true sn_Ambiguous sub_Ambiguous ab_Ambiguous col_Ambiguous dd_Ambiguous k0_Ambiguous k1_Ambiguous k2_Ambiguous k3_Ambiguous k5_Ambiguous "ValueError.__new__"))
    (rv_Ambiguous : PySem.HandSPX.refsVE bm_Ambiguous = true)
    (sa_Ambiguous : PySem.W.findIn K (.ref c_Ambiguous) "__setattr__" = some (some (.builtin "object.__setattr__")))
    (ex_Ambiguous : PySem.W.subIn K (.ref c_Ambiguous) (.type "BaseException") = some true)
    (ty_Ambiguous : PySem.W.typeIn K (.ref c_Ambiguous) = some (.type "type"))
    (kp_Ambiguous : PySem.W.keepIn K (.ref c_Ambiguous) = true)
    (ga_Ambiguous : PySem.W.findIn K (.ref c_Ambiguous) "__getattribute__" = some (some (.builtin "BaseException.__getattribute__")))
    (gg_Ambiguous : PySem.W.findIn K (.ref c_Ambiguous) "__getattr__" = some none)
    (hd_Ambiguous : PySem.W.hasDictIn K c_Ambiguous = true)
    (cc_Ambiguous : PySem.W.findIn K (.ref c_Ambiguous) "__class__" = some (some (.builtin "object.__class__")))
    (ob_Ambiguous : PySem.W.mroIn K c_Ambiguous (.type "object") = some true)
    (no_Ambiguous : PySem.W.findIn K (.ref c_Ambiguous) "name" = some none)
    (in_Ambiguous : PySem.W.findIn K (.ref c_Ambiguous) "__init__" = some (some (.ref fI_Ambiguous)))
    (ti_Ambiguous : PySem.W.typeIn K (.ref fI_Ambiguous) = some (.type "function"))
    (lI_Ambiguous : K.lookup fI_Ambiguous = some ⟨ocI_Ambiguous, odI_Ambiguous, .func (PySem.W.fnOf "__init__" "Ambiguous.__init__" (defArgs sI_Ambiguous) (defBody sI_Ambiguous) (defScope sI_Ambiguous) .none kVI_Ambiguous dcI_Ambiguous pmI_Ambiguous anI_Ambiguous cdI_Ambiguous ctI_Ambiguous), slI_Ambiguous⟩)
    (cI_Ambiguous : PySem.W.codeIn K cdI_Ambiguous "Ambiguous.__init__" = true)
    (kI_Ambiguous : PySem.W.keepIn K (.ref fI_Ambiguous) = true)
    (z_Circular : PySem.W.nsIn K mainGlobals "Circular" = some (some (.ref c_Circular)))
    (lC_Circular : K.lookup c_Circular = some (excClassObj nm_Circular q_Circular c_Circular N_Circular bs_Circular bm_Circular true sn_Circular sub_Circular ab_Circular col_Circular dd_Circular k0_Circular k1_Circular k2_Circular k3_Circular k5_Circular "ValueError.__new__"))
    (rv_Circular : PySem.HandSPX.refsVE bm_Circular = true)
    (sa_Circular : PySem.W.findIn K (.ref c_Circular) "__setattr__" = some (some (.builtin "object.__setattr__")))
    (ex_Circular : PySem.W.subIn K (.ref c_Circular) (.type "BaseException") = some true)
    (ty_Circular : PySem.W.typeIn K (.ref c_Circular) = some (.type "type"))
    (kp_Circular : PySem.W.keepIn K (.ref c_Circular) = true)
    (ga_Circular : PySem.W.findIn K (.ref c_Circular) "__getattribute__" = some (some (.builtin "BaseException.__getattribute__")))
    (gg_Circular : PySem.W.findIn K (.ref c_Circular) "__getattr__" = some none)
    (hd_Circular : PySem.W.hasDictIn K c_Circular = true)
    (cc_Circular : PySem.W.findIn K (.ref c_Circular) "__class__" = some (some (.builtin "object.__class__")))
    (ob_Circular : PySem.W.mroIn K c_Circular (.type "object") = some true)
    (no_Circular : PySem.W.findIn K (.ref c_Circular) "name" = some none)
    (in_Circular : PySem.W.findIn K (.ref c_Circular) "__init__" = some (some (.ref fI_Circular)))
    (ti_Circular : PySem.W.typeIn K (.ref fI_Circular) = some (.type "function"))
    (lI_Circular : K.lookup fI_Circular = some ⟨ocI_Circular, odI_Circular, .func (PySem.W.fnOf "__init__" "Circular.__init__" (defArgs sI_Circular) (defBody sI_Circular) (defScope sI_Circular) .none kVI_Circular dcI_Circular pmI_Circular anI_Circular cdI_Circular ctI_Circular), slI_Circular⟩)
    (cI_Circular : PySem.W.codeIn K cdI_Circular "Circular.__init__" = true)
    (kI_Circular : PySem.W.keepIn K (.ref fI_Circular) = true)
    (ge : PySem.W.specialIn K (.builtin "object.__class__") "__get__" = some (some (.builtin "getset_descriptor.__get__"))) (tk : PySem.W.takesIn K (.builtin "object.__class__") = some true)
    (kinds : kindsB K [c_BadNumber, c_BadValue, c_WrongByte, c_Unfinished, c_TooDeep, c_BadItem, c_BadPath, c_BadDeed, c_DuplicateKey, c_BadShape, c_UnknownName, c_Circular, c_Ambiguous, c_Barren, c_TooLong, c_NoDocument] c_ShortestBytesError = true)
    (h_SBE : PySem.W.hasDictIn K c_ShortestBytesError = true)
    (t_SBE : PySem.W.typeIn K (.ref c_ShortestBytesError) = some (.type "type")) :
    ∃ fd : FuncData, (∀ (s : Shared) (v : Value), BindsTo s fd ⟨[v], []⟩ [("_law_script", v)]) ∧ ∀ base : Heap, K.In base → base.Ns mainGlobals mg → Told l.prog w K mg base CX0 5 fa fd ["_law_script"] (spLaw K) := by
  have e := hfa.symm.trans (PySem.W.mg_of X G a_law)
  cases e
  have F__law_bag := fun_mk (st := s__law_bag) l__law_bag c__law_bag k__law_bag
  have b__law_bag := F__law_bag.binds (ps := ["_law_script", "_law_at"]) fun _ _ _ _ _ _ us hl => match us, hl with | [_, _], _ => rfl
  have F__law_take := fun_mk (st := s__law_take) l__law_take c__law_take k__law_take
  have b__law_take := F__law_take.binds (ps := ["_law_bag_here", "_law_many"]) fun _ _ _ _ _ _ us hl => match us, hl with | [_, _], _ => rfl
  have F__law_of := fun_mk (st := s__law_of) l__law_of c__law_of k__law_of
  have b__law_of := F__law_of.binds (ps := ["_law_bag_here", "_law_some"]) fun _ _ _ _ _ _ us hl => match us, hl with | [_, _], _ => rfl
  have F__law_made := fun_mk (st := s__law_made) l__law_made c__law_made k__law_made
  have b__law_made := F__law_made.binds (ps := ["_law_field"]) fun _ _ _ _ _ _ us hl => match us, hl with | [_], _ => rfl
  have F__law_fields := fun_mk (st := s__law_fields) l__law_fields c__law_fields k__law_fields
  have b__law_fields := F__law_fields.binds (ps := ["_law_some"]) fun _ _ _ _ _ _ us hl => match us, hl with | [_], _ => rfl
  have F__law_kinds := fun_mk (st := s__law_kinds) l__law_kinds c__law_kinds k__law_kinds
  have b__law_kinds := F__law_kinds.binds (ps := ["_law_e"]) fun _ _ _ _ _ _ us hl => match us, hl with | [_], _ => rfl
  have F_law := fun_mk (st := s_law) l_law c_law k_law
  have m_len := PySem.W.mg_none_of X G z_len
  have m_abs := PySem.W.mg_none_of X G z_abs
  have m_int := PySem.W.mg_none_of X G z_int
  have m_isinstance := PySem.W.mg_none_of X G z_isinstance
  have m_range := PySem.W.mg_none_of X G z_range
  have m_max := PySem.W.mg_none_of X G z_max
  have m_repr := PySem.W.mg_none_of X G z_repr
  have m_ValueError := PySem.W.mg_none_of X G z_ValueError
  have g_ShortestBytesError := PySem.W.mg_of X G z_ShortestBytesError
  have FI_BadItem := fun_mk (st := sI_BadItem) lI_BadItem cI_BadItem kI_BadItem
  have bI_BadItem := FI_BadItem.binds (ps := ["self", "at"]) fun _ _ _ _ _ _ us hl => match us, hl with | [_, _], _ => rfl
  have FI_TooDeep := fun_mk (st := sI_TooDeep) lI_TooDeep cI_TooDeep kI_TooDeep
  have bI_TooDeep := FI_TooDeep.binds (ps := ["self", "reached"]) fun _ _ _ _ _ _ us hl => match us, hl with | [_, _], _ => rfl
  have FI_Unfinished := fun_mk (st := sI_Unfinished) lI_Unfinished cI_Unfinished kI_Unfinished
  have bI_Unfinished := FI_Unfinished.binds (ps := ["self", "at"]) fun _ _ _ _ _ _ us hl => match us, hl with | [_, _], _ => rfl
  have FI_WrongByte := fun_mk (st := sI_WrongByte) lI_WrongByte cI_WrongByte kI_WrongByte
  have bI_WrongByte := FI_WrongByte.binds (ps := ["self", "at"]) fun _ _ _ _ _ _ us hl => match us, hl with | [_, _], _ => rfl
  have FI_BadValue := fun_mk (st := sI_BadValue) lI_BadValue cI_BadValue kI_BadValue
  have bI_BadValue := FI_BadValue.binds (ps := ["self", "path"]) fun _ _ _ _ _ _ us hl => match us, hl with | [_, _], _ => rfl
  have FI_BadNumber := fun_mk (st := sI_BadNumber) lI_BadNumber cI_BadNumber kI_BadNumber
  have bI_BadNumber := FI_BadNumber.binds (ps := ["self", "number"]) fun _ _ _ _ _ _ us hl => match us, hl with | [_, _], _ => rfl
  have FI_UnknownName := fun_mk (st := sI_UnknownName) lI_UnknownName cI_UnknownName kI_UnknownName
  have bI_UnknownName := FI_UnknownName.binds (ps := ["self", "name"]) fun _ _ _ _ _ _ us hl => match us, hl with | [_, _], _ => rfl
  have FI_BadShape := fun_mk (st := sI_BadShape) lI_BadShape cI_BadShape kI_BadShape
  have bI_BadShape := FI_BadShape.binds (ps := ["self", "word"]) fun _ _ _ _ _ _ us hl => match us, hl with | [_, _], _ => rfl
  have FI_DuplicateKey := fun_mk (st := sI_DuplicateKey) lI_DuplicateKey cI_DuplicateKey kI_DuplicateKey
  have bI_DuplicateKey := FI_DuplicateKey.binds (ps := ["self", "at"]) fun _ _ _ _ _ _ us hl => match us, hl with | [_, _], _ => rfl
  have FI_BadDeed := fun_mk (st := sI_BadDeed) lI_BadDeed cI_BadDeed kI_BadDeed
  have bI_BadDeed := FI_BadDeed.binds (ps := ["self", "at"]) fun _ _ _ _ _ _ us hl => match us, hl with | [_, _], _ => rfl
  have FI_BadPath := fun_mk (st := sI_BadPath) lI_BadPath cI_BadPath kI_BadPath
  have bI_BadPath := FI_BadPath.binds (ps := ["self", "at"]) fun _ _ _ _ _ _ us hl => match us, hl with | [_, _], _ => rfl
  have FI_NoDocument := fun_mk (st := sI_NoDocument) lI_NoDocument cI_NoDocument kI_NoDocument
  have bI_NoDocument := FI_NoDocument.binds (ps := ["self", "number"]) fun _ _ _ _ _ _ us hl => match us, hl with | [_, _], _ => rfl
  have FI_TooLong := fun_mk (st := sI_TooLong) lI_TooLong cI_TooLong kI_TooLong
  have bI_TooLong := FI_TooLong.binds (ps := ["self", "debt"]) fun _ _ _ _ _ _ us hl => match us, hl with | [_, _], _ => rfl
  have FI_Barren := fun_mk (st := sI_Barren) lI_Barren cI_Barren kI_Barren
  have bI_Barren := FI_Barren.binds (ps := ["self", "name"]) fun _ _ _ _ _ _ us hl => match us, hl with | [_, _], _ => rfl
  have FI_Ambiguous := fun_mk (st := sI_Ambiguous) lI_Ambiguous cI_Ambiguous kI_Ambiguous
  have bI_Ambiguous := FI_Ambiguous.binds (ps := ["self", "name"]) fun _ _ _ _ _ _ us hl => match us, hl with | [_, _], _ => rfl
  have FI_Circular := fun_mk (st := sI_Circular) lI_Circular cI_Circular kI_Circular
  have bI_Circular := FI_Circular.binds (ps := ["self", "name"]) fun _ _ _ _ _ _ us hl => match us, hl with | [_, _], _ => rfl
  refine ⟨PySem.W.fnOf "law" "law" (defArgs s_law) (defBody s_law) (defScope s_law) .none kV_law dc_law pm_law an_law cd_law ct_law, fun s v => .of_eq rfl, fun base _ _ => ?_⟩
  have E_BadItem : Err l.prog w K mg base "BadItem" "at" c_BadItem := ⟨PySem.W.mg_of X G z_BadItem, ⟨⟨_, _, _, _, _, _, _, _, _, _, _, _, _, _, _, lC_BadItem, rv_BadItem⟩, sa_BadItem, ex_BadItem, ty_BadItem, kp_BadItem⟩, ⟨ga_BadItem, gg_BadItem, ex_BadItem, hd_BadItem⟩, ⟨cls_some hd_BadItem, ga_BadItem, gg_BadItem, ex_BadItem, cc_BadItem, ge, tk, ob_BadItem⟩, no_BadItem, ⟨_, _, in_BadItem, ti_BadItem, okI_BadItem FI_BadItem, bI_BadItem⟩⟩
  have E_TooDeep : Err l.prog w K mg base "TooDeep" "reached" c_TooDeep := ⟨PySem.W.mg_of X G z_TooDeep, ⟨⟨_, _, _, _, _, _, _, _, _, _, _, _, _, _, _, lC_TooDeep, rv_TooDeep⟩, sa_TooDeep, ex_TooDeep, ty_TooDeep, kp_TooDeep⟩, ⟨ga_TooDeep, gg_TooDeep, ex_TooDeep, hd_TooDeep⟩, ⟨cls_some hd_TooDeep, ga_TooDeep, gg_TooDeep, ex_TooDeep, cc_TooDeep, ge, tk, ob_TooDeep⟩, no_TooDeep, ⟨_, _, in_TooDeep, ti_TooDeep, okI_TooDeep FI_TooDeep, bI_TooDeep⟩⟩
  have E_Unfinished : Err l.prog w K mg base "Unfinished" "at" c_Unfinished := ⟨PySem.W.mg_of X G z_Unfinished, ⟨⟨_, _, _, _, _, _, _, _, _, _, _, _, _, _, _, lC_Unfinished, rv_Unfinished⟩, sa_Unfinished, ex_Unfinished, ty_Unfinished, kp_Unfinished⟩, ⟨ga_Unfinished, gg_Unfinished, ex_Unfinished, hd_Unfinished⟩, ⟨cls_some hd_Unfinished, ga_Unfinished, gg_Unfinished, ex_Unfinished, cc_Unfinished, ge, tk, ob_Unfinished⟩, no_Unfinished, ⟨_, _, in_Unfinished, ti_Unfinished, okI_Unfinished FI_Unfinished, bI_Unfinished⟩⟩
  have E_WrongByte : Err l.prog w K mg base "WrongByte" "at" c_WrongByte := ⟨PySem.W.mg_of X G z_WrongByte, ⟨⟨_, _, _, _, _, _, _, _, _, _, _, _, _, _, _, lC_WrongByte, rv_WrongByte⟩, sa_WrongByte, ex_WrongByte, ty_WrongByte, kp_WrongByte⟩, ⟨ga_WrongByte, gg_WrongByte, ex_WrongByte, hd_WrongByte⟩, ⟨cls_some hd_WrongByte, ga_WrongByte, gg_WrongByte, ex_WrongByte, cc_WrongByte, ge, tk, ob_WrongByte⟩, no_WrongByte, ⟨_, _, in_WrongByte, ti_WrongByte, okI_WrongByte FI_WrongByte, bI_WrongByte⟩⟩
  have E_BadValue : Err l.prog w K mg base "BadValue" "path" c_BadValue := ⟨PySem.W.mg_of X G z_BadValue, ⟨⟨_, _, _, _, _, _, _, _, _, _, _, _, _, _, _, lC_BadValue, rv_BadValue⟩, sa_BadValue, ex_BadValue, ty_BadValue, kp_BadValue⟩, ⟨ga_BadValue, gg_BadValue, ex_BadValue, hd_BadValue⟩, ⟨cls_some hd_BadValue, ga_BadValue, gg_BadValue, ex_BadValue, cc_BadValue, ge, tk, ob_BadValue⟩, no_BadValue, ⟨_, _, in_BadValue, ti_BadValue, okI_BadValue FI_BadValue, bI_BadValue⟩⟩
  have E_BadNumber : Err l.prog w K mg base "BadNumber" "number" c_BadNumber := ⟨PySem.W.mg_of X G z_BadNumber, ⟨⟨_, _, _, _, _, _, _, _, _, _, _, _, _, _, _, lC_BadNumber, rv_BadNumber⟩, sa_BadNumber, ex_BadNumber, ty_BadNumber, kp_BadNumber⟩, ⟨ga_BadNumber, gg_BadNumber, ex_BadNumber, hd_BadNumber⟩, ⟨cls_some hd_BadNumber, ga_BadNumber, gg_BadNumber, ex_BadNumber, cc_BadNumber, ge, tk, ob_BadNumber⟩, no_BadNumber, ⟨_, _, in_BadNumber, ti_BadNumber, okI_BadNumber FI_BadNumber, bI_BadNumber⟩⟩
  have E_UnknownName : Err l.prog w K mg base "UnknownName" "name" c_UnknownName := ⟨PySem.W.mg_of X G z_UnknownName, ⟨⟨_, _, _, _, _, _, _, _, _, _, _, _, _, _, _, lC_UnknownName, rv_UnknownName⟩, sa_UnknownName, ex_UnknownName, ty_UnknownName, kp_UnknownName⟩, ⟨ga_UnknownName, gg_UnknownName, ex_UnknownName, hd_UnknownName⟩, ⟨cls_some hd_UnknownName, ga_UnknownName, gg_UnknownName, ex_UnknownName, cc_UnknownName, ge, tk, ob_UnknownName⟩, no_UnknownName, ⟨_, _, in_UnknownName, ti_UnknownName, okI_UnknownName FI_UnknownName, bI_UnknownName⟩⟩
  have E_BadShape : Err l.prog w K mg base "BadShape" "word" c_BadShape := ⟨PySem.W.mg_of X G z_BadShape, ⟨⟨_, _, _, _, _, _, _, _, _, _, _, _, _, _, _, lC_BadShape, rv_BadShape⟩, sa_BadShape, ex_BadShape, ty_BadShape, kp_BadShape⟩, ⟨ga_BadShape, gg_BadShape, ex_BadShape, hd_BadShape⟩, ⟨cls_some hd_BadShape, ga_BadShape, gg_BadShape, ex_BadShape, cc_BadShape, ge, tk, ob_BadShape⟩, no_BadShape, ⟨_, _, in_BadShape, ti_BadShape, okI_BadShape FI_BadShape, bI_BadShape⟩⟩
  have E_DuplicateKey : Err l.prog w K mg base "DuplicateKey" "at" c_DuplicateKey := ⟨PySem.W.mg_of X G z_DuplicateKey, ⟨⟨_, _, _, _, _, _, _, _, _, _, _, _, _, _, _, lC_DuplicateKey, rv_DuplicateKey⟩, sa_DuplicateKey, ex_DuplicateKey, ty_DuplicateKey, kp_DuplicateKey⟩, ⟨ga_DuplicateKey, gg_DuplicateKey, ex_DuplicateKey, hd_DuplicateKey⟩, ⟨cls_some hd_DuplicateKey, ga_DuplicateKey, gg_DuplicateKey, ex_DuplicateKey, cc_DuplicateKey, ge, tk, ob_DuplicateKey⟩, no_DuplicateKey, ⟨_, _, in_DuplicateKey, ti_DuplicateKey, okI_DuplicateKey FI_DuplicateKey, bI_DuplicateKey⟩⟩
  have E_BadDeed : Err l.prog w K mg base "BadDeed" "at" c_BadDeed := ⟨PySem.W.mg_of X G z_BadDeed, ⟨⟨_, _, _, _, _, _, _, _, _, _, _, _, _, _, _, lC_BadDeed, rv_BadDeed⟩, sa_BadDeed, ex_BadDeed, ty_BadDeed, kp_BadDeed⟩, ⟨ga_BadDeed, gg_BadDeed, ex_BadDeed, hd_BadDeed⟩, ⟨cls_some hd_BadDeed, ga_BadDeed, gg_BadDeed, ex_BadDeed, cc_BadDeed, ge, tk, ob_BadDeed⟩, no_BadDeed, ⟨_, _, in_BadDeed, ti_BadDeed, okI_BadDeed FI_BadDeed, bI_BadDeed⟩⟩
  have E_BadPath : Err l.prog w K mg base "BadPath" "at" c_BadPath := ⟨PySem.W.mg_of X G z_BadPath, ⟨⟨_, _, _, _, _, _, _, _, _, _, _, _, _, _, _, lC_BadPath, rv_BadPath⟩, sa_BadPath, ex_BadPath, ty_BadPath, kp_BadPath⟩, ⟨ga_BadPath, gg_BadPath, ex_BadPath, hd_BadPath⟩, ⟨cls_some hd_BadPath, ga_BadPath, gg_BadPath, ex_BadPath, cc_BadPath, ge, tk, ob_BadPath⟩, no_BadPath, ⟨_, _, in_BadPath, ti_BadPath, okI_BadPath FI_BadPath, bI_BadPath⟩⟩
  have E_NoDocument : Err l.prog w K mg base "NoDocument" "number" c_NoDocument := ⟨PySem.W.mg_of X G z_NoDocument, ⟨⟨_, _, _, _, _, _, _, _, _, _, _, _, _, _, _, lC_NoDocument, rv_NoDocument⟩, sa_NoDocument, ex_NoDocument, ty_NoDocument, kp_NoDocument⟩, ⟨ga_NoDocument, gg_NoDocument, ex_NoDocument, hd_NoDocument⟩, ⟨cls_some hd_NoDocument, ga_NoDocument, gg_NoDocument, ex_NoDocument, cc_NoDocument, ge, tk, ob_NoDocument⟩, no_NoDocument, ⟨_, _, in_NoDocument, ti_NoDocument, okI_NoDocument FI_NoDocument, bI_NoDocument⟩⟩
  have E_TooLong : Err l.prog w K mg base "TooLong" "debt" c_TooLong := ⟨PySem.W.mg_of X G z_TooLong, ⟨⟨_, _, _, _, _, _, _, _, _, _, _, _, _, _, _, lC_TooLong, rv_TooLong⟩, sa_TooLong, ex_TooLong, ty_TooLong, kp_TooLong⟩, ⟨ga_TooLong, gg_TooLong, ex_TooLong, hd_TooLong⟩, ⟨cls_some hd_TooLong, ga_TooLong, gg_TooLong, ex_TooLong, cc_TooLong, ge, tk, ob_TooLong⟩, no_TooLong, ⟨_, _, in_TooLong, ti_TooLong, okI_TooLong FI_TooLong, bI_TooLong⟩⟩
  have E_Barren : Err l.prog w K mg base "Barren" "name" c_Barren := ⟨PySem.W.mg_of X G z_Barren, ⟨⟨_, _, _, _, _, _, _, _, _, _, _, _, _, _, _, lC_Barren, rv_Barren⟩, sa_Barren, ex_Barren, ty_Barren, kp_Barren⟩, ⟨ga_Barren, gg_Barren, ex_Barren, hd_Barren⟩, ⟨cls_some hd_Barren, ga_Barren, gg_Barren, ex_Barren, cc_Barren, ge, tk, ob_Barren⟩, no_Barren, ⟨_, _, in_Barren, ti_Barren, okI_Barren FI_Barren, bI_Barren⟩⟩
  have E_Ambiguous : Err l.prog w K mg base "Ambiguous" "name" c_Ambiguous := ⟨PySem.W.mg_of X G z_Ambiguous, ⟨⟨_, _, _, _, _, _, _, _, _, _, _, _, _, _, _, lC_Ambiguous, rv_Ambiguous⟩, sa_Ambiguous, ex_Ambiguous, ty_Ambiguous, kp_Ambiguous⟩, ⟨ga_Ambiguous, gg_Ambiguous, ex_Ambiguous, hd_Ambiguous⟩, ⟨cls_some hd_Ambiguous, ga_Ambiguous, gg_Ambiguous, ex_Ambiguous, cc_Ambiguous, ge, tk, ob_Ambiguous⟩, no_Ambiguous, ⟨_, _, in_Ambiguous, ti_Ambiguous, okI_Ambiguous FI_Ambiguous, bI_Ambiguous⟩⟩
  have E_Circular : Err l.prog w K mg base "Circular" "name" c_Circular := ⟨PySem.W.mg_of X G z_Circular, ⟨⟨_, _, _, _, _, _, _, _, _, _, _, _, _, _, _, lC_Circular, rv_Circular⟩, sa_Circular, ex_Circular, ty_Circular, kp_Circular⟩, ⟨ga_Circular, gg_Circular, ex_Circular, hd_Circular⟩, ⟨cls_some hd_Circular, ga_Circular, gg_Circular, ex_Circular, cc_Circular, ge, tk, ob_Circular⟩, no_Circular, ⟨_, _, in_Circular, ti_Circular, okI_Circular FI_Circular, bI_Circular⟩⟩
  have G__law_bag : Told l.prog w K mg base CX0 1 f__law_bag _ ["_law_script", "_law_at"] (spBag K) := ok__law_bag F__law_bag m_len m_abs m_int
  have G__law_take : Told l.prog w K mg base CX0 1 f__law_take _ ["_law_bag_here", "_law_many"] spTake := ok__law_take F__law_take m_int
  have G__law_of : Told l.prog w K mg base CX0 2 f__law_of _ ["_law_bag_here", "_law_some"] (spOf K) := ok__law_of F__law_of m_len G__law_take b__law_take (PySem.W.mg_of X G a__law_take) k__law_take
  have G__law_made : Told l.prog w K mg base CX0 3 f__law_made _ ["_law_field"] (spMade [(c_BadNumber, ("number" : Str)), (c_BadValue, ("path" : Str)), (c_WrongByte, ("at" : Str)), (c_Unfinished, ("at" : Str)), (c_TooDeep, ("reached" : Str)), (c_BadItem, ("at" : Str)), (c_BadPath, ("at" : Str)), (c_BadDeed, ("at" : Str)), (c_DuplicateKey, ("at" : Str)), (c_BadShape, ("word" : Str)), (c_UnknownName, ("name" : Str)), (c_Circular, ("name" : Str)), (c_Ambiguous, ("name" : Str)), (c_Barren, ("name" : Str)), (c_TooLong, ("debt" : Str)), (c_NoDocument, ("number" : Str))]) := ok__law_made F__law_made E_BadItem E_TooDeep E_Unfinished E_WrongByte E_BadValue E_BadNumber E_UnknownName E_BadShape E_DuplicateKey E_BadDeed E_BadPath E_NoDocument E_TooLong E_Barren E_Ambiguous E_Circular
  have G__law_fields : Told l.prog w K mg base CX0 1 f__law_fields _ ["_law_some"] (spFields K [(c_BadNumber, ("number" : Str)), (c_BadValue, ("path" : Str)), (c_WrongByte, ("at" : Str)), (c_Unfinished, ("at" : Str)), (c_TooDeep, ("reached" : Str)), (c_BadItem, ("at" : Str)), (c_BadPath, ("at" : Str)), (c_BadDeed, ("at" : Str)), (c_DuplicateKey, ("at" : Str)), (c_BadShape, ("word" : Str)), (c_UnknownName, ("name" : Str)), (c_Circular, ("name" : Str)), (c_Ambiguous, ("name" : Str)), (c_Barren, ("name" : Str)), (c_TooLong, ("debt" : Str)), (c_NoDocument, ("number" : Str))]) := ok__law_fields F__law_fields E_BadNumber E_BadValue E_WrongByte E_Unfinished E_TooDeep E_BadItem E_BadPath E_BadDeed E_DuplicateKey E_BadShape E_UnknownName E_Circular E_Ambiguous E_Barren E_TooLong E_NoDocument
  have G__law_kinds : Told l.prog w K mg base CX0 1 f__law_kinds _ ["_law_e"] (spKinds K [c_BadNumber, c_BadValue, c_WrongByte, c_Unfinished, c_TooDeep, c_BadItem, c_BadPath, c_BadDeed, c_DuplicateKey, c_BadShape, c_UnknownName, c_Circular, c_Ambiguous, c_Barren, c_TooLong, c_NoDocument]) := ok__law_kinds F__law_kinds m_isinstance g_ShortestBytesError E_Unfinished E_WrongByte E_BadValue E_BadNumber E_BadDeed E_BadPath E_BadItem E_TooDeep E_UnknownName E_BadShape E_DuplicateKey E_Barren E_Ambiguous E_Circular E_NoDocument E_TooLong kinds h_SBE t_SBE
  exact ok_law F_law m_range m_max m_len m_repr m_isinstance m_ValueError g_ShortestBytesError E_BadNumber E_BadValue E_WrongByte E_Unfinished E_TooDeep E_BadItem E_BadPath E_BadDeed E_DuplicateKey E_BadShape E_UnknownName E_Circular E_Ambiguous E_Barren E_TooLong E_NoDocument G__law_bag b__law_bag (PySem.W.mg_of X G a__law_bag) k__law_bag G__law_of b__law_of (PySem.W.mg_of X G a__law_of) k__law_of G__law_take b__law_take (PySem.W.mg_of X G a__law_take) k__law_take G__law_made b__law_made (PySem.W.mg_of X G a__law_made) k__law_made G__law_fields b__law_fields (PySem.W.mg_of X G a__law_fields) k__law_fields G__law_kinds b__law_kinds (PySem.W.mg_of X G a__law_kinds) k__law_kinds kinds h_SBE t_SBE
end Sb
open PySem PySem.W PyProof.Rows in
set_option maxRecDepth 100000 in
set_option maxHeartbeats 0 in
theorem PySem.Challenge.cw_shortestbytes_k15_errors_made_holds : PySem.Challenge.rw_shortestbytes_k15_errors_made.Holds := by
  w_on; o_law; k_head; (case hw => w_witness2)
  k_fill
  refine Sb.end_law (l := PySem.Challenge.rw_shortestbytes_k15_errors_made) (k := 5) (x := "_law_script") (sp := (fun K => Sb.spLaw K)) rfl rfl ⟨rfl, by decide, by decide⟩ (fun w h Y => PySem.W.kIn_of Y) ?F (fun K H a ns hl hS => ⟨a, ns, rfl, hS, hl, fun _ => rfl⟩)
  case F =>
    intro w mg fa h KX G hmg
    refine' Sb.all_mk KX G hmg ?a__law_bag ?l__law_bag ?c__law_bag ?k__law_bag ?a__law_take ?l__law_take ?c__law_take ?k__law_take ?a__law_of ?l__law_of ?c__law_of ?k__law_of ?a__law_made ?l__law_made ?c__law_made ?k__law_made ?a__law_fields ?l__law_fields ?c__law_fields ?k__law_fields ?a__law_kinds ?l__law_kinds ?c__law_kinds ?k__law_kinds ?a_law ?l_law ?c_law ?k_law ?z_len ?z_abs ?z_int ?z_isinstance ?z_range ?z_max ?z_repr ?z_ValueError ?z_ShortestBytesError ?z_BadItem ?lC_BadItem ?rv_BadItem ?sa_BadItem ?ex_BadItem ?ty_BadItem ?kp_BadItem ?ga_BadItem ?gg_BadItem ?hd_BadItem ?cc_BadItem ?ob_BadItem ?no_BadItem ?in_BadItem ?ti_BadItem ?lI_BadItem ?cI_BadItem ?kI_BadItem ?z_TooDeep ?lC_TooDeep ?rv_TooDeep ?sa_TooDeep ?ex_TooDeep ?ty_TooDeep ?kp_TooDeep ?ga_TooDeep ?gg_TooDeep ?hd_TooDeep ?cc_TooDeep ?ob_TooDeep ?no_TooDeep ?in_TooDeep ?ti_TooDeep ?lI_TooDeep ?cI_TooDeep ?kI_TooDeep ?z_Unfinished ?lC_Unfinished ?rv_Unfinished ?sa_Unfinished ?ex_Unfinished ?ty_Unfinished ?kp_Unfinished ?ga_Unfinished ?gg_Unfinished ?hd_Unfinished ?cc_Unfinished ?ob_Unfinished ?no_Unfinished ?in_Unfinished ?ti_Unfinished ?lI_Unfinished ?cI_Unfinished ?kI_Unfinished ?z_WrongByte ?lC_WrongByte ?rv_WrongByte ?sa_WrongByte ?ex_WrongByte ?ty_WrongByte ?kp_WrongByte ?ga_WrongByte ?gg_WrongByte ?hd_WrongByte ?cc_WrongByte ?ob_WrongByte ?no_WrongByte ?in_WrongByte ?ti_WrongByte ?lI_WrongByte ?cI_WrongByte ?kI_WrongByte ?z_BadValue ?lC_BadValue ?rv_BadValue ?sa_BadValue ?ex_BadValue ?ty_BadValue ?kp_BadValue ?ga_BadValue ?gg_BadValue ?hd_BadValue ?cc_BadValue ?ob_BadValue ?no_BadValue ?in_BadValue ?ti_BadValue ?lI_BadValue ?cI_BadValue ?kI_BadValue ?z_BadNumber ?lC_BadNumber ?rv_BadNumber ?sa_BadNumber ?ex_BadNumber ?ty_BadNumber ?kp_BadNumber ?ga_BadNumber ?gg_BadNumber ?hd_BadNumber ?cc_BadNumber ?ob_BadNumber ?no_BadNumber ?in_BadNumber ?ti_BadNumber ?lI_BadNumber ?cI_BadNumber ?kI_BadNumber ?z_UnknownName ?lC_UnknownName ?rv_UnknownName ?sa_UnknownName ?ex_UnknownName ?ty_UnknownName ?kp_UnknownName ?ga_UnknownName ?gg_UnknownName ?hd_UnknownName ?cc_UnknownName ?ob_UnknownName ?no_UnknownName ?in_UnknownName ?ti_UnknownName ?lI_UnknownName ?cI_UnknownName ?kI_UnknownName ?z_BadShape ?lC_BadShape ?rv_BadShape ?sa_BadShape ?ex_BadShape ?ty_BadShape ?kp_BadShape ?ga_BadShape ?gg_BadShape ?hd_BadShape ?cc_BadShape ?ob_BadShape ?no_BadShape ?in_BadShape ?ti_BadShape ?lI_BadShape ?cI_BadShape ?kI_BadShape ?z_DuplicateKey ?lC_DuplicateKey ?rv_DuplicateKey ?sa_DuplicateKey ?ex_DuplicateKey ?ty_DuplicateKey ?kp_DuplicateKey ?ga_DuplicateKey ?gg_DuplicateKey ?hd_DuplicateKey ?cc_DuplicateKey ?ob_DuplicateKey ?no_DuplicateKey ?in_DuplicateKey ?ti_DuplicateKey ?lI_DuplicateKey ?cI_DuplicateKey ?kI_DuplicateKey ?z_BadDeed ?lC_BadDeed ?rv_BadDeed ?sa_BadDeed ?ex_BadDeed ?ty_BadDeed ?kp_BadDeed ?ga_BadDeed ?gg_BadDeed ?hd_BadDeed ?cc_BadDeed ?ob_BadDeed ?no_BadDeed ?in_BadDeed ?ti_BadDeed ?lI_BadDeed ?cI_BadDeed ?kI_BadDeed ?z_BadPath ?lC_BadPath ?rv_BadPath ?sa_BadPath ?ex_BadPath ?ty_BadPath ?kp_BadPath ?ga_BadPath ?gg_BadPath ?hd_BadPath ?cc_BadPath ?ob_BadPath ?no_BadPath ?in_BadPath ?ti_BadPath ?lI_BadPath ?cI_BadPath ?kI_BadPath ?z_NoDocument ?lC_NoDocument ?rv_NoDocument ?sa_NoDocument ?ex_NoDocument ?ty_NoDocument ?kp_NoDocument ?ga_NoDocument ?gg_NoDocument ?hd_NoDocument ?cc_NoDocument ?ob_NoDocument ?no_NoDocument ?in_NoDocument ?ti_NoDocument ?lI_NoDocument ?cI_NoDocument ?kI_NoDocument ?z_TooLong ?lC_TooLong ?rv_TooLong ?sa_TooLong ?ex_TooLong ?ty_TooLong ?kp_TooLong ?ga_TooLong ?gg_TooLong ?hd_TooLong ?cc_TooLong ?ob_TooLong ?no_TooLong ?in_TooLong ?ti_TooLong ?lI_TooLong ?cI_TooLong ?kI_TooLong ?z_Barren ?lC_Barren ?rv_Barren ?sa_Barren ?ex_Barren ?ty_Barren ?kp_Barren ?ga_Barren ?gg_Barren ?hd_Barren ?cc_Barren ?ob_Barren ?no_Barren ?in_Barren ?ti_Barren ?lI_Barren ?cI_Barren ?kI_Barren ?z_Ambiguous ?lC_Ambiguous ?rv_Ambiguous ?sa_Ambiguous ?ex_Ambiguous ?ty_Ambiguous ?kp_Ambiguous ?ga_Ambiguous ?gg_Ambiguous ?hd_Ambiguous ?cc_Ambiguous ?ob_Ambiguous ?no_Ambiguous ?in_Ambiguous ?ti_Ambiguous ?lI_Ambiguous ?cI_Ambiguous ?kI_Ambiguous ?z_Circular ?lC_Circular ?rv_Circular ?sa_Circular ?ex_Circular ?ty_Circular ?kp_Circular ?ga_Circular ?gg_Circular ?hd_Circular ?cc_Circular ?ob_Circular ?no_Circular ?in_Circular ?ti_Circular ?lI_Circular ?cI_Circular ?kI_Circular ?ge ?tk ?kinds ?h_SBE ?t_SBE
    (case a__law_bag => k_is)
    (case l__law_bag => k_is)
    (case c__law_bag => k_is)
    (case k__law_bag => k_is)
    (case a__law_take => k_is)
    (case l__law_take => k_is)
    (case c__law_take => k_is)
    (case k__law_take => k_is)
    (case a__law_of => k_is)
    (case l__law_of => k_is)
    (case c__law_of => k_is)
    (case k__law_of => k_is)
    (case a__law_made => k_is)
    (case l__law_made => k_is)
    (case c__law_made => k_is)
    (case k__law_made => k_is)
    (case a__law_fields => k_is)
    (case l__law_fields => k_is)
    (case c__law_fields => k_is)
    (case k__law_fields => k_is)
    (case a__law_kinds => k_is)
    (case l__law_kinds => k_is)
    (case c__law_kinds => k_is)
    (case k__law_kinds => k_is)
    (case a_law => k_is)
    (case l_law => k_is)
    (case c_law => k_is)
    (case k_law => k_is)
    (case z_len => k_is)
    (case z_abs => k_is)
    (case z_int => k_is)
    (case z_isinstance => k_is)
    (case z_range => k_is)
    (case z_max => k_is)
    (case z_repr => k_is)
    (case z_ValueError => k_is)
    (case z_ShortestBytesError => k_is)
    (case z_BadItem => k_is)
    (case lC_BadItem => k_is)
    (case rv_BadItem => decide +kernel)
    (case sa_BadItem => k_is)
    (case ex_BadItem => k_is)
    (case ty_BadItem => k_is)
    (case kp_BadItem => k_is)
    (case ga_BadItem => k_is)
    (case gg_BadItem => k_is)
    (case hd_BadItem => k_is)
    (case cc_BadItem => k_is)
    (case ob_BadItem => k_is)
    (case no_BadItem => k_is)
    (case in_BadItem => k_is)
    (case ti_BadItem => k_is)
    (case lI_BadItem => k_is)
    (case cI_BadItem => k_is)
    (case kI_BadItem => k_is)
    (case z_TooDeep => k_is)
    (case lC_TooDeep => k_is)
    (case rv_TooDeep => decide +kernel)
    (case sa_TooDeep => k_is)
    (case ex_TooDeep => k_is)
    (case ty_TooDeep => k_is)
    (case kp_TooDeep => k_is)
    (case ga_TooDeep => k_is)
    (case gg_TooDeep => k_is)
    (case hd_TooDeep => k_is)
    (case cc_TooDeep => k_is)
    (case ob_TooDeep => k_is)
    (case no_TooDeep => k_is)
    (case in_TooDeep => k_is)
    (case ti_TooDeep => k_is)
    (case lI_TooDeep => k_is)
    (case cI_TooDeep => k_is)
    (case kI_TooDeep => k_is)
    (case z_Unfinished => k_is)
    (case lC_Unfinished => k_is)
    (case rv_Unfinished => decide +kernel)
    (case sa_Unfinished => k_is)
    (case ex_Unfinished => k_is)
    (case ty_Unfinished => k_is)
    (case kp_Unfinished => k_is)
    (case ga_Unfinished => k_is)
    (case gg_Unfinished => k_is)
    (case hd_Unfinished => k_is)
    (case cc_Unfinished => k_is)
    (case ob_Unfinished => k_is)
    (case no_Unfinished => k_is)
    (case in_Unfinished => k_is)
    (case ti_Unfinished => k_is)
    (case lI_Unfinished => k_is)
    (case cI_Unfinished => k_is)
    (case kI_Unfinished => k_is)
    (case z_WrongByte => k_is)
    (case lC_WrongByte => k_is)
    (case rv_WrongByte => decide +kernel)
    (case sa_WrongByte => k_is)
    (case ex_WrongByte => k_is)
    (case ty_WrongByte => k_is)
    (case kp_WrongByte => k_is)
    (case ga_WrongByte => k_is)
    (case gg_WrongByte => k_is)
    (case hd_WrongByte => k_is)
    (case cc_WrongByte => k_is)
    (case ob_WrongByte => k_is)
    (case no_WrongByte => k_is)
    (case in_WrongByte => k_is)
    (case ti_WrongByte => k_is)
    (case lI_WrongByte => k_is)
    (case cI_WrongByte => k_is)
    (case kI_WrongByte => k_is)
    (case z_BadValue => k_is)
    (case lC_BadValue => k_is)
    (case rv_BadValue => decide +kernel)
    (case sa_BadValue => k_is)
    (case ex_BadValue => k_is)
    (case ty_BadValue => k_is)
    (case kp_BadValue => k_is)
    (case ga_BadValue => k_is)
    (case gg_BadValue => k_is)
    (case hd_BadValue => k_is)
    (case cc_BadValue => k_is)
    (case ob_BadValue => k_is)
    (case no_BadValue => k_is)
    (case in_BadValue => k_is)
    (case ti_BadValue => k_is)
    (case lI_BadValue => k_is)
    (case cI_BadValue => k_is)
    (case kI_BadValue => k_is)
    (case z_BadNumber => k_is)
    (case lC_BadNumber => k_is)
    (case rv_BadNumber => decide +kernel)
    (case sa_BadNumber => k_is)
    (case ex_BadNumber => k_is)
    (case ty_BadNumber => k_is)
    (case kp_BadNumber => k_is)
    (case ga_BadNumber => k_is)
    (case gg_BadNumber => k_is)
    (case hd_BadNumber => k_is)
    (case cc_BadNumber => k_is)
    (case ob_BadNumber => k_is)
    (case no_BadNumber => k_is)
    (case in_BadNumber => k_is)
    (case ti_BadNumber => k_is)
    (case lI_BadNumber => k_is)
    (case cI_BadNumber => k_is)
    (case kI_BadNumber => k_is)
    (case z_UnknownName => k_is)
    (case lC_UnknownName => k_is)
    (case rv_UnknownName => decide +kernel)
    (case sa_UnknownName => k_is)
    (case ex_UnknownName => k_is)
    (case ty_UnknownName => k_is)
    (case kp_UnknownName => k_is)
    (case ga_UnknownName => k_is)
    (case gg_UnknownName => k_is)
    (case hd_UnknownName => k_is)
    (case cc_UnknownName => k_is)
    (case ob_UnknownName => k_is)
    (case no_UnknownName => k_is)
    (case in_UnknownName => k_is)
    (case ti_UnknownName => k_is)
    (case lI_UnknownName => k_is)
    (case cI_UnknownName => k_is)
    (case kI_UnknownName => k_is)
    (case z_BadShape => k_is)
    (case lC_BadShape => k_is)
    (case rv_BadShape => decide +kernel)
    (case sa_BadShape => k_is)
    (case ex_BadShape => k_is)
    (case ty_BadShape => k_is)
    (case kp_BadShape => k_is)
    (case ga_BadShape => k_is)
    (case gg_BadShape => k_is)
    (case hd_BadShape => k_is)
    (case cc_BadShape => k_is)
    (case ob_BadShape => k_is)
    (case no_BadShape => k_is)
    (case in_BadShape => k_is)
    (case ti_BadShape => k_is)
    (case lI_BadShape => k_is)
    (case cI_BadShape => k_is)
    (case kI_BadShape => k_is)
    (case z_DuplicateKey => k_is)
    (case lC_DuplicateKey => k_is)
    (case rv_DuplicateKey => decide +kernel)
    (case sa_DuplicateKey => k_is)
    (case ex_DuplicateKey => k_is)
    (case ty_DuplicateKey => k_is)
    (case kp_DuplicateKey => k_is)
    (case ga_DuplicateKey => k_is)
    (case gg_DuplicateKey => k_is)
    (case hd_DuplicateKey => k_is)
    (case cc_DuplicateKey => k_is)
    (case ob_DuplicateKey => k_is)
    (case no_DuplicateKey => k_is)
    (case in_DuplicateKey => k_is)
    (case ti_DuplicateKey => k_is)
    (case lI_DuplicateKey => k_is)
    (case cI_DuplicateKey => k_is)
    (case kI_DuplicateKey => k_is)
    (case z_BadDeed => k_is)
    (case lC_BadDeed => k_is)
    (case rv_BadDeed => decide +kernel)
    (case sa_BadDeed => k_is)
    (case ex_BadDeed => k_is)
    (case ty_BadDeed => k_is)
    (case kp_BadDeed => k_is)
    (case ga_BadDeed => k_is)
    (case gg_BadDeed => k_is)
    (case hd_BadDeed => k_is)
    (case cc_BadDeed => k_is)
    (case ob_BadDeed => k_is)
    (case no_BadDeed => k_is)
    (case in_BadDeed => k_is)
    (case ti_BadDeed => k_is)
    (case lI_BadDeed => k_is)
    (case cI_BadDeed => k_is)
    (case kI_BadDeed => k_is)
    (case z_BadPath => k_is)
    (case lC_BadPath => k_is)
    (case rv_BadPath => decide +kernel)
    (case sa_BadPath => k_is)
    (case ex_BadPath => k_is)
    (case ty_BadPath => k_is)
    (case kp_BadPath => k_is)
    (case ga_BadPath => k_is)
    (case gg_BadPath => k_is)
    (case hd_BadPath => k_is)
    (case cc_BadPath => k_is)
    (case ob_BadPath => k_is)
    (case no_BadPath => k_is)
    (case in_BadPath => k_is)
    (case ti_BadPath => k_is)
    (case lI_BadPath => k_is)
    (case cI_BadPath => k_is)
    (case kI_BadPath => k_is)
    (case z_NoDocument => k_is)
    (case lC_NoDocument => k_is)
    (case rv_NoDocument => decide +kernel)
    (case sa_NoDocument => k_is)
    (case ex_NoDocument => k_is)
    (case ty_NoDocument => k_is)
    (case kp_NoDocument => k_is)
    (case ga_NoDocument => k_is)
    (case gg_NoDocument => k_is)
    (case hd_NoDocument => k_is)
    (case cc_NoDocument => k_is)
    (case ob_NoDocument => k_is)
    (case no_NoDocument => k_is)
    (case in_NoDocument => k_is)
    (case ti_NoDocument => k_is)
    (case lI_NoDocument => k_is)
    (case cI_NoDocument => k_is)
    (case kI_NoDocument => k_is)
    (case z_TooLong => k_is)
    (case lC_TooLong => k_is)
    (case rv_TooLong => decide +kernel)
    (case sa_TooLong => k_is)
    (case ex_TooLong => k_is)
    (case ty_TooLong => k_is)
    (case kp_TooLong => k_is)
    (case ga_TooLong => k_is)
    (case gg_TooLong => k_is)
    (case hd_TooLong => k_is)
    (case cc_TooLong => k_is)
    (case ob_TooLong => k_is)
    (case no_TooLong => k_is)
    (case in_TooLong => k_is)
    (case ti_TooLong => k_is)
    (case lI_TooLong => k_is)
    (case cI_TooLong => k_is)
    (case kI_TooLong => k_is)
    (case z_Barren => k_is)
    (case lC_Barren => k_is)
    (case rv_Barren => decide +kernel)
    (case sa_Barren => k_is)
    (case ex_Barren => k_is)
    (case ty_Barren => k_is)
    (case kp_Barren => k_is)
    (case ga_Barren => k_is)
    (case gg_Barren => k_is)
    (case hd_Barren => k_is)
    (case cc_Barren => k_is)
    (case ob_Barren => k_is)
    (case no_Barren => k_is)
    (case in_Barren => k_is)
    (case ti_Barren => k_is)
    (case lI_Barren => k_is)
    (case cI_Barren => k_is)
    (case kI_Barren => k_is)
    (case z_Ambiguous => k_is)
    (case lC_Ambiguous => k_is)
    (case rv_Ambiguous => decide +kernel)
    (case sa_Ambiguous => k_is)
    (case ex_Ambiguous => k_is)
    (case ty_Ambiguous => k_is)
    (case kp_Ambiguous => k_is)
    (case ga_Ambiguous => k_is)
    (case gg_Ambiguous => k_is)
    (case hd_Ambiguous => k_is)
    (case cc_Ambiguous => k_is)
    (case ob_Ambiguous => k_is)
    (case no_Ambiguous => k_is)
    (case in_Ambiguous => k_is)
    (case ti_Ambiguous => k_is)
    (case lI_Ambiguous => k_is)
    (case cI_Ambiguous => k_is)
    (case kI_Ambiguous => k_is)
    (case z_Circular => k_is)
    (case lC_Circular => k_is)
    (case rv_Circular => decide +kernel)
    (case sa_Circular => k_is)
    (case ex_Circular => k_is)
    (case ty_Circular => k_is)
    (case kp_Circular => k_is)
    (case ga_Circular => k_is)
    (case gg_Circular => k_is)
    (case hd_Circular => k_is)
    (case cc_Circular => k_is)
    (case ob_Circular => k_is)
    (case no_Circular => k_is)
    (case in_Circular => k_is)
    (case ti_Circular => k_is)
    (case lI_Circular => k_is)
    (case cI_Circular => k_is)
    (case kI_Circular => k_is)
    (case ge => k_is)
    (case tk => k_is)
    (case kinds => kernel_rfl)
    (case h_SBE => k_is)
    (case t_SBE => k_is)



