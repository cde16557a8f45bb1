import PyProof.Rows.All
import Wide.All
import OpenK.AllK
import Wide.FinOn
import PyProof.EqAt
import PyProof.EqKinds
import PyProof.TupleCall
import PyProof.ReprRoads
import HandS.Base
import HandS.Call
import HandS.List
import HandS.Comp
import HandS.Ends
import HandS.Iter
import HandS.Words
import HandS.WordsList
import HandS.Wide
import HandS.WideBits
import HandS.IsInst
import HandS.Walk
import HandS.Defaults
import KE.KExcIs
import HandS.Exc
import HandS.ExcOwn
import HandS.ExcInit
import HandS.ExcField
import HandS.TryOnly
import HandS.WordsExc
import KE.LtSeq
import PySem.Challenge.RW_shortestbytes_k05_whole_numbers_and_code
set_option Elab.async false
set_option linter.all false
set_option maxRecDepth 100000
set_option maxHeartbeats 2000000
namespace Sb
open PySem PySem.Spec PyProof.Rows L2

/-! ### promises of defs that are called while nothing is being shown by repr -/
def Clr (A : Around) : Prop := A.guards = some []

structure Told (P : Program) (w : World) (K : PySem.W.Frag) (mg : Str → Option Value) (base : Heap) (CX : CXT) (k : Nat) (f : Addr) (fd : FuncData) (ps : List Str) (sp : Sp) : Prop where
  arity : ∀ {vs H Q E}, sp vs H Q E → vs.length = ps.length
  go : ∀ {A : Around} {outer : List Env} {s : Shared} {H : Hp} {args : Args} {us : List Value} {vs : List V} {Q : VK} {E : XK}, Clr A → Room k A → Env0 P w K mg base A outer s H →
    BindsTo s fd args (ps.zip us) → Vals vs us → sp vs H Q E → codeAny (model P w) A (.call (.ref f) args) (CR CX outer P w H s Q E) s

section
variable {P : Program} {w : World} {K : PySem.W.Frag} {mg : Str → Option Value} {base : Heap} {CX : CXT} {k : Nat} {f : Addr} {fd : FuncData} {ps : List Str} {sp : Sp}
theorem told_of (F : FnOk P w K mg base CX k f fd ps sp) : Told P w K mg base CX k f fd ps sp :=
  ⟨fun h => F.len _ _ _ _ h, fun _ hr e hb hv hs => F.run _ _ _ _ _ _ _ _ _ hr e hb hv hs⟩

theorem told_core {x qual : Str} {st : Stmt} {N : List Str} {oc dV kV doc pm cdv ct : Value} {od an : Option Addr} {osl : Array (Option Value)}
    (lk : K.lookup f = some ⟨oc, od, .func (PySem.W.fnOf x qual (defArgs st) (defBody st) (defScope st) dV kV doc pm an cdv ct), osl⟩) (code : PySem.W.codeIn K cdv qual = true) (S : FnScope N ps (defScope st)) (ar : ∀ vs H Q E, sp vs H Q E → vs.length = ps.length)
    (body : ∀ (cdv : Value) (A : Around) (outer : List Env) (s : Shared) (H : Hp) (vs : List V) (Q : VK) (E : XK), Clr (A.deeper (envOfC qual (defScope st) s.heap.objs.size f cdv)) →
      Room k (A.deeper (envOfC qual (defScope st) s.heap.objs.size f cdv)) → sp vs H Q E →
      ∃ t, PSs (cxOf CX P w K mg base N qual (defScope st) f cdv A outer s H E) (defBody st) t ∧ t { nx := fun _ H' => Q .non H', rt := Q } (start N vs) H) :
    Told P w K mg base CX (k + 1) f (PySem.W.fnOf x qual (defArgs st) (defBody st) (defScope st) dV kV doc pm an cdv ct) ps sp := by
  refine ⟨fun h => ar _ _ _ _ h, ?_⟩
  intro A outer s H args us vs Q E clr room e0 bind rv say
  have hin : K.In s.heap := e0.mod.kin.keeps (fun b o z => (e0.bs b o z).1)
  have nolim : s.heap.NoLimit := e0.mod.nolimit.keeps (fun b o z => (e0.bs b o z).1)
  have slotsOf : ∀ y ∈ ps.zip us, (defScope st).names.lookup y.1 = some .local ∨
      ((defScope st).names.lookup y.1 = some .cell ∧ ((cellsFrom (s.heap.objs.size + 1) (defScope st).names []).lookup y.1).isSome = true) := by
    intro y hy
    have hp : y.1 ∈ ps := (List.of_mem_zip (show (y.1, y.2) ∈ ps.zip us from hy)).1
    cases S.par y.1 hp with
    | inl q => exact .inl q
    | inr q => exact .inr ⟨q, PySem.W.cellsFrom_some _ _ _ (.inl q)⟩
  apply codeAny_call_function room.depth (hin _ _ lk) rfl S.co S.gen rfl (PySem.W.codeRec_of hin code)
  refine bind _ _ _ _ ?_
  apply wpAny_newFunctionEnv_cells S.kind slotsOf
  intro env he s1 call
  subst he
  refine ⟨nolim.keeps call.toInCall.keep, codeAny_func ?_⟩
  obtain ⟨t, run, want⟩ := body cdv A outer s H vs Q E clr (room.deeper _) say
  have inv : Inv (cxOf CX P w K mg base N qual (defScope st) f cdv A outer s H E) [] (start N vs) H s1 := inv_start S room.hd e0 (ar _ _ _ _ say) rv call
  refine wpAny_mono (run.run [] s1 _ H _ inv want) ?_ (fun _ _ h => h)
  intro fl s' h
  cases fl with
  | ret u => exact let ⟨v, _, H', J, r, q⟩ := h; ⟨v, H', J.os, J.bare, J.base, J.hok, r, q⟩
  | next => exact let ⟨_, H', J, q⟩ := h; ⟨V.non, H', J.os, J.bare, J.base, J.hok, rfl, q⟩
  | brk => exact let ⟨_, _, _, q⟩ := h; q.elim
  | cont => exact let ⟨_, _, _, q⟩ := h; q.elim

theorem toldX {x qual : Str} {st : Stmt} {N : List Str} (F : Fun K x qual st f fd) (S : FnScope N ps (defScope st)) (ar : ∀ vs H Q E, sp vs H Q E → vs.length = ps.length)
    (body : ∀ (cdv : Value) (A : Around) (outer : List Env) (s : Shared) (H : Hp) (vs : List V) (Q : VK) (E : XK), Clr (A.deeper (envOfC qual (defScope st) s.heap.objs.size f cdv)) →
      Room k (A.deeper (envOfC qual (defScope st) s.heap.objs.size f cdv)) → sp vs H Q E →
      ∃ t, PSs (cxOf CX P w K mg base N qual (defScope st) f cdv A outer s H E) (defBody st) t ∧ t { nx := fun _ H' => Q .non H', rt := Q } (start N vs) H) :
    Told P w K mg base CX (k + 1) f fd ps sp := by
  obtain ⟨oc, od, kV, doc, pm, an, cdv, ct, osl, rfl, lk, code⟩ := F.ex
  exact told_core lk code S ar body
/-- the same for a def with defaults -/
theorem toldD {x qual : Str} {st : Stmt} {N : List Str} {dvs : List V} {kws : List (Str × V)} (F : FunD K x qual (defArgs st) (defBody st) (defScope st) dvs kws f fd) (S : FnScope N ps (defScope st)) (ar : ∀ vs H Q E, sp vs H Q E → vs.length = ps.length)
    (body : ∀ (cdv : Value) (A : Around) (outer : List Env) (s : Shared) (H : Hp) (vs : List V) (Q : VK) (E : XK), Clr (A.deeper (envOfC qual (defScope st) s.heap.objs.size f cdv)) →
      Room k (A.deeper (envOfC qual (defScope st) s.heap.objs.size f cdv)) → sp vs H Q E →
      ∃ t, PSs (cxOf CX P w K mg base N qual (defScope st) f cdv A outer s H E) (defBody st) t ∧ t { nx := fun _ H' => Q .non H', rt := Q } (start N vs) H) :
    Told P w K mg base CX (k + 1) f fd ps sp := by
  obtain ⟨oc, od, dV, kV, doc, pm, an, cdv, ct, osl, rfl, lk, code, _, _⟩ := F.ex
  exact told_core lk code S ar body
end

section
variable {P : Program} {w : World} {K : PySem.W.Frag} {mg : Str → Option Value} {base : Heap} {CX : CXT} {k : Nat} {f : Addr} {fd : FuncData} {ps : List Str} {sp : Sp}
/-- the same for a def that lets no exception out -/
theorem told {x qual : Str} {st : Stmt} {N : List Str} (F : Fun K x qual st f fd) (S : FnScope N ps (defScope st)) (ar : ∀ vs H Q E, sp vs H Q E → vs.length = ps.length)
    (body : ∀ (cdv : Value) (A : Around) (outer : List Env) (s : Shared) (H : Hp) (vs : List V) (Q : VK) (E : XK), Clr (A.deeper (envOfC qual (defScope st) s.heap.objs.size f cdv)) →
      Room k (A.deeper (envOfC qual (defScope st) s.heap.objs.size f cdv)) → sp vs H Q E →
      ∃ t, PSs (cxOf CX0 P w K mg base N qual (defScope st) f cdv A outer s H E).nox (defBody st) t ∧ t { nx := fun _ H' => Q .non H', rt := Q } (start N vs) H) :
    Told P w K mg base CX0 (k + 1) f fd ps sp :=
  toldX F S ar fun cdv A outer s H vs Q E clr room say => let ⟨t, run, want⟩ := body cdv A outer s H vs Q E clr room say; ⟨t, run.nox, want⟩
end

section
variable {X : Cx} {CX : CXT} {k : Nat} {f : Addr} {fd : FuncData} {ps : List Str} {sp : Sp} {dvs : List V} {ds : List Value} {E : XK} {x : Str} {p pos : Pos} {e : Expr} {es : List Expr} {t : TA}
/-- a call of such a def -/
theorem pe_told (T : Told X.prog X.w X.K X.mg X.base CX k f fd ps sp) (clr : Clr X.A) (room : Room k X.A) (hg : Gl X x) (hm : X.mg x = some (.ref f)) (hk : PySem.W.keepIn X.K (.ref f) = true)
    (hb : Binds X.K fd ps ds) (hd : Vals dvs ds) (pass : Passes CX X E) (ha : PA X (e :: es) t) (hdb : (x == ("__debug__" : Str)) = false := by decide)
    (he : starEach (e :: es) X.env = (false, eval e X.env) :: starEach es X.env := by rfl) (hpl : (backTo pos (starEach es X.env)).any (·.1) = false := by rfl) :
    PE X (.Call (.Name x p) (e :: es) [] pos) (tCall sp dvs E t) := by
  constructor
  intro pins s σ H Q I want
  apply wpAny_Call_Name_kw
  refine ld_glob I hg hm ?_ hdb
  apply PySem.W.callWith_K (h₀ := X.base) I.ok.mod.kin hk ?_ he hpl
  refine thn (ha.run pos pins s σ H _ I want) ?_
  intro us s1 got
  obtain ⟨vs, H1, I1, r, say⟩ := got
  refine ⟨I1.kIn, wpAny_call ?_⟩
  have rr := r.append hd
  have many : (us ++ ds).length = ps.length := rr.length.symm.trans (T.arity say)
  refine codeAny_mono (T.go clr room I1.env0 (hb s1 us I1.kIn many) rr say) ?_
  intro res s2 h
  match res, h with
  | .error er, h => exact pass pins σ H1 s1 er s2 I1 h
  | .ok (.ret u), h => exact I1.after h
  | .ok .next, h => exact h.elim
  | .ok .brk, h => exact h.elim
  | .ok .cont, h => exact h.elim
end

/-! ### repr of data -/
def rReprD (K : PySem.W.Frag) : List V → Hp → VK → Prop := fun xs H Q => ∃ (v : V) (d : PyData), xs = [v] ∧ Dp K H v d ∧ d.showable = true ∧ d.hasDict = false ∧ d.depth ≤ 60 ∧ d.shown.length ≤ sizeLine ∧ Q (.str d.shown) H

section
variable {X : Cx}
theorem call_reprD (clr : Clr X.A) (hu : X.A.units + 64 < cLine) : CallR X (.builtin "repr") (rReprD X.K) := by
  intro pins s σ H xs us Q I r h
  obtain ⟨v, d, rfl, hd, hs, hn, hz, hl, q⟩ := h
  obtain ⟨u, rfl, rv⟩ := vals1 r
  obtain ⟨as, rd⟩ := Dp.reads I d v u hd rv
  have byRef : ∀ a : Addr, u = .ref a → wpAny (model X.prog X.w) X.A (call (.builtin "repr") [u]) (EP X pins σ Q) X.xe s := by
    intro a e
    subst e
    refine repr_of_reads' rd hs (PyData.noDict_hsm hn) clr ?_ (fun _ _ z => z) (fun h' t tk keep => ⟨.str _, H, I.kept keep, ⟨t, rfl⟩, q⟩) hl
    omega
  cases hd with
  | non =>
    cases (show u = Value.none from rv)
    exact PySem.P.repr_of_none ⟨.str _, H, I.tok _, ⟨_, rfl⟩, PyData.shown_none ▸ q⟩
  | bl b =>
    cases (show u = Value.bool b from rv)
    refine PySem.P.repr_of_bool ⟨.str _, H, I.tok _, ⟨_, rfl⟩, ?_⟩
    rw [PyData.shown_bool] at q
    exact q
  | int i =>
    obtain ⟨t, rfl⟩ := rv
    refine PySem.P.repr_of_int ?_ ⟨.str _, H, I.tok _, ⟨_, rfl⟩, ?_⟩
    · simpa [PyData.showable] using hs
    · rw [PyData.shown_int] at q
      exact q
  | str x =>
    obtain ⟨t, rfl⟩ := rv
    refine PySem.P.repr_of_str ⟨.str _, H, I.tok _, ⟨_, rfl⟩, ?_⟩ ?_
    · rw [PyData.shown_str] at q
      exact q
    · rw [PyData.shown_str] at hl
      exact hl
  | lst a b => exact byRef _ rv
  | tup a b => exact byRef _ rv
end

/-! ### a law's end -/
section
variable {P : Program} {w : World} {K : PySem.W.Frag} {mg mb : Str → Option Value} {k : Nat} {fa a : Addr} {fd : FuncData} {x : Str} {sp : Sp} {s₁ : Shared} {vs : List Value} {ns : List Int}
/-- the heap of the layer that knows the script alone -/
def hpScript (a : Addr) (vs : List Value) (ns : List Int) : Hp := fun b => if b = a then some (.frz { cls := .type "list", data := .seq vs.toArray } (.lst (ns.map V.int))) else none
/-- a law's def, told over every base, called by the claim on a script of the heap -/
theorem call_law (hin : K.In s₁.heap) (names : s₁.heap.Ns mainGlobals mg) (bn : s₁.heap.Ns builtinsNs mb) (bb : ∀ x : Str, x ≠ "__name__" → mb x = bootBuiltins x) (nolim : s₁.heap.NoLimit) (nogen : s₁.gens = #[])
    (script : s₁.heap.get? a = some { cls := .type "list", data := .seq vs.toArray }) (nums : IntsAre vs ns) (short : ns.length ≤ sizeLine) (room : Room k callerA)
    (T : ∀ base : Heap, K.In base → base.Ns mainGlobals mg → Told P w K mg base CX0 k fa fd [x] sp) (bind : ∀ (s : Shared) (u : Value), BindsTo s fd ⟨[u], []⟩ [(x, u)])
    (say : ∀ H : Hp, Only H → SqL K H a (ns.map V.int) → sp [.ref a] H (fun v _ => v = .bl true) fun _ _ _ => False) :
    codeAny (model P w) callerA (.call (.ref fa) ⟨[.ref a], []⟩) (fun r s' => r = .ok (.ret (.bool true)) ∧ OldK s₁.heap s'.heap ∧ s'.os = s₁.os ∧ AllBare s'.gens) s₁ := by
  have rv := vals_ints nums
  have many := nums.length
  suffices main : ∀ H : Hp, Only H → SqL K H a (ns.map V.int) → HOk P w H s₁.heap → (∀ b u, H b = some u → b = a) → (∀ u, H a = some u → K.lookup a = none) →
      codeAny (model P w) callerA (.call (.ref fa) ⟨[.ref a], []⟩) (fun r s' => r = .ok (.ret (.bool true)) ∧ OldK s₁.heap s'.heap ∧ s'.os = s₁.os ∧ AllBare s'.gens) s₁ by
    by_cases inK : ∃ o, K.lookup a = some o
    · obtain ⟨o, ho⟩ := inK
      have eo := hin a o ho
      rw [script] at eo
      cases eo
      refine main (fun _ => none) (fun _ => .inl rfl) (.inr ⟨_, vs.toArray, _, ho, rfl, rfl, rfl, ?_, ?_⟩) (fun _ u z => nomatch (z : (none : Option HO) = some u)) (fun _ u z => nomatch (z : (none : Option HO) = some u)) (fun u z => nomatch (z : (none : Option HO) = some u))
      · rw [List.size_toArray, many]
        exact short
      · simpa using rv
    · have outK : K.lookup a = none := by
        cases q : K.lookup a with
        | none => rfl
        | some o => exact (inK ⟨o, q⟩).elim
      have only : ∀ b u, hpScript a vs ns b = some u → b = a := fun b u z => by
        by_cases e : b = a
        · exact e
        · exact nomatch (if_neg e).symm.trans z
      refine main (hpScript a vs ns) (fun b => ?_) (.inl (.inr ⟨_, if_pos rfl⟩)) (fun b u z => ?_) only (fun _ _ => outK)
      · by_cases e : b = a
        · exact .inr ⟨_, _, if_pos e⟩
        · exact .inl (if_neg e)
      · obtain rfl := only b u z
        cases (if_pos rfl).symm.trans z
        exact ⟨script, by simpa using short, vs, _, rv, script⟩
  intro H only seq ok alone outK
  have under : ∀ {b : Addr} {o : Obj}, s₁.heap.get? b = some o → H b = none → (hidT s₁.heap H).get? b = some o := fun z n => hidT_get z n
  have dictOut : ∀ {b : Addr} {o : Obj} {es : Array DictEntry} {ep : Nat}, s₁.heap.get? b = some o → o.data = .dict es ep → H b = none := by
    intro b o es ep z d
    cases q : H b with
    | none => rfl
    | some u =>
      obtain rfl := alone b u q
      rw [script] at z
      cases z
      exact nomatch (d : Data.seq vs.toArray _ = Data.dict es ep)
  have nsUnder : ∀ {b : Addr} {m : Str → Option Value}, s₁.heap.Ns b m → (hidT s₁.heap H).Ns b m := by
    intro b m z
    obtain ⟨o, es, ep, e, d, r⟩ := z
    exact ⟨o, es, ep, under e (dictOut e d), d, r⟩
  have inBase : K.In (hidT s₁.heap H) := by
    intro b o e
    refine under (hin b o e) ?_
    cases q : H b with
    | none => rfl
    | some u =>
      obtain rfl := alone b u q
      rw [outK u q] at e
      cases e
  obtain ⟨mc, lim1, lim2⟩ := nolim
  have e0 : Env0 P w K mg (hidT s₁.heap H) callerA [] s₁ H :=
    { frames := rfl, mod := ⟨inBase, nsUnder names, ⟨mb, nsUnder bn, bb⟩, ⟨mc, nsUnder lim1, lim2⟩⟩, bs := fun _ _ z => of_hidT z, bsz := Nat.le_of_eq (hidT_size _ _), funs := trivial
      frf := fun b z => absurd (show b ∈ ([] : List Addr) from z) List.not_mem_nil, hok := ok, bare := .of_eq nogen }
  have run := (T _ inBase (nsUnder names)).go (A := callerA) (us := [.ref a]) (vs := [.ref a]) rfl room e0 (bind s₁ (.ref a)) (.cons rfl .nil) (say H only seq)
  refine codeAny_mono run ?_
  intro r s' h
  match r, h with
  | .error _, h => exact h.elim
  | .ok .next, h => exact h.elim
  | .ok .brk, h => exact h.elim
  | .ok .cont, h => exact h.elim
  | .ok (.ret u), h =>
    obtain ⟨v, H', os, bare, un, ok', r', q⟩ := h
    cases (show v = .bl true from q)
    cases (show u = Value.bool true from r')
    refine ⟨rfl, OldK.of_keep ?_, os, bare⟩
    intro b o z
    rcases only b with e | ⟨ob, xs, e⟩
    · exact un.keep b o z e (fun y => absurd (show b ∈ ([] : List Addr) from y) List.not_mem_nil) (by simp)
    · have e' := un.frzs b ob _ e
      have h1 := (ok b _ e).1
      have h2 := (ok' b _ e').1
      rw [z] at h1
      cases h1
      exact h2

theorem end_law {l : PySem.W.OpenLaw} {k : Nat} {q : Program} {loose : List Str} {XP : (Str → Option Value) → Heap → Prop} {YP : World → Heap → Prop} {d : DefRec} {K : Params → PySem.W.Frag} {sp : PySem.W.Frag → Sp} {x : Str}
    (hn : l.most = some 63) (hdf : d.params.defaults = []) (room : Room k callerA) (hY : ∀ (w : World) (h : Heap), YP w h → (K w.params).In h)
    (F : ∀ (w : World) (mg : Str → Option Value) (fa : Addr) (h : Heap), (K w.params).In h → h.Ns mainGlobals mg → mg d.name = some (.ref fa) →
      ∃ fd : FuncData, (∀ (s : Shared) (u : Value), BindsTo s fd ⟨[u], []⟩ [(x, u)]) ∧ ∀ base : Heap, (K w.params).In base → base.Ns mainGlobals mg → Told l.prog w (K w.params) mg base CX0 k fa fd [x] (sp (K w.params)))
    (say : ∀ (K : PySem.W.Frag) (H : Hp) (a : Addr) (ns : List Int), ns.length ≤ 63 → SqL K H a (ns.map V.int) → sp K [.ref a] H (fun v _ => v = .bl true) fun _ _ _ => False) :
    PySem.W.WalkO q loose XP YP l.row.toRowW d [] (fun f vs => PySem.call f vs) := by
  apply Att.attach_call hn hdf
  intro w s₀ s₁ mg mb fa o pm cd doc a vs ns G Y ho hd hcd hmg script nums len nogen
  obtain ⟨fd, bind, T⟩ := F w mg fa _ (hY w _ Y) G.T.g hmg
  exact call_law (hY w _ Y) G.T.g G.T.b G.T.builtins G.T.nolimit nogen script nums (Nat.le_trans len (by decide)) room T bind fun H _ seq => say _ H a ns len seq
end
end Sb

set_option Elab.async false
set_option linter.all false
set_option maxRecDepth 100000
namespace Sb
open PySem PySem.Spec PyProof.Rows L2

/-! ### numbers in base 256, the most significant digit first -/
def digs (n : Nat) : List Nat := if h : n = 0 then [] else digs (n / 256) ++ [n % 256]
termination_by n
decreasing_by omega
theorem digs_zero : digs 0 = [] := by rw [digs]; rfl
theorem digs_pos {n : Nat} (h : n ≠ 0) : digs n = digs (n / 256) ++ [n % 256] := by
  rw [digs, dif_neg h]
theorem digs_at : ∀ (n j : Nat), j < (digs n).length → (digs n)[j]? = some (n / 256 ^ ((digs n).length - 1 - j) % 256) := by
  intro n
  induction n using Nat.strongRecOn with
  | _ n ih =>
    intro j hj
    by_cases h : n = 0
    · subst h
      rw [digs_zero] at hj
      exact absurd hj (Nat.not_lt_zero _)
    · rw [digs_pos h] at hj ⊢
      rw [List.length_append, List.length_singleton] at hj ⊢
      by_cases hl : j < (digs (n / 256)).length
      · rw [List.getElem?_append_left hl, ih (n / 256) (by omega) j hl, Nat.div_div_eq_div_mul]
        have e : (digs (n / 256)).length + 1 - 1 - j = ((digs (n / 256)).length - 1 - j) + 1 := by omega
        rw [e, Nat.pow_succ, Nat.mul_comm]
      · have e : j = (digs (n / 256)).length := by omega
        subst e
        rw [List.getElem?_append_right (Nat.le_refl _), Nat.sub_self]
        have e2 : (digs (n / 256)).length + 1 - 1 - (digs (n / 256)).length = 0 := by omega
        rw [e2, Nat.pow_zero, Nat.div_one]
        rfl
theorem digs_len_le : ∀ (k n : Nat), n < 256 ^ k → (digs n).length ≤ k
  | 0, n, h => by
    have e : n = 0 := by
      rw [Nat.pow_zero] at h
      omega
    rw [e, digs_zero]
    exact Nat.le_refl _
  | k + 1, n, h => by
    by_cases e : n = 0
    · rw [e, digs_zero]
      exact Nat.zero_le _
    · rw [digs_pos e, List.length_append, List.length_singleton]
      rw [Nat.pow_succ] at h
      have := digs_len_le k (n / 256) (by omega)
      omega
theorem digs_lt : ∀ (n d : Nat), d ∈ digs n → d < 256 := by
  intro n
  induction n using Nat.strongRecOn with
  | _ n ih =>
    intro d hd
    by_cases h : n = 0
    · rw [h, digs_zero] at hd
      cases hd
    · rw [digs_pos h] at hd
      rcases List.mem_append.mp hd with q | q
      · exact ih _ (by omega) d q
      · rw [List.mem_singleton] at q
        omega
theorem digs_len : ∀ n : Nat, (digs n).length = (Builtin.Int.intBits (n : Int) + 7) / 8 := by
  intro n
  induction n using Nat.strongRecOn with
  | _ n ih =>
    by_cases h : n = 0
    · subst h
      rw [digs_zero]
      decide
    · have bits : Builtin.Int.intBits (n : Int) = n.log2 + 1 := by
        unfold Builtin.Int.intBits
        rw [if_neg (by simpa using h)]
        rfl
      rw [bits, digs_pos h, List.length_append, List.length_singleton, ih (n / 256) (by omega)]
      by_cases hs : n < 256
      · have e : n / 256 = 0 := by omega
        rw [e]
        have hl : n.log2 < 8 := (Nat.log2_lt h).mpr hs
        have e0 : Builtin.Int.intBits ((0 : Nat) : Int) = 0 := by decide
        rw [e0]
        omega
      · have h0 : n / 256 ≠ 0 := by omega
        have bits2 : Builtin.Int.intBits ((n / 256 : Nat) : Int) = (n / 256).log2 + 1 := by
          unfold Builtin.Int.intBits
          rw [if_neg (by
            have := h0
            simp
            omega)]
          rfl
        rw [bits2]
        have e : n.log2 = (n / 256).log2 + 8 := by
          obtain ⟨h1, h2⟩ := (Nat.log2_eq_iff h0 (k := (n / 256).log2)).mp rfl
          refine (Nat.log2_eq_iff h).mpr ⟨?_, ?_⟩
          · rw [Nat.pow_add]
            omega
          · have e9 : (n / 256).log2 + 8 + 1 = ((n / 256).log2 + 1) + 8 := by omega
            rw [e9, Nat.pow_add]
            omega
        omega

/-- the code of a number -/
def codeN (n : Nat) : List Nat := if n < 192 then [n] else (191 + (digs n).length) :: digs n
theorem codeN_small {n : Nat} (h : n < 192) : codeN n = [n] := if_pos h
theorem codeN_big {n : Nat} (h : ¬ n < 192) : codeN n = (191 + (digs n).length) :: digs n := if_neg h
theorem codeN_len {n : Nat} (h : n < 256 ^ 63) : (codeN n).length ≤ 64 := by
  by_cases c : n < 192
  · rw [codeN_small c, List.length_singleton]
    omega
  · rw [codeN_big c, List.length_cons]
    have := digs_len_le 63 n h
    omega
theorem codeN_lt {n : Nat} (h : n < 256 ^ 63) : ∀ d ∈ codeN n, d < 256 := by
  intro d hd
  by_cases c : n < 192
  · rw [codeN_small c, List.mem_singleton] at hd
    omega
  · rw [codeN_big c] at hd
    rcases List.mem_cons.mp hd with q | q
    · have := digs_len_le 63 n h
      omega
    · exact digs_lt n d q

/-! ### heaps -/
/-- numbers as values -/
def vN (d : Nat) : V := .int (d : Int)
/-- all but what stands at p is as it was -/
def But (p : Addr) (H H' : Hp) : Prop := ∀ b o, b ≠ p → H b = some o → H' b = some o
theorem But.refl (p : Addr) (H : Hp) : But p H H := fun _ _ _ h => h
theorem But.trans {p : Addr} {H H1 H2 : Hp} (a : But p H H1) (b : But p H1 H2) : But p H H2 := fun c o n h => b c o n (a c o n h)
theorem But.put {p : Addr} {H : Hp} {o : HO} : But p H (upd H p o) := fun b u n h => by
  rw [upd_ne n]
  exact h
theorem But.seq {p a : Addr} {K : PySem.W.Frag} {H H' : Hp} {xs : List V} (e : But p H H') (n : a ≠ p) (h : SqL K H a xs) : SqL K H' a xs := by
  rcases h with (h | ⟨o, h⟩) | h
  · exact .inl (.inl (e _ _ n h))
  · exact .inl (.inr ⟨o, e _ _ n h⟩)
  · exact .inr h
theorem But.same {p : Addr} {H H1 H2 : Hp} (a : But p H H1) (b : Same H1 H2) : But p H H2 := fun c o n h => b c o (a c o n h)
theorem Same.but {p : Addr} {H H' : Hp} (a : Same H H') : But p H H' := fun c o _ h => a c o h
theorem same_new {H : Hp} {p : Addr} {o : HO} (h : H p = none) : Same H (upd H p o) := fun b u z => by
  rw [upd_ne (ne_of_none z h)]
  exact z
theorem seq_new {K : PySem.W.Frag} {H : Hp} {p : Addr} {xs : List V} : SqL K (upd H p (.lst xs)) p xs := .inl (.inl upd_same)
theorem seq_of {K : PySem.W.Frag} {H : Hp} {p : Addr} {xs : List V} (h : H p = some (.lst xs)) : SqL K H p xs := .inl (.inl h)
/-- the law's bag: two numbers to draw from, and how many draws there were (at most n) -/
def BagAt (H : Hp) (p : Addr) (n : Nat) : Prop := ∃ d s k : Int, H p = some (.lst [.int d, .int s, .int k]) ∧ 0 ≤ d ∧ 0 ≤ s ∧ s ≤ 2 ^ 40 ∧ 0 ≤ k ∧ k ≤ n
theorem BagAt.mono {H : Hp} {p : Addr} {n m : Nat} (b : BagAt H p n) (h : n ≤ m) : BagAt H p m := by
  obtain ⟨d, s, k, e, h1, h2, h3, h4, h5⟩ := b
  exact ⟨d, s, k, e, h1, h2, h3, h4, by omega⟩
theorem BagAt.same {H H' : Hp} {p : Addr} {n : Nat} (b : BagAt H p n) (s : Same H H') : BagAt H' p n := by
  obtain ⟨d, z, k, e, r⟩ := b
  exact ⟨d, z, k, s _ _ e, r⟩
theorem sz {n : Nat} (h : n ≤ 1000000) : n ≤ sizeLine := by
  rw [sizeLine_eq]
  omega
theorem sz_lt {n : Nat} (h : n ≤ 1000000) : n < sizeLine := by
  rw [sizeLine_eq]
  omega
/-- a conditional expression whose two ways both give what R says -/
theorem if_val {c : TT} {ta tb : TE} {σ : L2.St} {H : Hp} {Q : VK} (R : V → Prop) (go : ∀ Q' : VK, (∀ v, R v → Q' v H) → tIf c ta tb σ H Q') (k : ∀ v, R v → Q v H) : tIf c ta tb σ H Q := go Q k

/-! ### lists of numbers as data -/
theorem dp_nums {K : PySem.W.Frag} {H : Hp} : ∀ l : List Nat, DpAll K H (l.map vN) (l.map fun d : Nat => PyData.int (d : Int))
  | [] => .nil
  | d :: l => .cons (.int _) (dp_nums l)
theorem shown_len_append : True := trivial
end Sb
namespace Sb
open PySem PySem.Spec PyProof.Rows L2
def dN (d : Nat) : PyData := .int (d : Int)
theorem nums_data : ∀ (l : List Nat), (∀ d ∈ l, d < 1024) → PyData.showableAll (l.map dN) = true ∧ PyData.hasDictAll (l.map dN) = false ∧ PyData.depthAll (l.map dN) ≤ 1 ∧ PyData.leavesShortAll 13 (l.map dN) = true ∧ PyData.weightAll (l.map dN) ≤ 12 * l.length
  | [], _ => by decide
  | d :: l, h => by
    obtain ⟨h1, h2, h3, h4, h5⟩ := nums_data l fun x hx => h x (List.mem_cons_of_mem _ hx)
    have hd := h d List.mem_cons_self
    have hn : ((d : Int).natAbs) = d := Int.natAbs_natCast d
    have hl : ((d : Int).natAbs).log2 < 11 := by
      rw [hn]
      by_cases e : d = 0
      · subst e
        decide
      · have : d.log2 < 10 := (Nat.log2_lt e).mpr hd
        omega
    have hs : (PyData.shown (dN d)).length ≤ 13 := PyData.shown_int_le (by rw [hn]; omega)
    refine ⟨?_, ?_, ?_, ?_, ?_⟩
    · show (PyData.showable (dN d) && PyData.showableAll (l.map dN)) = true
      rw [h1, Bool.and_true]
      exact decide_eq_true (show ((d : Int).natAbs).log2 < 1920 by omega)
    · show (PyData.hasDict (dN d) || PyData.hasDictAll (l.map dN)) = false
      rw [h2]
      rfl
    · show max (PyData.depth (dN d)) (PyData.depthAll (l.map dN)) ≤ 1
      have : PyData.depth (dN d) ≤ 1 := by
        unfold dN
        simp [PyData.depth]
      omega
    · show (PyData.leavesShort 13 (dN d) && PyData.leavesShortAll 13 (l.map dN)) = true
      rw [h4, Bool.and_true]
      exact decide_eq_true hs
    · show PyData.weight (dN d) + 1 + PyData.weightAll (l.map dN) ≤ 12 * (l.length + 1)
      have : PyData.weight (dN d) ≤ 11 := by
        show (if ((d : Int) == 0) = true then 0 else (d : Int).natAbs.log2 + 1) ≤ 11
        split <;> omega
      omega
theorem dp_nums' {K : PySem.W.Frag} {H : Hp} : ∀ l : List Nat, DpAll K H (l.map vN) (l.map dN)
  | [] => .nil
  | d :: l => .cons (.int _) (dp_nums' l)
/-- repr of a list of small numbers -/
theorem repr_nums {K : PySem.W.Frag} {H : Hp} {a : Addr} {l : List Nat} {Q : VK} (h : SqL K H a (l.map vN)) (hs : ∀ d ∈ l, d < 1024) (hl : l.length ≤ 5000) (q : Q (.str (PyData.list (l.map dN)).shown) H) : rReprD K [.ref a] H Q := by
  obtain ⟨h1, h2, h3, h4, h5⟩ := nums_data l hs
  refine ⟨_, .list (l.map dN), rfl, .lst h (dp_nums' l), ?_, ?_, ?_, ?_, q⟩
  · exact h1
  · exact h2
  · show PyData.depthAll (l.map dN) + 1 ≤ 60
    omega
  · have := PyData.shown_le 13 (by decide) (.list (l.map dN)) h4
    have hw : PyData.weight (.list (l.map dN)) = PyData.weightAll (l.map dN) := by simp only [PyData.weight]
    rw [hw] at this
    rw [sizeLine_eq]
    omega
theorem repr_int {K : PySem.W.Frag} {H : Hp} {i : Int} {Q : VK} (h : i.natAbs.log2 < 1920) (q : Q (.str (PyData.int i).shown) H) : rReprD K [.int i] H Q := by
  refine ⟨_, .int i, rfl, .int i, ?_, ?_, ?_, ?_, q⟩
  · simpa [PyData.showable] using h
  · simp [PyData.hasDict]
  · simp [PyData.depth]
  · rw [PyData.shown_int]
    exact int_text_fits h
theorem seq_but {K : PySem.W.Frag} {H H1 H' : Hp} {a p : Addr} {xs : List V} (h : SqL K H a xs) (np : H p = none) (s : Same H H1) (b : But p H1 H') : SqL K H' a xs := by
  rcases h with (h | ⟨o, h⟩) | h
  · exact .inl (.inl (b _ _ (ne_of_none h np) (s _ _ h)))
  · exact .inl (.inr ⟨o, b _ _ (ne_of_none h np) (s _ _ h)⟩)
  · exact .inr h
/-- range(max(1, n)) -/
theorem turns_le {n m : Nat} (h : n ≤ m) (h1 : 1 ≤ m) : (if (n : Int) > 1 then (n : Int) else 1).toNat ≤ m := by
  split <;> omega
def Shows (d : PyData) : Prop := d.showable = true ∧ d.hasDict = false ∧ d.depth ≤ 60 ∧ d.shown.length ≤ sizeLine
theorem nums_ok {l : List Nat} (hs : ∀ d ∈ l, d < 1024) (hl : l.length ≤ 5000) : Shows (.list (l.map dN)) := by
  obtain ⟨h1, h2, h3, h4, h5⟩ := nums_data l hs
  refine ⟨h1, h2, ?_, ?_⟩
  · show PyData.depthAll (l.map dN) + 1 ≤ 60
    omega
  · have := PyData.shown_le 13 (by decide) (.list (l.map dN)) h4
    have hw : PyData.weight (.list (l.map dN)) = PyData.weightAll (l.map dN) := by simp only [PyData.weight]
    rw [hw] at this
    rw [sizeLine_eq]
    omega
theorem int_ok {i : Int} (h : i.natAbs.log2 < 1920) : Shows (.int i) := by
  refine ⟨?_, ?_, ?_, ?_⟩
  · simpa [PyData.showable] using h
  · simp [PyData.hasDict]
  · simp [PyData.depth]
  · rw [PyData.shown_int]
    exact int_text_fits h
/-- what is new since H1 may change -/
theorem But.mut {p f : Addr} {H H1 H2 : Hp} {o : HO} (a : But p H H1) (n : H1 f = none) (b : But p H1 H2) : But p H (upd H2 f o) := fun c u hc h => by
  have h1 := a c u hc h
  rw [upd_ne (ne_of_none h1 n)]
  exact b c u hc h1
theorem BagAt.mut {H H1 : Hp} {p f : Addr} {n : Nat} {o : HO} (b : BagAt H p n) (nf : H f = none) (s : Same H H1) : BagAt (upd H1 f o) p n := by
  obtain ⟨d, z, k, e, r⟩ := b
  exact ⟨d, z, k, by rw [upd_ne (ne_of_none e nf)]; exact s _ _ e, r⟩
theorem But.free {p q : Addr} {H H' : Hp} (b : But p H H') (n : H' q = none) (ne : q ≠ p) : H q = none := by
  cases z : H q with
  | none => rfl
  | some o =>
    rw [b q o ne z] at n
    cases n
end Sb
namespace Sb
open PySem PySem.Spec PyProof.Rows L2
/-- a conditional expression that may make objects -/
theorem tIf_all {c : TT} {ta tb : TE} {σ : L2.St} {H : Hp} {Q : VK} (R : V → Hp → Prop) (go : ∀ Q' : VK, (∀ v H', R v H' → Q' v H') → tIf c ta tb σ H Q') (k : ∀ v H', R v H' → Q v H') : tIf c ta tb σ H Q := go Q k
end Sb

set_option Elab.async false
set_option linter.all false
set_option maxRecDepth 100000
set_option maxHeartbeats 2000000
namespace Sb
open PySem PySem.Spec PyProof.Rows L2

/-! ### errors with one field, whose __init__ sets it -/
def spInit (K : PySem.W.Frag) (f : Str) : Sp := fun vs H Q _ => ∃ (a C : Addr) (v : V), vs = [.ref a, v] ∧ OexC K C ∧ PySem.W.findIn K (.ref C) f = some none ∧ H a = some (exo a C none) ∧
  ∀ dx, H dx = none → dx ≠ a → Q .non (upd (upd H dx (exd dx [(f, v)])) a (exo a C (some dx)))
/-- what is asked of such a class for isinstance -/
structure IsC (K : PySem.W.Frag) (D : Addr) : Prop where
  cl : (PySem.W.clsIn K D).isSome = true
  ga : PySem.W.findIn K (.ref D) "__getattribute__" = some (some (.builtin "BaseException.__getattribute__"))
  gg : PySem.W.findIn K (.ref D) "__getattr__" = some none
  ex : PySem.W.subIn K (.ref D) (.type "BaseException") = some true
  cc : PySem.W.findIn K (.ref D) "__class__" = some (some (.builtin "object.__class__"))
  ge : PySem.W.specialIn K (.builtin "object.__class__") "__get__" = some (some (.builtin "getset_descriptor.__get__"))
  tk : PySem.W.takesIn K (.builtin "object.__class__") = some true
  ob : PySem.W.mroIn K D (.type "object") = some true
/-- the class x of the program, at C, with the field f -/
structure Err (P : Program) (w : World) (K : PySem.W.Frag) (mg : Str → Option Value) (base : Heap) (x f : Str) (C : Addr) : Prop where
  g : mg x = some (.ref C)
  T : OexC K C
  X : XfC K C
  I : IsC K C
  no : PySem.W.findIn K (.ref C) f = some none
  maker : ∃ fI fd, PySem.W.findIn K (.ref C) "__init__" = some (some (.ref fI)) ∧ PySem.W.typeIn K (.ref fI) = some (.type "function") ∧ FnOk P w K mg base CX0 1 fI fd ["self", f] (spInit K f) ∧ Binds K fd ["self", f] []
section
variable {X : Cx} {x f : Str} {C : Addr} {e : Expr} {es : List Expr} {ta : TA} {p pos : Pos}
theorem pmk_err (R : Err X.prog X.w X.K X.mg X.base x f C) (room : Room 2 X.A) (hg : Gl X x) (ha : PA X (e :: es) ta)
    (hdb : (x == ("__debug__" : Str)) = false := by decide) (he : starEach (e :: es) X.env = (false, eval e X.env) :: starEach es X.env := by rfl) (hpl : (backTo pos (starEach es X.env)).any (·.1) = false := by rfl) :
    PMk X (.Call (.Name x p) (e :: es) [] pos) (tMkO C (spInit X.K f) [] ta) := by
  obtain ⟨fI, fd, h1, h2, h3, h4⟩ := R.maker
  exact pmk_oex R.T h1 h2 h3 room h4 .nil pass0 hg R.g ha hdb he hpl
end
theorem err_made {K : PySem.W.Frag} {C : Addr} {f : Str} {v : V} {H : Hp} {R : XK} (T : OexC K C) (no : PySem.W.findIn K (.ref C) f = some none) (k : ∀ d H', H d = none → Same H H' → H' d = some (.xd [(f, v)]) → R (.ref C) (some d) H') :
    ([v] : List V).length ≤ 1000 ∧ ∀ a, H a = none → spInit K f (.ref a :: ([v] ++ [])) (upd H a (exo a C none)) (fun u H2 => u = .non ∧ ∃ (d : Addr) (fs : List (Str × V)), H2 a = some (exo a C (some d)) ∧ H2 d = some (exd d fs) ∧ H d = none ∧
      R (.ref C) (some d) (upd (del H2 a) d (.xd fs))) (fun _ _ _ => False) := by
  refine ⟨Nat.le_trans (Nat.le_refl 1) (by decide), fun a na => ⟨a, C, v, rfl, T, no, upd_same, fun dx nd ne => ⟨rfl, dx, [(f, v)], upd_same, ?_, ?_, ?_⟩⟩⟩
  · rw [upd_ne ne, upd_same]
  · rw [upd_ne ne] at nd
    exact nd
  · rw [upd_ne ne] at nd
    refine k dx _ nd ?_ upd_same
    intro b o z
    have hb : b ≠ a := ne_of_none z na
    have hd : b ≠ dx := ne_of_none z nd
    rw [upd_ne hd, del_ne hb, upd_ne hb, upd_ne hd, upd_ne hb]
    exact z

/-! the __init__ of such a class, as it stands in the text -/
section
variable {P : Program} {w : World} {K : PySem.W.Frag} {mg : Str → Option Value} {base : Heap}
theorem ok_initBy {q : Str} {st : Stmt} {f : Addr} {fd : FuncData} {fld : Str} (F : Fun K "__init__" q st f fd) (S : FnScope ["self", fld] ["self", fld] (defScope st))
    (body : ∀ (cdv : Value) (A : Around) (outer : List Env) (s : Shared) (H : Hp) (E : XK), PSs (cxOf CX0 P w K mg base ["self", fld] q (defScope st) f cdv A outer s H E).nox (defBody st) (tOst K fld (tVar 0) (tVar 1))) :
    FnOk P w K mg base CX0 1 f fd ["self", fld] (spInit K fld) := by
  refine F.ok S (fun vs H Q E h => ?_) (fun cdv A outer s H vs Q E hr h => ?_)
  · obtain ⟨a, C, v, rfl, _⟩ := h
    rfl
  · obtain ⟨a, C, v, rfl, T, no, ha, k⟩ := h
    exact ⟨_, body cdv A outer s H E, _, rfl, _, rfl, a, C, rfl, T, no, .inl ⟨ha, fun dx n ne => k dx n ne⟩⟩
end

/-! ### isinstance of the caught error -/
def rIsX (K : PySem.W.Frag) (cls : Value) (d : Option Addr) (a : Addr) : List V → Hp → VK → Prop := fun xs H Q =>
  ∃ (D dd : Addr) (fs : List (Str × V)) (c : V) (cv : Value) (b : Bool), xs = [.ref a, c] ∧ cls = .ref D ∧ IsC K D ∧ d = some dd ∧ H dd = some (.xd fs) ∧ (∀ u, RelV c u → u = cv) ∧ PySem.W.kitOne K (.ref D) cv = some b ∧ Q (.bl b) H
theorem call_isX {X : Cx} {a : Addr} {cls : Value} {d : Option Addr} {oe : Obj} {pn : List (Addr × Obj)} (hz : Zc cls d oe) (hf : ∃ vs, oe.data = .fields vs) : CallR (X.suite a ((a, oe) :: pn)) (.builtin "isinstance") (rIsX X.K cls d a) := by
  intro pins s σ H xs us Q I r h
  obtain ⟨D, dd, fs, c, cv, b, rfl, rfl, T, rfl, hd, rc, e, q⟩ := h
  obtain ⟨u1, u2, rfl, r1, r2⟩ := vals2 r
  cases (show u1 = Value.ref a from r1)
  cases rc _ r2
  obtain ⟨here, _⟩ := I.pin (a, oe) (List.mem_append.mpr (.inl List.mem_cons_self))
  obtain ⟨vs, hv⟩ := hf
  obtain ⟨mA, hns, _⟩ := (show ObjOk X.prog X.w H s.heap dd (.xd fs) from I.hok dd _ hd)
  obtain ⟨od, ho, _⟩ := lookIn_ns hns
  have J : PySem.W.InstAt s.heap a oe D (some od) := ⟨here, hz.1, by unfold PySem.W.notCls; rw [hv] <;> rfl, by rw [hz.2]; exact ho⟩
  exact PySem.W.kia_one (PySem.W.kitx_exc T.cl T.ga T.gg T.ex T.cc T.ge T.tk T.ob) I.kIn J e (fun z => nomatch z) fun tk => ⟨.bl b, H, I.tok tk, rfl, q⟩

/-! ### calls whose errors are wished for at the caller's slots -/
section
variable {X : Cx} {CX : CXT} {k : Nat} {f : Addr} {fd : FuncData} {ps : List Str} {sp : Sp} {ds : List Value} {dvs : List V} {E : L2.St → XK} {x : Str} {p pos : Pos} {e : Expr} {es : List Expr} {t : TA}
def tToldS (sp : Sp) (dvs : List V) (E : L2.St → XK) (t : TA) : TE := fun σ H Q => t σ H fun vs H1 => sp (vs ++ dvs) H1 Q (E σ)
theorem pe_toldS (T : Told X.prog X.w X.K X.mg X.base CX k f fd ps sp) (clr : Clr X.A) (room : Room k X.A) (hg : Gl X x) (hm : X.mg x = some (.ref f)) (hk : PySem.W.keepIn X.K (.ref f) = true)
    (hb : Binds X.K fd ps ds) (hd : Vals dvs ds) (pass : ∀ σ, PassesAt CX X σ (E σ)) (ha : PA X (e :: es) t) (hdb : (x == ("__debug__" : Str)) = false := by decide)
    (he : starEach (e :: es) X.env = (false, eval e X.env) :: starEach es X.env := by rfl) (hpl : (backTo pos (starEach es X.env)).any (·.1) = false := by rfl) :
    PE X (.Call (.Name x p) (e :: es) [] pos) (tToldS sp dvs E t) := by
  constructor
  intro pins s σ H Q I want
  apply wpAny_Call_Name_kw
  refine ld_glob I hg hm ?_ hdb
  apply PySem.W.callWith_K (h₀ := X.base) I.ok.mod.kin hk ?_ he hpl
  refine thn (ha.run pos pins s σ H _ I want) ?_
  intro us s1 got
  obtain ⟨vs, H1, I1, r, say⟩ := got
  refine ⟨I1.kIn, wpAny_call ?_⟩
  have rr := r.append hd
  have many : (us ++ ds).length = ps.length := rr.length.symm.trans (T.arity say)
  refine codeAny_mono (T.go clr room I1.env0 (hb s1 us I1.kIn many) rr say) ?_
  intro res s2 h
  match res, h with
  | .error er, h => exact pass σ pins H1 s1 er s2 I1 h
  | .ok (.ret u), h => exact I1.after h
  | .ok .next, h => exact h.elim
  | .ok .brk, h => exact h.elim
  | .ok .cont, h => exact h.elim
end

theorem call_reprDs {X : Cx} {a : Addr} {pn : List (Addr × Obj)} (clr : Clr X.A) (hu : X.A.units + 64 < cLine) : CallR (X.suite a pn) (.builtin "repr") (rReprD X.K) := call_reprD (X := X.suite a pn) clr hu

/-! ### isinstance by classes of the program -/
theorem cls_some {K : PySem.W.Frag} {C : Addr} (h : PySem.W.hasDictIn K C = true) : (PySem.W.clsIn K C).isSome = true := by
  obtain ⟨cd, hc, _⟩ := PySem.W.any_some h
  rw [hc]
  rfl
theorem kit_own {K : PySem.W.Frag} {D C : Addr} {b : Bool} (ne : b = false → D ≠ C) (cl : (PySem.W.clsIn K C).isSome = true) (ty : PySem.W.typeIn K (.ref C) = some (.type "type")) (s : PySem.W.subIn K (.ref D) (.ref C) = some b) : PySem.W.kitOne K (.ref D) (.ref C) = some b := by
  have e2 : ((PySem.W.clsIn K C).isSome && PySem.W.typeIn K (.ref C) == some (.type "type")) = true := by rw [cl, ty] <;> rfl
  have e3 : PySem.W.kitCls K (.ref D) (.ref C) = some b := by
    show (if ((PySem.W.clsIn K C).isSome && PySem.W.typeIn K (.ref C) == some (.type "type")) = true then PySem.W.subIn K (.ref D) (.ref C) else none) = some b
    rw [if_pos e2]
    exact s
  unfold PySem.W.kitOne
  by_cases h : (Value.ref D == Value.ref C) = true
  · rw [if_pos h]
    have e : D = C := Value.ref.inj (beq_iff_eq.mp h)
    cases b with
    | true => rfl
    | false => exact absurd e (ne rfl)
  · rw [if_neg h]
    exact e3
theorem kit_type {K : PySem.W.Frag} {D : Addr} {T : String} {b : Bool} (m : PySem.W.kitMeta T = true) (s : PySem.W.subIn K (.ref D) (.type T) = some b) : PySem.W.kitOne K (.ref D) (.type T) = some b := by
  have h : ¬ (Value.ref D == Value.type T) = true := fun z => nomatch (beq_iff_eq.mp z)
  unfold PySem.W.kitOne
  rw [if_neg h]
  show (if PySem.W.kitMeta T = true then PySem.W.subIn K (.ref D) (.type T) else none) = some b
  rw [if_pos m]
  exact s
theorem ne_sub {K : PySem.W.Frag} {D C : Addr} (h1 : PySem.W.subIn K (.ref D) (.ref D) = some true) (h2 : PySem.W.subIn K (.ref D) (.ref C) = some false) : D ≠ C := fun e => by
  rw [← e, h1] at h2
  cases h2
/-- what an except clause asks of a class S of the program -/
theorem exm_own {K : PySem.W.Frag} {D S : Addr} {b : Bool} (h1 : PySem.W.subIn K (.ref S) (.type "BaseException") = some true) (h2 : PySem.W.hasDictIn K S = true) (h3 : PySem.W.typeIn K (.ref S) = some (.type "type")) (h4 : PySem.W.subIn K (.ref D) (.ref S) = some b) :
    PySem.W.exmOne K (.ref D) (.ref S) = some b := by
  have e1 : (PySem.W.subIn K (.ref S) (.type "BaseException") == some true) = true := by rw [h1] <;> rfl
  have e2 : ((PySem.W.clsIn K S).isSome && PySem.W.typeIn K (.ref S) == some (.type "type")) = true := by rw [cls_some h2, h3] <;> rfl
  show (if (PySem.W.subIn K (.ref S) (.type "BaseException") == some true) = true then (if ((PySem.W.clsIn K S).isSome && PySem.W.typeIn K (.ref S) == some (.type "type")) = true then PySem.W.subIn K (.ref D) (.ref S) else none) else none) = some b
  rw [if_pos e1, if_pos e2]
  exact h4
theorem relV_ref {C : Addr} : ∀ u, RelV (.ref C) u → u = .ref C := fun _ h => h
theorem relV_ty {T : String} : ∀ u, RelV (.ty T) u → u = .type T := fun _ h => h
end Sb
namespace Sb
open PySem PySem.Spec PyProof.Rows L2
theorem seqT {K : PySem.W.Frag} {H H' : Hp} {a : Addr} {xs : List V} (e : Same H H') (h : SqT K H a xs) : SqT K H' a xs := by
  rcases h with (h | ⟨o, h⟩) | h
  · exact .inl (.inl (e _ _ h))
  · exact .inl (.inr ⟨o, e _ _ h⟩)
  · exact .inr h
mutual
theorem dpSame {K : PySem.W.Frag} {H H' : Hp} (s : Same H H') : ∀ {v : V} {d : PyData}, Dp K H v d → Dp K H' v d
  | _, _, .non => .non
  | _, _, .bl b => .bl b
  | _, _, .int i => .int i
  | _, _, .str x => .str x
  | _, _, .lst a b => .lst (s.seq a) (dpSameAll s b)
  | _, _, .tup a b => .tup (seqT s a) (dpSameAll s b)
theorem dpSameAll {K : PySem.W.Frag} {H H' : Hp} (s : Same H H') : ∀ {vs : List V} {ds : List PyData}, DpAll K H vs ds → DpAll K H' vs ds
  | _, _, .nil => .nil
  | _, _, .cons a b => .cons (dpSame s a) (dpSameAll s b)
end
end Sb
namespace Sb
open PySem PySem.Spec PyProof.Rows L2
theorem shows_of {d : PyData} (h1 : d.showable = true) (h2 : d.hasDict = false) (h3 : d.depth ≤ 60) (h4 : PyData.leavesShort 1921 d = true) (h5 : d.weight ≤ 8000) : Shows d := by
  refine ⟨h1, h2, h3, ?_⟩
  have := PyData.shown_le 1921 (by decide) d h4
  rw [sizeLine_eq]
  have : (1921 + 2) * d.weight ≤ 1923 * 8000 := Nat.mul_le_mul_left _ h5
  omega
theorem log_of {i : Int} (h : i.natAbs < 2 ^ 1900) : i.natAbs.log2 < 1900 := by
  by_cases e : i.natAbs = 0
  · rw [e]
    decide
  · exact (Nat.log2_lt e).mpr h
theorem int_okB {i : Int} (h : i.natAbs < 2 ^ 1900) : Shows (.int i) := int_ok (Nat.lt_trans (log_of h) (by decide))
theorem one_data {i : Int} (h : i.natAbs < 2 ^ 1900) : PyData.showableAll [.int i] = true ∧ PyData.hasDictAll [.int i] = false ∧ PyData.depthAll [.int i] ≤ 1 ∧ PyData.leavesShortAll 1921 [.int i] = true ∧ PyData.weightAll [.int i] ≤ 2000 := by
  have l := log_of h
  refine ⟨?_, ?_, ?_, ?_, ?_⟩
  · show (decide (i.natAbs.log2 < 1920) && true) = true
    rw [decide_eq_true (show i.natAbs.log2 < 1920 by omega)]
    rfl
  · rfl
  · simp [PyData.depthAll, PyData.depth]
  · show (decide ((PyData.shown (.int i)).length ≤ 1921) && true) = true
    rw [PyData.shown_int, decide_eq_true (int_text_len_1921 (show i.natAbs.log2 < 1920 by omega))]
    rfl
  · show (if (i == 0) = true then 0 else i.natAbs.log2 + 1) + 1 + 0 ≤ 2000
    split <;> omega
theorem list1_ok {i : Int} (h : i.natAbs < 2 ^ 1900) : Shows (.list [.int i]) := by
  obtain ⟨h1, h2, h3, h4, h5⟩ := one_data h
  exact shows_of h1 h2 (show PyData.depthAll [.int i] + 1 ≤ 60 by omega) h4 (show PyData.weightAll [.int i] ≤ 8000 by omega)
theorem tup1_ok {i : Int} (h : i.natAbs < 2 ^ 1900) : Shows (.tuple [.int i]) := by
  obtain ⟨h1, h2, h3, h4, h5⟩ := one_data h
  exact shows_of h1 h2 (show PyData.depthAll [.int i] + 1 ≤ 60 by omega) h4 (show PyData.weightAll [.int i] ≤ 8000 by omega)
theorem bool_ok (b : Bool) : Shows (.bool b) := by cases b <;> exact ⟨by decide, by decide, by decide, by decide +kernel⟩
theorem none_ok : Shows .none := ⟨by decide, by decide, by decide, by decide +kernel⟩
theorem nil_ok : Shows (.list []) := ⟨by decide, by decide, by decide, by decide +kernel⟩
theorem unit_ok : Shows (.tuple []) := ⟨by decide, by decide, by decide, by decide +kernel⟩
end Sb

set_option Elab.async false
set_option linter.all false
set_option maxRecDepth 100000
set_option maxHeartbeats 4000000
namespace Sb
open PySem PySem.Spec PyProof.Rows L2
/-! ### try with several clauses, each with a name -/
/-- behind a suite its name is gone -/
def bare (i : Nat) (D : Ends) : Ends := { nx := fun σ H => D.nx (σ.set i none) H, rt := D.rt, bk := fun σ H => D.bk (σ.set i none) H, ct := fun σ H => D.ct (σ.set i none) H }
abbrev Suite := Addr → Value → Option Addr → TS
def wClauses (K : PySem.W.Frag) (Wout : WX) (D : Ends) : List (Value × Nat × Suite) → WX
  | [] => Wout
  | (c, i, ts) :: rest => fun cls d σ H => ∃ b, PySem.W.exmOne K cls c = some b ∧ (b = true → ∀ a, H a = none → ts a cls d (bare i D) (σ.set i (some (.ref a))) H) ∧ (b = false → wClauses K Wout D rest cls d σ H)
inductive Clauses (X : Cx) : List ExceptHandler → List (Value × Nat × Suite) → Prop
  | nil : Clauses X [] []
  | cons {x n : Str} {c : Value} {i : Nat} {ts : Suite} {st : Stmt} {sts : List Stmt} {p1 p2 : Pos} {hs : List ExceptHandler} {l : List (Value × Nat × Suite)} (slot : X.N[i]? = some n) (loc : X.env.kindOf n = some .local) (cls : Names X x c)
      (run : ∀ (a : Addr) (oe : Obj) (cls : Value) (d : Option Addr) (pn : List (Addr × Obj)), Zc cls d oe → (∃ vs, oe.data = .fields vs) → PSs (X.suite a ((a, oe) :: pn)) (st :: sts) (ts a cls d)) (more : Clauses X hs l) :
      Clauses X (.ExceptHandler (some (.Name x p1)) (some n) (st :: sts) p2 :: hs) ((c, i, ts) :: l)
section
variable {X : Cx} {body : List Stmt} {h₀ : ExceptHandler} {hs : List ExceptHandler} {l : List (Value × Nat × Suite)} {pos : Pos} {tb : WX → TS} {Wout : WX}
theorem ps_try_clauses (stk : X.stack = X.env :: X.outer) (frm : X.env.frame = some X.env.locals) (nd : X.N.Nodup) (out : Takes X Wout) (cl : Clauses X (h₀ :: hs) l)
    (inner : ∀ (W : WX) (pn : List (Addr × Obj)) (xe : Value → Shared → Prop), Takes (X.tr pn xe) W → PassesOwn (model X.prog X.w) X.A X.env xe → PSs (X.tr pn xe) body (tb W)) :
    PS X (.Try body (h₀ :: hs) [] [] pos) (fun D σ H => tb (wClauses X.K Wout D l) D σ H) := by
  constructor
  intro pins s σ H D inv want
  have ok := inv.ok
  have frames : X.A.frames = some (X.env :: X.outer) := ok.frames.trans (congrArg some stk)
  apply wpAny_Try_except
  let caught : Value → Shared → Prop := fun e s₁ => wpAny (model X.prog X.w) X.A (noteFrame e X.env) (fun _ s₂ => wpAny (model X.prog X.w) X.A (setFlight e none) (fun _ s₃ => wpAny (model X.prog X.w) X.A (handleBy e X.env (h₀ :: hs)) (SP X pins D) X.xe s₃) X.xe s₂) X.xe s₁
  have land : Takes (X.tr (X.pn ++ pins) caught) (wClauses X.K Wout D l) := by
    intro u s' air
    obtain ⟨a, B, sI, pins', σ', H', cls, d, rfl, inv0, ground, up, sky, fresh, os, gens, wish⟩ := air
    have invI : Inv X pins σ' H' sI := inv0.ofTry ok
    show wpAny (model X.prog X.w) X.A (noteFrame (.ref a) X.env) _ _ _
    refine Sky.land Zc.steady frames frm (show Sky B (X.env :: X.outer) a (Zc cls d) X.env.locals s'.heap from stk ▸ sky) ?_
    intro h3 flying up3
    have inv3 : Inv X pins σ' H' { s' with heap := h3 } := invI.landed ground flying.1 (up.trans up3) os gens
    obtain ⟨oe, fs, here, zc, recd⟩ := flying.there
    have notFrame : a ∉ frs (X.env :: X.outer) := fun mem => by
      obtain ⟨_, o, ho, no⟩ := flying.2.2.1.mem mem
      rw [here] at ho
      cases ho
      exact no _ recd
    have notLocals : a ≠ X.env.locals := fun e => notFrame (List.mem_filterMap.mpr ⟨X.env, List.mem_cons_self, by rw [frm, e]⟩)
    have notOuter : a ∉ X.fs := fun mem => by
      obtain ⟨env, hm, q⟩ := List.mem_filterMap.mp mem
      exact notFrame (List.mem_filterMap.mpr ⟨env, List.mem_cons_of_mem _ hm, q⟩)
    have invS := inv3.suite here recd fresh notLocals notOuter
    have typ : PySem.W.Looks (model X.prog X.w) h3 (typeOf (.ref a)) cls := by
      intro A Q E s k q
      refine wpAny_typeOf_ref (k _ _ here) ?_
      rw [zc.1]
      exact q
    suffices each : ∀ {hs' : List ExceptHandler} {l' : List (Value × Nat × Suite)}, Clauses X hs' l' → wClauses X.K Wout D l' cls d σ' H' → wpAny (model X.prog X.w) X.A (handleBy (.ref a) X.env hs') (SP X pins D) X.xe { s' with heap := h3 } from each cl wish
    intro hs' l' cl'
    induction cl' with
    | nil =>
      intro wOut
      apply wpAny_handleBy_nil
      obtain ⟨_, _, _, oe', fs', T, oT, ts', e1, _, e2, e3, _⟩ := id flying
      unfold PySem.passOn
      refine wpAny_bind (wpAny_field e1 e2 e3 ?_)
      rw [if_neg (by simp)]
      have gone : wpAny (model X.prog X.w) X.A (setFlight (.ref a) X.env.frame) (fun _ s4 => wpAny (model X.prog X.w) X.A (throw (.ref a) : Sem Flow) (SP X pins D) X.xe s4) X.xe { s' with heap := h3 } := by
        rw [frm]
        apply HandSPX.setFlight_upZ flying
        intro h4 held up4
        exact wpAny_throw (out _ _ ⟨a, B, sI, pins, σ', H', cls, d, rfl, invI, ground, (up.trans up3).trans up4, .inr (.inr (stk.symm ▸ held)), fresh, os, gens, wOut⟩)
      first
        | exact wpAny_bind (wpAny_pure (wpAny_bind gone))
        | exact wpAny_bind gone
    | @cons x n c i ts st sts p1 p2 hs2 l2 slot loc named run more ih =>
      intro w1
      obtain ⟨b, ans, yes, no⟩ := w1
      refine wpAny_handleBy_cons (codeAny_handlers_test ?_) (fun z => nomatch z)
      have looks := PySem.W.exm_one (M := model X.prog X.w) inv3.kIn typ ans
      have clsRead : ∀ {Q : Value → Shared → Prop} {E : Value → Shared → Prop}, Q c { s' with heap := h3 } → wpAny (model X.prog X.w) (X.A.mark (some (.ref a))) (eval (.Name x p1) X.env) Q E { s' with heap := h3 } := by
        intro Q E q
        obtain ⟨hg, hdb, h | ⟨h, hv, hn⟩⟩ := named
        · exact ld_glob (X := X.suite a ((a, oe) :: (X.pn ++ pins))) invS hg h q hdb
        · exact ld_blt (X := X.suite a ((a, oe) :: (X.pn ++ pins))) invS hg h hv q hn hdb
      refine clsRead (looks.here ?_)
      match b, ans, yes, no with
      | false, _, _, no => exact ih (no rfl)
      | true, _, yes, _ =>
        apply codeAny_handlers_suite_as
        apply HandSPX.lands_againZ flying
        intro h4 fl4 up4
        have inv4 : Inv X pins σ' H' { s' with heap := h4 } := invI.landed ground fl4.1 ((up.trans up3).trans up4) os gens
        obtain ⟨oe4, fs4, here4, zc4, rec4⟩ := fl4.there
        have invS4 := inv4.suite here4 rec4 fresh notLocals notOuter
        refine store_ok (X := X.suite a ((a, oe4) :: (X.pn ++ pins))) (v := .ref a) invS4 nd slot (.inl loc) rfl (fun s5 inv5 => ?_) (.inr loc)
        refine wpAny_mono ((run a oe4 cls d (X.pn ++ pins) zc4 ⟨_, rec4⟩).run [] s5 _ H' _ inv5 (yes rfl a fresh)) ?_ (fun _ _ z => z.elim)
        intro fl s6 done
        have unname : ∀ {σ6 : L2.St} {H6 : Hp} {Q : Shared → Prop}, Inv (X.suite a ((a, oe4) :: (X.pn ++ pins))) [] σ6 H6 s6 → (∀ s7, Inv X pins (σ6.set i none) H6 s7 → Q s7) →
            wpAny (model X.prog X.w) X.A (do bindName X.env n .none; unbindBehindTheSuite X.env n p2) (fun _ s7 => Q s7) X.xe s6 := fun S6 q => gone_ok (S6.unsuite ok) nd slot loc q
        match fl, done with
        | .next, done => exact let ⟨_, _, S6, q6⟩ := done; unname S6 fun s7 J7 => ⟨_, _, J7, q6⟩
        | .brk, done => exact let ⟨_, _, S6, q6⟩ := done; unname S6 fun s7 J7 => ⟨_, _, J7, q6⟩
        | .cont, done => exact let ⟨_, _, S6, q6⟩ := done; unname S6 fun s7 J7 => ⟨_, _, J7, q6⟩
        | .ret u, done => exact let ⟨_, _, _, S6, r6, q6⟩ := done; unname S6 fun s7 J7 => ⟨_, _, _, J7, r6, q6⟩
  refine wpAny_mono ((inner _ (X.pn ++ pins) caught land PassesOwn.looking).run [] s σ H D (inv.toTry _) want) ?_ (fun _ _ z => z)
  intro fl s1 done
  match fl, done with
  | .next, done => exact let ⟨_, _, J, q⟩ := done; wpAny_execs_nil ⟨_, _, J.ofTry ok, q⟩
  | .brk, done => exact let ⟨_, _, J, q⟩ := done; ⟨_, _, J.ofTry ok, q⟩
  | .cont, done => exact let ⟨_, _, J, q⟩ := done; ⟨_, _, J.ofTry ok, q⟩
  | .ret u, done => exact let ⟨_, _, _, J, r, q⟩ := done; ⟨_, _, _, J.ofTry ok, r, q⟩
end
end Sb

set_option Elab.async false
set_option linter.all false
set_option maxRecDepth 100000
set_option maxHeartbeats 4000000
namespace Sb
open PySem PySem.Spec PyProof.Rows L2
/-! ### the order of lists of numbers -/
def lexN : List Nat → List Nat → Bool
  | [], [] => false
  | [], _ :: _ => true
  | _ :: _, [] => false
  | x :: xs, y :: ys => if x = y then lexN xs ys else decide (x < y)
theorem lexN_cons (x y : Nat) (xs ys : List Nat) : lexN (x :: xs) (y :: ys) = if x = y then lexN xs ys else decide (x < y) := rfl
theorem getD_mid (pre xs : List Nat) (x : Nat) : (pre ++ x :: xs).getD pre.length 0 = x := by
  rw [List.getD_eq_getElem?_getD, List.getElem?_append_right (Nat.le_refl _), Nat.sub_self]
  rfl
theorem first_lex : ∀ (l m p q : List Nat), p.length = q.length →
    SeqAt.firstLt (fun j => ((((p ++ l).getD j 0 : Nat) : Int) == (((q ++ m).getD j 0 : Nat) : Int))) (fun j => decide ((((p ++ l).getD j 0 : Nat) : Int) < (((q ++ m).getD j 0 : Nat) : Int))) (decide (l.length < m.length)) (List.range' p.length (min l.length m.length)) = lexN l m
  | [], [], p, q, h => rfl
  | [], y :: ys, p, q, h => by
    rw [show min ([] : List Nat).length (y :: ys).length = 0 by simp, List.range'_zero]
    show decide _ = true
    simp
  | x :: xs, [], p, q, h => by
    rw [show min (x :: xs).length ([] : List Nat).length = 0 by simp, List.range'_zero]
    show decide _ = false
    simp
  | x :: xs, y :: ys, p, q, h => by
    have e1 : min (x :: xs).length (y :: ys).length = min xs.length ys.length + 1 := by
      simp only [List.length_cons]
      omega
    rw [e1, List.range'_succ, lexN_cons]
    have g1 := getD_mid p xs x
    have g2 := getD_mid q ys y
    rw [← h] at g2
    by_cases c : x = y
    · rw [SeqAt.firstLt_yes (by rw [g1, g2, c]; exact beq_self_eq_true _), if_pos c]
      have ih := first_lex xs ys (p ++ [x]) (q ++ [y]) (by simp [h])
      rw [List.append_assoc, List.append_assoc, List.length_append] at ih
      have ed : decide ((x :: xs).length < (y :: ys).length) = decide (xs.length < ys.length) := by simp
      rw [ed]
      exact ih
    · rw [SeqAt.firstLt_no (by rw [g1, g2]; exact beq_eq_false_iff_ne.mpr (fun z => c (by omega))), if_neg c, g1, g2]
      simp
theorem valsN {l : List Nat} {its : List Value} (r : Vals (l.map vN) its) (j : Nat) (h : j < its.length) : ∃ t, its[j]? = some (.int ((l.getD j 0 : Nat) : Int) t) := by
  have hl : its.length = l.length := by
    have := r.length
    rw [List.length_map] at this
    exact this.symm
  have hj : (l.map vN)[j]? = some (vN (l.getD j 0)) := by
    rw [List.getElem?_map, List.getElem?_eq_getElem (by omega), List.getD_eq_getElem?_getD, List.getElem?_eq_getElem (by omega)]
    rfl
  obtain ⟨u, hu, t, rfl⟩ := r.get hj
  exact ⟨t, hu⟩
def rLtN (K : PySem.W.Frag) : R2 := fun x y H Q => ∃ (a b : Addr) (l m : List Nat), x = .ref a ∧ y = .ref b ∧ SqL K H a (l.map vN) ∧ SqL K H b (m.map vN) ∧ Q (.bl (lexN l m)) H
theorem op_ltN {X : Cx} (hu : X.A.units + 64 < cLine) : OpR X (compareOp .Lt) (rLtN X.K) := by
  intro pins s σ H x y v u Q I rx ry h
  obtain ⟨a, b, l, m, rfl, rfl, ha, hb, q⟩ := h
  cases rx
  cases ry
  obtain ⟨its, r1, p1, _⟩ := I.list ha
  obtain ⟨its2, r2, p2, _⟩ := I.list hb
  have n1 : its.toArray.size = l.length := by
    have := r1.length
    rw [List.length_map] at this
    rw [List.size_toArray]
    exact this.symm
  have n2 : its2.toArray.size = m.length := by
    have := r2.length
    rw [List.length_map] at this
    rw [List.size_toArray]
    exact this.symm
  have main := SeqAt.RcLt.lists (A := X.A) (s := s) (e := fun j => (((([] ++ l).getD j 0 : Nat) : Int) == ((([] ++ m).getD j 0 : Nat) : Int))) (r := fun j => decide (((([] ++ l).getD j 0 : Nat) : Int) < ((([] ++ m).getD j 0 : Nat) : Int))) p1.isList p2.isList (by omega) ?_ ?_
  · rw [n1, n2, List.range_eq_range'] at main
    rw [show SeqAt.firstLt _ _ (decide (l.length < m.length)) (List.range' 0 (min l.length m.length)) = lexN l m from first_lex l m [] [] rfl] at main
    exact main X.prog X.w _ _ ⟨.bl (lexN l m), H, I, rfl, q⟩
  · intro j h1 h2
    obtain ⟨t, e1⟩ := valsN r1 j (by rw [List.size_toArray] at h1; exact h1)
    obtain ⟨t2, e2⟩ := valsN r2 j (by rw [List.size_toArray] at h2; exact h2)
    have f1 : its.toArray[j] = .int ((l.getD j 0 : Nat) : Int) t := by
      rw [List.getElem_toArray]
      exact Option.some.inj ((List.getElem?_eq_getElem _).symm.trans e1)
    have f2 : its2.toArray[j] = .int ((m.getD j 0 : Nat) : Int) t2 := by
      rw [List.getElem_toArray]
      exact Option.some.inj ((List.getElem?_eq_getElem _).symm.trans e2)
    rw [f1, f2]
    exact SeqAt.EqAt.int_int _ _ _ _
  · intro j h1 h2 _
    obtain ⟨t, e1⟩ := valsN r1 j (by rw [List.size_toArray] at h1; exact h1)
    obtain ⟨t2, e2⟩ := valsN r2 j (by rw [List.size_toArray] at h2; exact h2)
    have f1 : its.toArray[j] = .int ((l.getD j 0 : Nat) : Int) t := by
      rw [List.getElem_toArray]
      exact Option.some.inj ((List.getElem?_eq_getElem _).symm.trans e1)
    have f2 : its2.toArray[j] = .int ((m.getD j 0 : Nat) : Int) t2 := by
      rw [List.getElem_toArray]
      exact Option.some.inj ((List.getElem?_eq_getElem _).symm.trans e2)
    rw [f1, f2]
    exact fun prog w E Q h => HT.rcLt_int _ _ _ _ _ _ prog w E Q h
theorem lexN_irr : ∀ l : List Nat, lexN l l = false
  | [] => rfl
  | x :: l => by rw [lexN_cons, if_pos rfl, lexN_irr l]
/-! ### codes in their order -/
def valN : List Nat → Nat
  | [] => 0
  | x :: xs => x * 256 ^ xs.length + valN xs
theorem valN_lt : ∀ l : List Nat, (∀ d ∈ l, d < 256) → valN l < 256 ^ l.length
  | [], _ => by decide
  | x :: xs, h => by
    have h1 := valN_lt xs fun d hd => h d (List.mem_cons_of_mem _ hd)
    have h2 := h x List.mem_cons_self
    have h3 : (x + 1) * 256 ^ xs.length ≤ 256 * 256 ^ xs.length := Nat.mul_le_mul_right _ (by omega)
    show x * 256 ^ xs.length + valN xs < 256 ^ (xs.length + 1)
    rw [Nat.pow_succ, Nat.mul_comm (256 ^ xs.length) 256]
    rw [Nat.add_mul] at h3
    omega
theorem valN_snoc : ∀ (l : List Nat) (d : Nat), valN (l ++ [d]) = valN l * 256 + d
  | [], d => by
    show d * 256 ^ 0 + 0 = 0 * 256 + d
    omega
  | x :: xs, d => by
    show x * 256 ^ (xs ++ [d]).length + valN (xs ++ [d]) = (x * 256 ^ xs.length + valN xs) * 256 + d
    rw [valN_snoc xs d, List.length_append, List.length_singleton, Nat.pow_succ, Nat.add_mul, Nat.mul_assoc]
    omega
theorem valN_digs : ∀ n : Nat, valN (digs n) = n := by
  intro n
  induction n using Nat.strongRecOn with
  | _ n ih =>
    by_cases h : n = 0
    · rw [h, digs_zero]
      rfl
    · rw [digs_pos h, valN_snoc, ih (n / 256) (by omega)]
      omega
theorem lexN_val : ∀ (l m : List Nat), l.length = m.length → (∀ d ∈ l, d < 256) → (∀ d ∈ m, d < 256) → lexN l m = decide (valN l < valN m)
  | [], [], _, _, _ => rfl
  | [], _ :: _, h, _, _ => by cases h
  | _ :: _, [], h, _, _ => by cases h
  | x :: xs, y :: ys, h, h1, h2 => by
    have hl : xs.length = ys.length := Nat.succ.inj h
    have v1 := valN_lt xs fun d hd => h1 d (List.mem_cons_of_mem _ hd)
    have v2 := valN_lt ys fun d hd => h2 d (List.mem_cons_of_mem _ hd)
    rw [lexN_cons]
    show _ = decide (x * 256 ^ xs.length + valN xs < y * 256 ^ ys.length + valN ys)
    rw [← hl] at v2 ⊢
    by_cases c : x = y
    · rw [if_pos c, lexN_val xs ys hl (fun d hd => h1 d (List.mem_cons_of_mem _ hd)) (fun d hd => h2 d (List.mem_cons_of_mem _ hd)), c]
      by_cases z : valN xs < valN ys
      · rw [decide_eq_true z, decide_eq_true (by omega)]
      · rw [decide_eq_false z, decide_eq_false (by omega)]
    · rw [if_neg c]
      by_cases z : x < y
      · have : (x + 1) * 256 ^ xs.length ≤ y * 256 ^ xs.length := Nat.mul_le_mul_right _ z
        rw [Nat.add_mul] at this
        rw [decide_eq_true z, decide_eq_true (by omega)]
      · have : (y + 1) * 256 ^ xs.length ≤ x * 256 ^ xs.length := Nat.mul_le_mul_right _ (by omega)
        rw [Nat.add_mul] at this
        rw [decide_eq_false z, decide_eq_false (by omega)]
theorem digs_ge : ∀ n : Nat, n ≠ 0 → 256 ^ ((digs n).length - 1) ≤ n := by
  intro n
  induction n using Nat.strongRecOn with
  | _ n ih =>
    intro h
    rw [digs_pos h, List.length_append, List.length_singleton, Nat.add_sub_cancel]
    by_cases z : n / 256 = 0
    · rw [z, digs_zero]
      show 1 ≤ n
      omega
    · have := ih (n / 256) (by omega) z
      have h1 : 1 ≤ (digs (n / 256)).length := by
        rw [digs_pos z, List.length_append]
        exact Nat.le_add_left _ _
      have e : (digs (n / 256)).length = (digs (n / 256)).length - 1 + 1 := by omega
      rw [e, Nat.pow_succ]
      omega
theorem digs_ne {n : Nat} (h : n ≠ 0) : 1 ≤ (digs n).length := by
  rw [digs_pos h, List.length_append]
  exact Nat.le_add_left _ _
theorem digs_len_lt {m n : Nat} (hn : n ≠ 0) (h : (digs m).length < (digs n).length) : m < n := by
  have h1 := valN_lt (digs m) (digs_lt m)
  rw [valN_digs] at h1
  have h2 := digs_ge n hn
  have h3 : (256 : Nat) ^ (digs m).length ≤ 256 ^ ((digs n).length - 1) := Nat.pow_le_pow_right (by decide) (by omega)
  omega
theorem lex_code (m n : Nat) : lexN (codeN m) (codeN n) = decide (m < n) := by
  by_cases c1 : m < 192
  · rw [codeN_small c1]
    by_cases c2 : n < 192
    · rw [codeN_small c2, lexN_cons]
      by_cases e : m = n
      · rw [if_pos e, decide_eq_false (by omega)]
        rfl
      · rw [if_neg e]
    · rw [codeN_big c2, lexN_cons]
      have := digs_ne (n := n) (by omega)
      rw [if_neg (by omega), decide_eq_true (show m < 191 + (digs n).length by omega), decide_eq_true (by omega)]
  · rw [codeN_big c1]
    by_cases c2 : n < 192
    · rw [codeN_small c2, lexN_cons]
      have := digs_ne (n := m) (by omega)
      rw [if_neg (by omega), decide_eq_false (by omega), decide_eq_false (by omega)]
    · rw [codeN_big c2, lexN_cons]
      by_cases e : (digs m).length = (digs n).length
      · rw [if_pos (by omega), lexN_val _ _ e (digs_lt m) (digs_lt n), valN_digs, valN_digs]
      · rw [if_neg (by omega)]
        by_cases z : (digs m).length < (digs n).length
        · rw [decide_eq_true (by omega), decide_eq_true (digs_len_lt (by omega) z)]
        · have := digs_len_lt (m := n) (n := m) (by omega) (by omega)
          rw [decide_eq_false (by omega), decide_eq_false (by omega)]
theorem code_inj {m n : Nat} (h : codeN m = codeN n) : m = n := by
  have h1 := lex_code m n
  have h2 := lex_code n m
  rw [h, lexN_irr] at h1 h2
  have a := of_decide_eq_false h1.symm
  have b := of_decide_eq_false h2.symm
  omega
theorem code_free {m n : Nat} (h : codeN m = (codeN n).take (codeN m).length) : m = n := by
  by_cases c1 : m < 192
  · rw [codeN_small c1] at h
    by_cases c2 : n < 192
    · rw [codeN_small c2] at h
      exact List.cons.inj h |>.1
    · rw [codeN_big c2] at h
      have := (List.cons.inj h).1
      have := digs_ne (n := n) (by omega)
      omega
  · have e1 := codeN_big c1
    by_cases c2 : n < 192
    · rw [codeN_small c2, e1] at h
      have := (List.cons.inj h).1
      have := digs_ne (n := m) (by omega)
      omega
    · have e2 := codeN_big c2
      have hl : (codeN m).length = (codeN n).length := by
        rw [e1, e2] at h
        have h0 := (List.cons.inj h).1
        rw [e1, e2, List.length_cons, List.length_cons]
        omega
      rw [hl, List.take_length] at h
      exact code_inj h
theorem eqv_nums : ∀ l m : List Nat, PyData.eqvAll (l.map dN) (m.map dN) = decide (l = m)
  | [], [] => rfl
  | [], _ :: _ => rfl
  | _ :: _, [] => rfl
  | x :: xs, y :: ys => by
    show ((((x : Int) == (y : Int)) && PyData.eqvAll (xs.map dN) (ys.map dN))) = decide (x :: xs = y :: ys)
    rw [eqv_nums xs ys]
    by_cases c : x = y
    · subst c
      by_cases d : xs = ys
      · subst d
        simp
      · simp [d]
    · have : ((x : Int) == (y : Int)) = false := beq_eq_false_iff_ne.mpr (fun z => c (by omega))
      rw [this]
      simp [c]
end Sb
namespace Sb
open PySem PySem.Spec PyProof.Rows L2
theorem call_list_ofT {X : Cx} {pn : List (Addr × Obj)} {xe : Value → Shared → Prop} : CallR (X.tr pn xe) (.type "list") (fun xs H Q => ∃ p ys, xs = [.ref p] ∧ (SqL X.K H p ys ∨ SqT X.K H p ys) ∧ ∀ l, H l = none → Q (.ref l) (upd H l (.lst ys))) := call_list_of (X := X.tr pn xe)
end Sb
namespace Sb
open PySem PySem.Spec PyProof.Rows L2
/-- a statement, then the rest, by what holds between them -/
theorem seq_all {t1 t2 : TS} {D : Ends} {σ : L2.St} {H : Hp} (W : L2.St → Hp → Prop) (go : ∀ W' : L2.St → Hp → Prop, (∀ σ' H', W σ' H' → W' σ' H') → t1 { D with nx := W' } σ H) (k : ∀ σ' H', W σ' H' → t2 D σ' H') : tSeq t1 t2 D σ H := go _ k
theorem cut_take (l : List Nat) (k : Nat) : cutV (l.map vN) none (some (k : Int)) = (l.take k).map vN := by
  unfold cutV
  rw [HT.sIx_none, HT.sIx_nat, List.drop_zero, Nat.sub_zero, List.length_map, List.map_take]
  by_cases h : k ≤ l.length
  · rw [Nat.min_eq_left h]
  · rw [Nat.min_eq_right (by omega), List.take_of_length_le (by rw [List.length_map]; exact Nat.le_refl _), List.take_of_length_le (by rw [List.length_map]; omega)]
end Sb
namespace Sb
open PySem PySem.Spec PyProof.Rows L2
section
variable {X : Cx} {s : Shared} {H : Hp} {scope : Scope} {cenv : Env} {fp : List Addr}
theorem sl_listB : SlR (X.blk s H scope cenv fp) (rSlL X.K) := sl_list (X := X.blk s H scope cenv fp)
theorem ix_listB : IxR (X.blk s H scope cenv fp) (rIxL X.K) := ix_list (X := X.blk s H scope cenv fp)
theorem ix_tupB : IxR (X.blk s H scope cenv fp) (rIxT X.K) := ix_tup (X := X.blk s H scope cenv fp)
theorem call_len_seqB : CallR (X.blk s H scope cenv fp) (.builtin "len") (fun xs H Q => ∃ p ys, xs = [.ref p] ∧ (SqL X.K H p ys ∨ SqT X.K H p ys) ∧ Q (.int ys.length) H) := call_len_seq (X := X.blk s H scope cenv fp)
end
end Sb

set_option Elab.async false
set_option linter.all false
set_option maxRecDepth 100000
set_option maxHeartbeats 4000000
namespace Sb
open PySem PySem.Spec PyProof.Rows L2
def topS (i : Nat) : Stmt := PySem.Challenge.pw_shortestbytes_k05_whole_numbers_and_code.main.body.getD i (.Pass ⟨0, 0, 0, 0⟩)
section
variable {P : Program} {w : World} {K : PySem.W.Frag} {mg : Str → Option Value} {base : Heap}
def spBag (K : PySem.W.Frag) : Sp := fun vs H Q _ => ∃ (a : Addr) (ns : List Int) (i : Nat), vs = [.ref a, .int (i : Int)] ∧ SqL K H a (ns.map V.int) ∧ i ≤ 63 ∧
  ∀ p H', Same H H' → H p = none → BagAt H' p 0 → Q (.ref p) H'
abbrev s__law_bag : Stmt := topS 22
theorem sc__law_bag : FnScope ["_law_script", "_law_at", "_law_cell", "_law_digits"] ["_law_script", "_law_at"] (defScope s__law_bag) := ⟨rfl, rfl, rfl, by decide +kernel, rfl, by decide +kernel, by decide +kernel⟩
theorem ok__law_bag {f : Addr} {fd : FuncData} (F : Fun K "_law_bag" "_law_bag" s__law_bag f fd) (m_len : mg "len" = none) (m_abs : mg "abs" = none) (m_int : mg "int" = none) : Told P w K mg base CX0 1 f fd ["_law_script", "_law_at"] (spBag K) := by
  refine told F sc__law_bag (fun vs H Q E h => ?_) (fun cdv A outer s H vs Q E clr hr h => ?_)
  · obtain ⟨a, ns, i, rfl, hS, hi, k⟩ := h
    rfl
  · obtain ⟨a, ns, i, rfl, hS, hi, k⟩ := h
    refine ⟨_, (pss_cons (ps_set (i := 2) sc__law_bag.nd rfl (Or.inl rfl) (pe_ifExp (pt_cmpR op_lt (pv 1) (pe_callB call_len_seq (by rfl) m_len PySem.boot_len (pa_cons (pv 0) pa_nil)) (nomark _)) (pe_ix ix_list (pv 0) (pv 1) (fun _ _ => rfl)) pe_int))
    (pss_cons (ps_set (i := 3) sc__law_bag.nd rfl (Or.inl rfl) (pe_ifExp (pt_cmpR op_ge (pe_callB call_abs (by rfl) m_abs (by decide +kernel) (pa_cons (pv 2) pa_nil)) (pe_op op_pow pe_int pe_int) (nomark _)) (pe_callB call_abs (by rfl) m_abs (by decide +kernel) (pa_cons (pv 2) pa_nil)) pe_int))
    (pss_one (ps_ret (pe_lst (pa_cons (pv 3) (pa_cons (pe_op op_add (pe_op op_add (pe_op op_mod (pe_callTy call_int1 (by rfl) m_int (by decide +kernel) (pa_cons (pv 2) pa_nil)) pe_int) (pe_op op_mul pe_int (pv 1))) pe_int) (pa_cons pe_int pa_nil)))))))), ?_⟩
    refine if_val (fun v => ∃ c : Int, v = .int c) (fun Q' q' => ?_) ?_
    · refine ⟨_, rfl, _, rfl, a, _, rfl, .inl hS, _, _, rfl, rfl, _, rfl, ite2 (fun e => ?_) (fun _ => q' _ ⟨_, rfl⟩)⟩
      have hl : i < ns.length := by
        have := of_decide_eq_true e
        rw [List.length_map] at this
        omega
      refine ⟨_, rfl, _, rfl, a, _, _, .int ns[i], rfl, rfl, hS, atI_nat ?_, q' _ ⟨_, rfl⟩⟩
      rw [List.getElem?_map, List.getElem?_eq_getElem hl]
      rfl
    · rintro _ ⟨c, rfl⟩
      unfold gName
      dsimp only
      refine if_val (fun v => ∃ d : Int, v = .int d ∧ 0 ≤ d) (fun Q' q' => ?_) ?_
      · refine ⟨_, rfl, _, rfl, _, _, rfl, rfl, ⟨by decide, by decide, by decide⟩, _, _, rfl, rfl, _, rfl, ite2 (fun _ => ?_) (fun _ => q' _ ⟨_, rfl, Int.le_refl _⟩)⟩
        refine ⟨_, rfl, _, rfl, q' _ ⟨_, rfl, ?_⟩⟩
        split <;> omega
      · rintro _ ⟨d, rfl, hd⟩
        refine ⟨_, rfl, _, rfl, .inl ⟨_, rfl, _, _, rfl, rfl, (show (0 : Int) < 2147483629 by decide), _, rfl, _, _, rfl, rfl, .inl ⟨by decide, by decide⟩, _, _, rfl, rfl, _, _, rfl, rfl, sz (show 3 ≤ 1000000 by decide), fun p np => ?_⟩⟩
        refine k p _ (same_new np) np ⟨_, _, _, upd_same, hd, ?_, ?_, Int.le_refl _, Int.le_refl _⟩ <;> omega

def spTake : Sp := fun vs H Q _ => ∃ (p : Addr) (m n : Nat), vs = [.ref p, .int (m : Int)] ∧ BagAt H p n ∧ n ≤ 100000 ∧ 0 < m ∧ m < 1073741824 ∧
  ∀ (r : Nat) H', r < m → But p H H' → BagAt H' p (n + 1) → Q (.int (r : Int)) H'
abbrev s__law_take : Stmt := topS 23
theorem sc__law_take : FnScope ["_law_bag_here", "_law_many", "_law_digit", "_law_place", "_law_mixed"] ["_law_bag_here", "_law_many"] (defScope s__law_take) := ⟨rfl, rfl, rfl, by decide +kernel, rfl, by decide +kernel, by decide +kernel⟩
theorem ok__law_take {f : Addr} {fd : FuncData} (F : Fun K "_law_take" "_law_take" s__law_take f fd) (m_int : mg "int" = none) : Told P w K mg base CX0 1 f fd ["_law_bag_here", "_law_many"] spTake := by
  refine told F sc__law_take (fun vs H Q E h => ?_) (fun cdv A outer s H vs Q E clr hr h => ?_)
  · obtain ⟨p, m, n, rfl, hB, hn, hm0, hm1, k⟩ := h
    rfl
  · obtain ⟨p, m, n, rfl, hB, hn, hm0, hm1, k⟩ := h
    refine ⟨_, (pss_cons (ps_if (pt_cmpR op_gt (pe_ix ix_list (pv 0) pe_int (fun _ _ => rfl)) pe_int (nomark _))
    (pss_cons (ps_set (i := 2) sc__law_take.nd rfl (Or.inl rfl) (pe_op op_mod (pe_callTy call_int1 (by rfl) m_int (by decide +kernel) (pa_cons (pe_ix ix_list (pv 0) pe_int (fun _ _ => rfl)) pa_nil)) (pv 1)))
    (pss_cons (ps_asg (pe_op op_fdiv (pe_ix ix_list (pv 0) pe_int (fun _ _ => rfl)) (pv 1)) (pg_sub (pv 0) pe_int set_list))
    (pss_one (ps_ret (pv 2)))))
    pss_nil)
    (pss_cons (ps_asg (pe_op op_add (pe_ix ix_list (pv 0) pe_int (fun _ _ => rfl)) pe_int) (pg_sub (pv 0) pe_int set_list))
    (pss_cons (ps_set (i := 3) sc__law_take.nd rfl (Or.inl rfl) (pe_op op_add (pe_ix ix_list (pv 0) pe_int (fun _ _ => rfl)) (pe_op op_mul pe_int (pe_ix ix_list (pv 0) pe_int (fun _ _ => rfl)))))
    (pss_cons (ps_set (i := 4) sc__law_take.nd rfl (Or.inl rfl) (pe_op op_mod (pe_callTy call_int1 (by rfl) m_int (by decide +kernel) (pa_cons (pe_op op_add (pe_op op_pow (pv 3) pe_int) (pe_op op_mul pe_int (pe_ix ix_list (pv 0) pe_int (fun _ _ => rfl)))) pa_nil)) pe_int))
    (pss_cons (ps_set (i := 4) sc__law_take.nd rfl (Or.inl rfl) (pe_op op_mod (pe_callTy call_int1 (by rfl) m_int (by decide +kernel) (pa_cons (pe_op op_add (pe_op op_add (pe_op op_mul (pv 4) (pv 4)) (pe_op op_mul pe_int (pe_ix ix_list (pv 0) pe_int (fun _ _ => rfl)))) pe_int) pa_nil)) pe_int))
    (pss_one (ps_ret (pe_op op_mod (pe_callTy call_int1 (by rfl) m_int (by decide +kernel) (pa_cons (pe_op op_fdiv (pv 4) pe_int) pa_nil)) (pv 1))))))))), ?_⟩
    obtain ⟨d, s, c, hp, hd, hs, hs2, hc, hcn⟩ := hB
    have k' : ∀ (r : Int) H', 0 ≤ r → r < m → But p H H' → BagAt H' p (n + 1) → Q (.int r) H' := by
      intro r H' h0 h1 hb hB
      obtain ⟨j, rfl⟩ := Int.eq_ofNat_of_zero_le h0
      exact k j H' (by omega) hb hB
    have hm : (0 : Int) < m := by omega
    have at0 : ∀ x y z : V, atI [x, y, z] 0 = some x := fun _ _ _ => rfl
    have at1 : ∀ x y z : V, atI [x, y, z] 1 = some y := fun _ _ _ => rfl
    have at2 : ∀ x y z : V, atI [x, y, z] 2 = some z := fun _ _ _ => rfl
    refine ⟨_, rfl, p, _, _, _, rfl, rfl, seq_of hp, at0 _ _ _, _, _, rfl, rfl, _, rfl, ite2 (fun _ => ?_) (fun _ => ?_)⟩
    · refine ⟨_, rfl, p, _, _, _, rfl, rfl, seq_of hp, at0 _ _ _, .inl ⟨_, rfl, _, rfl, _, _, rfl, rfl, hm, ?_⟩⟩
      refine ⟨_, rfl, p, _, _, _, rfl, rfl, seq_of hp, at0 _ _ _, _, rfl, _, _, rfl, rfl, ⟨hm, by omega⟩, _, rfl, p, _, _, _, rfl, rfl, hp, rfl, _, rfl, ?_⟩
      refine k' _ _ (Int.emod_nonneg _ (by omega)) (Int.emod_lt_of_pos _ hm) But.put ⟨_, _, _, upd_same, Int.ediv_nonneg hd (by omega), hs, hs2, hc, by omega⟩
    · refine ⟨_, rfl, p, _, _, _, rfl, rfl, seq_of hp, at2 _ _ _, _, _, rfl, rfl, _, rfl, p, _, _, _, rfl, rfl, hp, rfl, ?_⟩
      have hp' : (upd H p (.lst [.int d, .int s, .int (c + 1)])) p = some (.lst [.int d, .int s, .int (c + 1)]) := upd_same
      refine ⟨_, rfl, p, _, _, _, rfl, rfl, seq_of hp', at1 _ _ _, _, rfl, p, _, _, _, rfl, rfl, seq_of hp', at2 _ _ _, _, _, rfl, rfl, .inl ⟨by decide, by decide⟩, _, _, rfl, rfl, ?_⟩
      have hpl : (s + 15485863 * (c + 1)).natAbs < 2 ^ 64 := by omega
      refine ⟨_, rfl, _, _, rfl, rfl, ⟨by decide, by decide, hpl⟩, _, rfl, p, _, _, _, rfl, rfl, seq_of hp', at2 _ _ _, _, _, rfl, rfl, .inl ⟨by decide, by decide⟩, _, _, rfl, rfl, .inl ⟨_, rfl, _, _, rfl, rfl, (show (0 : Int) < 2305843009213693951 by decide), ?_⟩⟩
      generalize (s + 15485863 * (c + 1)) ^ (3 : Int).toNat + 104729 * (c + 1) = y
      refine ⟨_, rfl, _, rfl, _, _, rfl, rfl, .inl ⟨by omega, by omega⟩, _, rfl, p, _, _, _, rfl, rfl, seq_of hp', at1 _ _ _, _, _, rfl, rfl, .inl ⟨by decide, by decide⟩, _, _, rfl, rfl, _, _, rfl, rfl, .inl ⟨_, rfl, _, _, rfl, rfl, (show (0 : Int) < 2305843009213693921 by decide), ?_⟩⟩
      refine ⟨_, rfl, _, _, rfl, rfl, ⟨by decide, by decide⟩, .inl ⟨_, rfl, _, rfl, _, _, rfl, rfl, hm, ?_⟩⟩
      exact k' _ _ (Int.emod_nonneg _ (by omega)) (Int.emod_lt_of_pos _ hm) But.put ⟨d, s, c + 1, hp', hd, hs, hs2, by omega, by omega⟩

def spOf (K : PySem.W.Frag) : Sp := fun vs H Q _ => ∃ (p l : Addr) (n : Nat) (xs : List V), vs = [.ref p, .ref l] ∧ BagAt H p n ∧ n ≤ 100000 ∧ SqL K H l xs ∧ l ≠ p ∧ 0 < xs.length ∧ xs.length ≤ 1000000 ∧
  ∀ (j : Nat) (v : V) H', xs[j]? = some v → But p H H' → BagAt H' p (n + 1) → Q v H'
abbrev s__law_of : Stmt := topS 24
theorem sc__law_of : FnScope ["_law_bag_here", "_law_some"] ["_law_bag_here", "_law_some"] (defScope s__law_of) := ⟨rfl, rfl, rfl, by decide +kernel, rfl, by decide +kernel, by decide +kernel⟩
theorem ok__law_of {f : Addr} {fd : FuncData} (F : Fun K "_law_of" "_law_of" s__law_of f fd) (m_len : mg "len" = none) {f__law_take : Addr} {fd__law_take : FuncData} (G__law_take : Told P w K mg base CX0 1 f__law_take fd__law_take ["_law_bag_here", "_law_many"] spTake) (b__law_take : Binds K fd__law_take ["_law_bag_here", "_law_many"] []) (g__law_take : mg "_law_take" = some (.ref f__law_take)) (k__law_take : PySem.W.keepIn K (.ref f__law_take) = true) : Told P w K mg base CX0 2 f fd ["_law_bag_here", "_law_some"] (spOf K) := by
  refine told F sc__law_of (fun vs H Q E h => ?_) (fun cdv A outer s H vs Q E clr hr h => ?_)
  · obtain ⟨p, l, n, xs, rfl, hB, hn, hS, hne, h0, h1, k⟩ := h
    rfl
  · obtain ⟨p, l, n, xs, rfl, hB, hn, hS, hne, h0, h1, k⟩ := h
    refine ⟨_, (pss_one (ps_ret (pe_ix ix_list (pv 1) (pe_told G__law_take clr (hr.mono (by decide)) (by rfl) g__law_take k__law_take b__law_take .nil pass0 (pa_cons (pv 0) (pa_cons (pe_callB call_len_seq (by rfl) m_len PySem.boot_len (pa_cons (pv 1) pa_nil)) pa_nil))) (fun _ _ => rfl)))), ?_⟩
    refine ⟨_, rfl, _, rfl, _, rfl, l, xs, rfl, .inl hS, p, xs.length, n, rfl, hB, hn, h0, by omega, fun r H' hr hb hB' => ?_⟩
    exact ⟨l, xs, _, xs[r], rfl, rfl, hb.seq hne hS, atI_nat (List.getElem?_eq_getElem hr), k r _ _ (List.getElem?_eq_getElem hr) hb hB'⟩

def spNumber : Sp := fun vs H Q _ => ∃ (p : Addr) (n : Nat), vs = [.ref p] ∧ BagAt H p n ∧ n ≤ 50000 ∧ ∀ (N : Nat) H', N < 256 ^ 63 → But p H H' → BagAt H' p (n + 70) → Q (.int (N : Int)) H'
theorem bag_ne {H : Hp} {p l : Addr} {n : Nat} (b : BagAt H p n) (h : H l = none) : l ≠ p := fun e => by
  obtain ⟨d, s, k, hp, _⟩ := b
  rw [e, hp] at h
  cases h
abbrev s__law_number : Stmt := topS 25
theorem sc__law_number : FnScope ["_law_bag_here", "_law_road", "_law_number_here", "_law_turn"] ["_law_bag_here"] (defScope s__law_number) := ⟨rfl, rfl, rfl, by decide +kernel, rfl, by decide +kernel, by decide +kernel⟩
theorem ok__law_number {f : Addr} {fd : FuncData} (F : Fun K "_law_number" "_law_number" s__law_number f fd) (m_range : mg "range" = none) {f__law_take : Addr} {fd__law_take : FuncData} (G__law_take : Told P w K mg base CX0 1 f__law_take fd__law_take ["_law_bag_here", "_law_many"] spTake) (b__law_take : Binds K fd__law_take ["_law_bag_here", "_law_many"] []) (g__law_take : mg "_law_take" = some (.ref f__law_take)) (k__law_take : PySem.W.keepIn K (.ref f__law_take) = true) {f__law_of : Addr} {fd__law_of : FuncData} (G__law_of : Told P w K mg base CX0 2 f__law_of fd__law_of ["_law_bag_here", "_law_some"] (spOf K)) (b__law_of : Binds K fd__law_of ["_law_bag_here", "_law_some"] []) (g__law_of : mg "_law_of" = some (.ref f__law_of)) (k__law_of : PySem.W.keepIn K (.ref f__law_of) = true) : Told P w K mg base CX0 3 f fd ["_law_bag_here"] spNumber := by
  refine told F sc__law_number (fun vs H Q E h => ?_) (fun cdv A outer s H vs Q E clr hr h => ?_)
  · obtain ⟨p, n, rfl, hB, hn, k⟩ := h
    rfl
  · obtain ⟨p, n, rfl, hB, hn, k⟩ := h
    refine ⟨_, (pss_cons (ps_set (i := 1) sc__law_number.nd rfl (Or.inl rfl) (pe_told G__law_take clr (hr.mono (by decide)) (by rfl) g__law_take k__law_take b__law_take .nil pass0 (pa_cons (pv 0) (pa_cons pe_int pa_nil))))
    (pss_cons (ps_if (pt_cmpR op_eq (pv 1) pe_int (nomark _))
    (pss_one (ps_ret (pe_told G__law_of clr (hr.mono (by decide)) (by rfl) g__law_of k__law_of b__law_of .nil pass0 (pa_cons (pv 0) (pa_cons (pe_lst (pa_cons pe_int (pa_cons pe_int (pa_cons pe_int (pa_cons pe_int (pa_cons pe_int (pa_cons pe_int (pa_cons pe_int (pa_cons pe_int (pa_cons pe_int (pa_cons pe_int (pa_cons pe_int (pa_cons (pe_op op_pow pe_int pe_int) (pa_cons (pe_op op_sub (pe_op op_pow pe_int pe_int) pe_int) pa_nil)))))))))))))) pa_nil)))))
    pss_nil)
    (pss_cons (ps_if (pt_cmpR op_eq (pv 1) pe_int (nomark _))
    (pss_one (ps_ret (pe_told G__law_take clr (hr.mono (by decide)) (by rfl) g__law_take k__law_take b__law_take .nil pass0 (pa_cons (pv 0) (pa_cons pe_int pa_nil)))))
    pss_nil)
    (pss_cons (ps_set (i := 2) sc__law_number.nd rfl (Or.inl rfl) pe_int)
    (pss_cons (ps_for PassesOwn.never rfl (pi_range1 (by rfl) m_range (pa_cons (pe_op op_add pe_int (pe_told G__law_take clr (hr.mono (by decide)) (by rfl) g__law_take k__law_take b__law_take .nil pass0 (pa_cons (pv 0) (pa_cons (pe_ix ix_list (pe_lst (pa_cons pe_int (pa_cons pe_int pa_nil))) (pe_op op_sub (pv 1) pe_int) (fun _ _ => rfl)) pa_nil)))) pa_nil)) (pg_name (i := 3) sc__law_number.nd rfl (Or.inl rfl))
    (pss_one (ps_set (i := 2) sc__law_number.nd rfl (Or.inl rfl) (pe_op op_add (pe_op op_mul (pv 2) pe_int) (pe_told G__law_take clr (hr.mono (by decide)) (by rfl) g__law_take k__law_take b__law_take .nil pass0 (pa_cons (pv 0) (pa_cons pe_int pa_nil)))))))
    (pss_one (ps_ret (pv 2)))))))), ?_⟩
    refine ⟨_, rfl, p, 4, n, rfl, hB, by omega, by decide, by decide, fun r H1 hr b1 B1 => ?_⟩
    refine ⟨_, rfl, rfl, _, rfl, ite2 (fun e => ?_) (fun e0 => ?_)⟩
    · refine ⟨_, rfl, _, _, rfl, rfl, ⟨by decide, by decide, by decide⟩, _, _, rfl, rfl, ⟨by decide, by decide, by decide⟩, _, _, rfl, rfl, sz (show 13 ≤ 1000000 by decide), fun l hl => ?_⟩
      refine ⟨p, l, n + 1, _, rfl, B1.same (same_new hl), by omega, seq_new, bag_ne B1 hl, by decide, by decide, fun j v H2 hv b2 B2 => ?_⟩
      have all : ∀ x ∈ ([.int 0, .int 1, .int 190, .int 191, .int 192, .int 193, .int 255, .int 256, .int 257, .int 65535, .int 65536, .int (256 ^ (62 : Int).toNat), .int (256 ^ (63 : Int).toNat - 1)] : List V), ∃ N : Nat, x = .int (N : Int) ∧ N < 256 ^ 63 := by
        intro x hx
        simp only [List.mem_cons, List.not_mem_nil, or_false] at hx
        rcases hx with rfl | rfl | rfl | rfl | rfl | rfl | rfl | rfl | rfl | rfl | rfl | rfl | rfl
        · exact ⟨0, rfl, by decide⟩
        · exact ⟨1, rfl, by decide⟩
        · exact ⟨190, rfl, by decide⟩
        · exact ⟨191, rfl, by decide⟩
        · exact ⟨192, rfl, by decide⟩
        · exact ⟨193, rfl, by decide⟩
        · exact ⟨255, rfl, by decide⟩
        · exact ⟨256, rfl, by decide⟩
        · exact ⟨257, rfl, by decide⟩
        · exact ⟨65535, rfl, by decide⟩
        · exact ⟨65536, rfl, by decide⟩
        · exact ⟨256 ^ 62, by decide +kernel, by decide +kernel⟩
        · exact ⟨256 ^ 63 - 1, by decide +kernel, by decide +kernel⟩
      obtain ⟨N, rfl, hN⟩ := all v (List.mem_of_getElem? hv)
      exact k N H2 hN ((b1.same (same_new hl)).trans b2) (B2.mono (by omega))
    · refine ⟨_, rfl, rfl, _, rfl, ite2 (fun e => ?_) (fun e1 => ?_)⟩
      · refine ⟨_, rfl, p, 400, n + 1, rfl, B1, by omega, by decide, by decide, fun r2 H2 hr2 b2 B2 => ?_⟩
        exact k r2 H2 (Nat.lt_trans hr2 (by decide +kernel)) (b1.trans b2) (B2.mono (by omega))
      · have hr0 : r ≠ 0 := fun z => e0 (decide_eq_true (by rw [z]; rfl))
        have hr1 : r ≠ 1 := fun z => e1 (decide_eq_true (by rw [z]; rfl))
        have at2 : ∃ m : Nat, atI [V.int 3, V.int 63] ((r : Int) - 2) = some (.int (m : Int)) ∧ 0 < m ∧ m ≤ 63 := by
          have : r = 2 ∨ r = 3 := by omega
          rcases this with rfl | rfl
          · exact ⟨3, rfl, by decide, by decide⟩
          · exact ⟨63, rfl, by decide, by decide⟩
        obtain ⟨m, hat, hm0, hm1⟩ := at2
        refine ⟨_, rfl, sz (show 2 ≤ 1000000 by decide), fun l hl => ?_⟩
        refine ⟨_, rfl, _, _, rfl, rfl, l, _, _, _, rfl, rfl, seq_new, hat, p, m, n + 1, rfl, B1.same (same_new hl), by omega, hm0, by omega, fun t H2 ht b2 B2 => ?_⟩
        have b12 := (b1.same (same_new hl)).trans b2
        refine ⟨_, _, rfl, rfl, _, rfl, by omega, by omega, ?_⟩
        have en : ((1 : Int) + (t : Int)).toNat = t + 1 := by omega
        rw [en]
        refine for_range (lo := 0) (n := t + 1) (fun i σ H' => ∃ (z : Nat) (v : Option V), σ = [some (.ref p), some (.int (r : Int)), some (.int (z : Int)), v] ∧ z < 256 ^ i ∧ But p H H' ∧ BagAt H' p (n + 2 + i)) ⟨0, _, rfl, by decide, b12, B2⟩ ?_ ?_
        · rintro i σ H' hi ⟨z, v, rfl, hz, b3, B3⟩
          refine ⟨_, rfl, _, _, rfl, rfl, .inr ⟨by decide, by decide⟩, _, rfl, p, 256, n + 2 + i, rfl, B3, by omega, by decide, by decide, fun r3 H3 hr3 b4 B4 => ?_⟩
          refine ⟨_, _, rfl, rfl, z * 256 + r3, some (.int (0 + (i : Int))), ?_, ?_, b3.trans b4, B4⟩
          · rw [Int.natCast_add, Int.natCast_mul]
            rfl
          · rw [Nat.pow_succ]
            omega
        · rintro σ H' ⟨z, v, rfl, hz, b3, B3⟩
          refine ⟨_, rfl, k z H' (Nat.lt_of_lt_of_le hz (Nat.pow_le_pow_right (by decide) (by omega))) b3 (B3.mono (by omega))⟩

def spCode : Sp := fun vs H Q _ => ∃ (N : Nat), vs = [.int (N : Int)] ∧ N < 256 ^ 63 ∧ ∀ q H', Same H H' → H q = none → H' q = some (.lst ((codeN N).map vN)) → Q (.ref q) H'
def muNum (σ : L2.St) (_ : Hp) : Nat := match σ with
  | some (.int z) :: _ => z.toNat
  | _ => 0
/-- is_int: an int; a bool; a thing of another type -/
def spIsInt (K : PySem.W.Frag) : Sp := fun vs H Q _ => ∃ x : V, vs = [x] ∧ ((∃ i, x = .int i ∧ Q (.bl true) H) ∨ (∃ b, x = .bl b ∧ Q (.bl false) H) ∨ (∃ t : String, TyX K H x (.type t) ∧ kitB t "int" = some false ∧ Q (.bl false) H))
abbrev s_is_int : Stmt := topS 10
theorem sc_is_int : FnScope ["thing"] ["thing"] (defScope s_is_int) := ⟨rfl, rfl, rfl, by decide +kernel, rfl, by decide +kernel, by decide +kernel⟩
theorem ok_is_int {f : Addr} {fd : FuncData} (F : Fun K "is_int" "is_int" s_is_int f fd) (m_isinstance : mg "isinstance" = none) (m_bool : mg "bool" = none) (m_int : mg "int" = none) : Told P w K mg base CX0 1 f fd ["thing"] (spIsInt K) := by
  refine told F sc_is_int (fun vs H Q E h => ?_) (fun cdv A outer s H vs Q E clr hr h => ?_)
  · obtain ⟨x, rfl, h⟩ := h
    rfl
  · obtain ⟨x, rfl, h⟩ := h
    refine ⟨_, (pss_one (ps_ret (pe_and (pe_callB call_isi (by rfl) m_isinstance (by decide +kernel) (pa_cons (pv 0) (pa_cons (pe_bltn (by rfl) m_int (by decide +kernel) (show RelV (.ty "int") (.type "int") from rfl)) pa_nil))) (pe_one (pe_not (pe_callB call_isi (by rfl) m_isinstance (by decide +kernel) (pa_cons (pv 0) (pa_cons (pe_bltn (by rfl) m_bool (by decide +kernel) (show RelV (.ty "bool") (.type "bool") from rfl)) pa_nil)))))))), ?_⟩
    rcases h with ⟨i, rfl, q⟩ | ⟨b, rfl, q⟩ | ⟨t, ty, kt, q⟩
    · refine ⟨_, rfl, _, _, _, _, _, rfl, .ty "int", .base (.int i), kit_ty (by decide +kernel), _, rfl, iteT ?_⟩
      refine ⟨_, rfl, _, _, _, _, _, rfl, .ty "bool", .base (.int i), kit_ty (b := "bool") (r := false) (by decide +kernel), _, rfl, q⟩
    · refine ⟨_, rfl, _, _, _, _, _, rfl, .ty "int", .base (.bl b), kit_ty (by decide +kernel), _, rfl, iteT ?_⟩
      refine ⟨_, rfl, _, _, _, _, _, rfl, .ty "bool", .base (.bl b), kit_ty (b := "bool") (r := true) (by decide +kernel), _, rfl, q⟩
    · exact ⟨_, rfl, _, _, _, _, _, rfl, .ty "int", ty, kit_ty kt, _, rfl, iteF q⟩

def spIsNumber (K : PySem.W.Frag) : Sp := fun vs H Q _ => ∃ x : V, vs = [x] ∧ ((∃ i : Int, x = .int i ∧ Q (.bl (decide (0 ≤ i ∧ i < 256 ^ 63))) H) ∨ (∃ b, x = .bl b ∧ Q (.bl false) H) ∨ (∃ t : String, TyX K H x (.type t) ∧ kitB t "int" = some false ∧ Q (.bl false) H))
abbrev s_is_number : Stmt := topS 12
theorem sc_is_number : FnScope ["thing"] ["thing"] (defScope s_is_number) := ⟨rfl, rfl, rfl, by decide +kernel, rfl, by decide +kernel, by decide +kernel⟩
theorem ok_is_number {f : Addr} {fd : FuncData} (F : Fun K "is_number" "is_number" s_is_number f fd) {t_MOST : Tok} (g_MOST : mg "MOST" = some (.int (52374249726338269920211035149241586435466272736689036631732661889538140742474792878132321477214466514414186946040961136147476104734166288853256441430015) t_MOST)) {f_is_int : Addr} {fd_is_int : FuncData} (G_is_int : Told P w K mg base CX0 1 f_is_int fd_is_int ["thing"] (spIsInt K)) (b_is_int : Binds K fd_is_int ["thing"] []) (g_is_int : mg "is_int" = some (.ref f_is_int)) (k_is_int : PySem.W.keepIn K (.ref f_is_int) = true) : Told P w K mg base CX0 2 f fd ["thing"] (spIsNumber K) := by
  refine told F sc_is_number (fun vs H Q E h => ?_) (fun cdv A outer s H vs Q E clr hr h => ?_)
  · obtain ⟨x, rfl, h⟩ := h
    rfl
  · obtain ⟨x, rfl, h⟩ := h
    refine ⟨_, (pss_one (ps_ret (pe_and (pe_told G_is_int clr (hr.mono (by decide)) (by rfl) g_is_int k_is_int b_is_int .nil pass0 (pa_cons (pv 0) pa_nil)) (pe_one (pe_chain op_le op_le pe_int (pv 0) (pe_glob (v := .int (52374249726338269920211035149241586435466272736689036631732661889538140742474792878132321477214466514414186946040961136147476104734166288853256441430015)) (by rfl) g_MOST ⟨_, rfl⟩)))))), ?_⟩
    rcases h with ⟨i, rfl, q⟩ | ⟨b, rfl, q⟩ | ⟨t, ty, kt, q⟩
    · refine ⟨_, rfl, _, rfl, .inl ⟨i, rfl, _, rfl, iteT ?_⟩⟩
      refine ⟨_, rfl, _, _, rfl, rfl, _, rfl, ite2 (fun e => ?_) (fun e => ?_)⟩
      · have h0 : 0 ≤ i := of_decide_eq_true e
        have most : (256 : Int) ^ 63 = 52374249726338269920211035149241586435466272736689036631732661889538140742474792878132321477214466514414186946040961136147476104734166288853256441430016 := by decide +kernel
        rw [most] at q
        refine ⟨_, _, rfl, rfl, ?_⟩
        by_cases c : i < 52374249726338269920211035149241586435466272736689036631732661889538140742474792878132321477214466514414186946040961136147476104734166288853256441430016
        · rw [decide_eq_true ⟨h0, c⟩] at q
          dsimp only
          rw [decide_eq_true (by omega)]
          exact q
        · rw [decide_eq_false (fun z => c z.2)] at q
          dsimp only
          rw [decide_eq_false (by omega)]
          exact q
      · rw [decide_eq_false (fun z : 0 ≤ i ∧ i < 256 ^ 63 => e (decide_eq_true z.1))] at q
        exact q
    · exact ⟨_, rfl, _, rfl, .inr (.inl ⟨b, rfl, _, rfl, iteF q⟩)⟩
    · exact ⟨_, rfl, _, rfl, .inr (.inr ⟨t, ty, kt, _, rfl, iteF q⟩)⟩

def spDigs : Sp := fun vs H Q _ => ∃ (N : Nat), vs = [.int (N : Int)] ∧ N < 256 ^ 63 ∧ ∀ q H', Same H H' → H q = none → H' q = some (.lst ((digs N).map vN)) → Q (.ref q) H'
theorem shr_and (N k : Nat) : ((N : Int) / 2 ^ ((8 : Int) * (k : Int)).toNat) % 2 ^ 8 = ((N / 256 ^ k % 256 : Nat) : Int) := by
  have e : ((8 : Int) * (k : Int)).toNat = 8 * k := by omega
  rw [e, Nat.pow_mul (a := 2) (m := 8) (n := k) |> fun z => (by exact_mod_cast congrArg (Nat.cast : Nat → Int) z : (2 : Int) ^ (8 * k) = (2 ^ 8 : Nat) ^ k)]
  simp
abbrev s_base_256 : Stmt := topS 13
theorem sc_base_256 : FnScope ["number", "many", "place"] ["number"] (defScope s_base_256) := ⟨rfl, rfl, rfl, by decide +kernel, rfl, by decide +kernel, by decide +kernel⟩
theorem ok_base_256 {f : Addr} {fd : FuncData} (F : Fun K "base_256" "base_256" s_base_256 f fd) (m_range : mg "range" = none) : Told P w K mg base CX0 1 f fd ["number"] spDigs := by
  refine told F sc_base_256 (fun vs H Q E h => ?_) (fun cdv A outer s H vs Q E clr hr h => ?_)
  · obtain ⟨N, rfl, hN, k⟩ := h
    rfl
  · obtain ⟨N, rfl, hN, k⟩ := h
    refine ⟨_, (pss_cons (ps_set (i := 1) sc_base_256.nd rfl (Or.inl rfl) (pe_op op_fdiv (pe_op op_add (pe_bits (pv 0)) pe_int) pe_int))
    (pss_one (ps_ret (pe_lc (own := [("place", 2)]) (g := gName 2) (tt := tYes) rfl sc_base_256.nd (pi_range3 (by rfl) m_range (pa_cons (pe_op op_sub (pv 1) pe_int) (pa_cons (pe_un un_neg pe_int) (pa_cons (pe_un un_neg pe_int) pa_nil)))) (blkOk_by (N := ["number", "many", "place"]) (sc := defScope s_base_256) (by decide +kernel)) (fun _ _ _ _ _ => pg_name (i := 2) sc_base_256.nd rfl (Or.inl rfl)) (fun _ _ _ _ _ => pts_nil) (fun _ _ _ _ _ => (pe_op op_andM (pe_op op_shr (pv 0) (pe_op op_mul pe_int (pv 2))) pe_int)))))), ?_⟩
    refine ⟨_, rfl, _, rfl, _, _, rfl, rfl, _, _, rfl, rfl, ⟨by decide, by decide⟩, ?_⟩
    have hm : ((Builtin.Int.intBits (N : Int) : Nat) + 7 : Int) / 8 = ((digs N).length : Int) := by
      rw [digs_len N]
      omega
    have h63 := digs_len_le 63 N hN
    generalize hL : (digs N).length = L at hm h63
    refine ⟨_, rfl, _, _, rfl, rfl, _, rfl, _, rfl, _, _, _, _, rfl, RgC.neg ?_ ?_ (by decide) (by decide), fun D hD => ?_⟩
    · rw [hm]
      omega
    · rw [hm]
      omega
    have turns : ((Builtin.Int.intBits (N : Int) + 7 : Int) / 8 - 1 - -1).toNat = L := by
      rw [hm]
      omega
    show ∃ W : Nat → Nat → Hp → Prop, _
    rw [turns]
    refine lc_it walk_rangeC (fun i H' => Same H H' ∧ H' D = some (.lst (((digs N).take i).map vN))) ⟨same_new hD, upd_same⟩ (fun _ _ _ _ => trivial) ?_ ?_
    · rintro i x H' _ hi ⟨sm, hd⟩ ⟨rfl, rfl⟩
      have ep : (Builtin.Int.intBits (N : Int) + 7 : Int) / 8 - 1 + (i : Int) * -1 = ((L - 1 - i : Nat) : Int) := by
        rw [hm]
        omega
      refine ⟨rfl, _, rfl, _, rfl, _, _, rfl, rfl, .inl ⟨by decide, by decide⟩, _, _, rfl, rfl, ?_, _, 8, rfl, rfl, _, hd, ?_, ?_, ?_⟩
      · rw [ep]
        omega
      · rw [List.length_map, List.length_take]
        exact sz_lt (by omega)
      · exact fun b o z => by
          have hne : b ≠ D := ne_of_none z hD
          rw [upd_ne hne]
          exact sm b o z
      · rw [upd_same, ep]
        have g := digs_at N i (by omega)
        rw [hL] at g
        rw [List.take_add_one, g, List.map_append]
        show some (HO.lst (_ ++ [V.int _])) = _
        rw [shr_and]
        rfl
    · rintro H' ⟨sm, hd⟩
      refine k D H' sm hD ?_
      rw [hd, List.take_of_length_le (by omega)]

abbrev sI_BadNumber : Stmt := inClass (topS 2) 0
theorem okI_BadNumber {f : Addr} {fd : FuncData} (F : Fun K "__init__" "BadNumber.__init__" sI_BadNumber f fd) : FnOk P w K mg base CX0 1 f fd ["self", "number"] (spInit K "number") :=
  ok_initBy F ⟨rfl, rfl, rfl, by decide +kernel, rfl, by decide +kernel, by decide +kernel⟩ fun _ _ _ _ _ _ => pss_one (ps_ost (pv 0) (pv 1))
abbrev sI_WrongByte : Stmt := inClass (topS 3) 0
theorem okI_WrongByte {f : Addr} {fd : FuncData} (F : Fun K "__init__" "WrongByte.__init__" sI_WrongByte f fd) : FnOk P w K mg base CX0 1 f fd ["self", "at"] (spInit K "at") :=
  ok_initBy F ⟨rfl, rfl, rfl, by decide +kernel, rfl, by decide +kernel, by decide +kernel⟩ fun _ _ _ _ _ _ => pss_one (ps_ost (pv 0) (pv 1))
abbrev sI_Unfinished : Stmt := inClass (topS 4) 0
theorem okI_Unfinished {f : Addr} {fd : FuncData} (F : Fun K "__init__" "Unfinished.__init__" sI_Unfinished f fd) : FnOk P w K mg base CX0 1 f fd ["self", "at"] (spInit K "at") :=
  ok_initBy F ⟨rfl, rfl, rfl, by decide +kernel, rfl, by decide +kernel, by decide +kernel⟩ fun _ _ _ _ _ _ => pss_one (ps_ost (pv 0) (pv 1))
def NoNum (K : PySem.W.Frag) (H : Hp) (x : V) : Prop := (∃ i : Int, x = .int i ∧ ¬ (0 ≤ i ∧ i < 256 ^ 63)) ∨ (∃ b, x = .bl b) ∨ (∃ t : String, TyX K H x (.type t) ∧ kitB t "int" = some false)
def spNumCode (K : PySem.W.Frag) (C : Addr) : Sp := fun vs H Q E => ∃ x : V, vs = [x] ∧ ((∃ N : Nat, x = .int (N : Int) ∧ N < 256 ^ 63 ∧ ∀ q H', Same H H' → H q = none → H' q = some (.lst ((codeN N).map vN)) → Q (.ref q) H') ∨
  (NoNum K H x ∧ ∀ d H', H d = none → Same H H' → H' d = some (.xd [("number", x)]) → E (.ref C) (some d) H'))
abbrev s_number_code : Stmt := topS 14
theorem sc_number_code : FnScope ["number", "digits"] ["number"] (defScope s_number_code) := ⟨rfl, rfl, rfl, by decide +kernel, rfl, by decide +kernel, by decide +kernel⟩
theorem ok_number_code {f : Addr} {fd : FuncData} (F : Fun K "number_code" "number_code" s_number_code f fd) (m_len : mg "len" = none) {t_FIRST_LONG : Tok} (g_FIRST_LONG : mg "FIRST_LONG" = some (.int (192) t_FIRST_LONG)) {t_LONG : Tok} (g_LONG : mg "LONG" = some (.int (191) t_LONG)) {c_BadNumber : Addr} (E_BadNumber : Err P w K mg base "BadNumber" "number" c_BadNumber) {f_is_number : Addr} {fd_is_number : FuncData} (G_is_number : Told P w K mg base CX0 2 f_is_number fd_is_number ["thing"] (spIsNumber K)) (b_is_number : Binds K fd_is_number ["thing"] []) (g_is_number : mg "is_number" = some (.ref f_is_number)) (k_is_number : PySem.W.keepIn K (.ref f_is_number) = true) {f_base_256 : Addr} {fd_base_256 : FuncData} (G_base_256 : Told P w K mg base CX0 1 f_base_256 fd_base_256 ["number"] spDigs) (b_base_256 : Binds K fd_base_256 ["number"] []) (g_base_256 : mg "base_256" = some (.ref f_base_256)) (k_base_256 : PySem.W.keepIn K (.ref f_base_256) = true) : Told P w K mg base (L2.CX P w) 3 f fd ["number"] (spNumCode K c_BadNumber) := by
  refine toldX F sc_number_code (fun vs H Q E h => ?_) (fun cdv A outer s H vs Q E clr hr h => ?_)
  · obtain ⟨x, rfl, hx⟩ := h
    rfl
  · obtain ⟨x, rfl, hx⟩ := h
    refine ⟨_, (pss_cons (ps_if (pt_not (pt_val (pe_told G_is_number clr (hr.mono (by decide)) (by rfl) g_is_number k_is_number b_is_number .nil pass0 (pa_cons (pv 0) pa_nil))))
    (pss_one (ps_raise rfl (takes_of rfl rfl rfl rfl) (pmk_err E_BadNumber (hr.mono (by decide)) (by rfl) (pa_cons (pv 0) pa_nil))))
    pss_nil)
    (pss_cons (ps_if (pt_cmpR op_lt (pv 0) (pe_glob (v := .int (192)) (by rfl) g_FIRST_LONG ⟨_, rfl⟩) (nomark _))
    (pss_one (ps_ret (pe_lst (pa_cons (pv 0) pa_nil))))
    pss_nil)
    (pss_cons (ps_set (i := 1) sc_number_code.nd rfl (Or.inl rfl) (pe_told G_base_256 clr (hr.mono (by decide)) (by rfl) g_base_256 k_base_256 b_base_256 .nil pass0 (pa_cons (pv 0) pa_nil)))
    (pss_one (ps_ret (pe_op op_cat (pe_lst (pa_cons (pe_op op_add (pe_glob (v := .int (191)) (by rfl) g_LONG ⟨_, rfl⟩) (pe_callB call_len_seq (by rfl) m_len PySem.boot_len (pa_cons (pv 1) pa_nil))) pa_nil)) (pv 1))))))), ?_⟩
    rcases hx with ⟨N, rfl, hN, k⟩ | ⟨no, k⟩
    · have inR : decide (0 ≤ (N : Int) ∧ (N : Int) < 256 ^ 63) = true := decide_eq_true ⟨by omega, by exact_mod_cast hN⟩
      refine ⟨_, rfl, _, rfl, .inl ⟨_, rfl, ?_⟩⟩
      rw [inR]
      refine ⟨_, rfl, iteF ?_⟩
      refine ⟨_, rfl, _, _, rfl, rfl, _, rfl, ite2 (fun e => ?_) (fun e => ?_)⟩
      · have hs : N < 192 := by
          have := of_decide_eq_true e
          omega
        refine ⟨_, rfl, sz (show 1 ≤ 1000000 by decide), fun q hq => k q _ (same_new hq) hq ?_⟩
        rw [upd_same, codeN_small hs]
        rfl
      · have hs : ¬ N < 192 := fun z => e (decide_eq_true (by omega))
        refine ⟨_, rfl, N, rfl, hN, fun l H1 sm nl hl => ?_⟩
        have h63 := digs_len_le 63 N hN
        refine ⟨_, rfl, l, _, rfl, .inl (seq_of hl), _, _, rfl, rfl, sz (show 1 ≤ 1000000 by decide), fun l2 hl2 => ?_⟩
        have hl' : (upd H1 l2 (.lst [.int (191 + (((digs N).map vN).length : Int))])) l = some (.lst ((digs N).map vN)) := by
          rw [upd_ne (ne_of_none hl hl2)]
          exact hl
        refine ⟨_, rfl, _, _, _, _, rfl, rfl, upd_same, hl', ?_, fun l3 hl3 => ?_⟩
        · refine sz ?_
          rw [List.length_map]
          show 1 + (digs N).length ≤ _
          omega
        · refine k l3 _ (sm.trans ((same_new hl2).trans (same_new hl3))) (sm.free ((same_new hl2).free hl3)) ?_
          rw [upd_same, codeN_big hs, List.length_map]
          rfl
    · refine ⟨_, rfl, x, rfl, ?_⟩
      rcases no with ⟨i, rfl, hi⟩ | ⟨b, rfl⟩ | ⟨t, ty, kt⟩
      · refine .inl ⟨i, rfl, ?_⟩
        rw [decide_eq_false hi]
        exact ⟨_, rfl, iteT ⟨_, rfl, err_made E_BadNumber.T E_BadNumber.no k⟩⟩
      · exact .inr (.inl ⟨b, rfl, _, rfl, iteT ⟨_, rfl, err_made E_BadNumber.T E_BadNumber.no k⟩⟩)
      · exact .inr (.inr ⟨t, ty, kt, _, rfl, iteT ⟨_, rfl, err_made E_BadNumber.T E_BadNumber.no k⟩⟩)

/-! ### reading numbers, entry by entry -/
def byteV : V → Option Nat
  | .int i => if 0 ≤ i ∧ i ≤ 255 then some i.toNat else none
  | _ => none
inductive Res
  | num (n e : Nat)
  | wrong (i : Nat)
  | unf
def more (ys : List (Option Nat)) : Nat → Nat → Nat → Res
  | 0, pos, acc => .num acc pos
  | k + 1, pos, acc => match ys[pos]? with
    | none => .unf
    | some none => .wrong pos
    | some (some b) => more ys k (pos + 1) (acc * 256 + b)
def least2 (f : Nat) : Nat := if f = 192 then 192 else 1
def readN (ys : List (Option Nat)) (at_ : Nat) : Res := match ys[at_]? with
  | none => .unf
  | some none => .wrong at_
  | some (some f) => if f = 255 then .wrong at_ else if f < 192 then .num f (at_ + 1) else match ys[at_ + 1]? with
    | none => .unf
    | some none => .wrong (at_ + 1)
    | some (some b) => if b < least2 f then .wrong (at_ + 1) else more ys (f - 192) (at_ + 2) b
/-- an entry of data: an int, a truth value, a thing of another type -/
def Ent (K : PySem.W.Frag) (H : Hp) (v : V) : Prop := (∃ i, v = .int i) ∨ (∃ b, v = .bl b) ∨ (∃ t : String, TyX K H v (.type t) ∧ kitB t "int" = some false)
theorem byteV_I (i : Int) : byteV (.int i) = if 0 ≤ i ∧ i ≤ 255 then some i.toNat else none := rfl
theorem byteV_lt {v : V} {b : Nat} (h : byteV v = some b) : b ≤ 255 := by
  unfold byteV at h
  split at h
  · split at h
    · cases h
      omega
    · cases h
  · cases h
theorem byteV_int {v : V} {b : Nat} (h : byteV v = some b) : v = .int (b : Int) := by
  unfold byteV at h
  split at h
  · split at h
    · rename_i i hi
      cases h
      exact congrArg V.int (by omega)
    · cases h
  · cases h
theorem byteV_nat {b : Nat} (h : b ≤ 255) : byteV (.int (b : Int)) = some b := by
  unfold byteV
  dsimp only
  rw [if_pos ⟨by omega, by omega⟩]
  simp
def spIsByte (K : PySem.W.Frag) : Sp := fun vs H Q _ => ∃ x : V, vs = [x] ∧ Ent K H x ∧ Q (.bl (byteV x).isSome) H
abbrev s_is_byte : Stmt := topS 11
theorem sc_is_byte : FnScope ["thing"] ["thing"] (defScope s_is_byte) := ⟨rfl, rfl, rfl, by decide +kernel, rfl, by decide +kernel, by decide +kernel⟩
theorem ok_is_byte {f : Addr} {fd : FuncData} (F : Fun K "is_byte" "is_byte" s_is_byte f fd) {f_is_int : Addr} {fd_is_int : FuncData} (G_is_int : Told P w K mg base CX0 1 f_is_int fd_is_int ["thing"] (spIsInt K)) (b_is_int : Binds K fd_is_int ["thing"] []) (g_is_int : mg "is_int" = some (.ref f_is_int)) (k_is_int : PySem.W.keepIn K (.ref f_is_int) = true) : Told P w K mg base CX0 2 f fd ["thing"] (spIsByte K) := by
  refine told F sc_is_byte (fun vs H Q E h => ?_) (fun cdv A outer s H vs Q E clr hr h => ?_)
  · obtain ⟨x, rfl, h, q⟩ := h
    rfl
  · obtain ⟨x, rfl, h, q⟩ := h
    refine ⟨_, (pss_one (ps_ret (pe_and (pe_told G_is_int clr (hr.mono (by decide)) (by rfl) g_is_int k_is_int b_is_int .nil pass0 (pa_cons (pv 0) pa_nil)) (pe_one (pe_chain op_le op_le pe_int (pv 0) pe_int))))), ?_⟩
    rcases h with ⟨i, rfl⟩ | ⟨b, rfl⟩ | ⟨t, ty, kt⟩
    · refine ⟨_, rfl, _, rfl, .inl ⟨i, rfl, _, rfl, iteT ?_⟩⟩
      refine ⟨_, rfl, _, _, rfl, rfl, _, rfl, ite2 (fun e => ?_) (fun e => ?_)⟩
      · have h0 : 0 ≤ i := of_decide_eq_true e
        refine ⟨_, _, rfl, rfl, ?_⟩
        have eb : (byteV (.int i)).isSome = decide (i ≤ 255) := by
          rw [byteV_I]
          by_cases c : i ≤ 255
          · rw [if_pos ⟨h0, c⟩, decide_eq_true c]
            rfl
          · rw [if_neg (fun z => c z.2), decide_eq_false c]
            rfl
        rw [eb] at q
        exact q
      · have eb : (byteV (.int i)).isSome = false := by
          rw [byteV_I, if_neg (fun z => e (decide_eq_true z.1))]
          rfl
        rw [eb] at q
        exact q
    · exact ⟨_, rfl, _, rfl, .inr (.inl ⟨b, rfl, _, rfl, iteF q⟩)⟩
    · have eb : (byteV x).isSome = false := by
        unfold byteV
        split
        · rename_i i
          cases ty with
          | base h => cases h with
            | int => exact absurd kt (by decide +kernel)
        · rfl
      rw [eb] at q
      exact ⟨_, rfl, _, rfl, .inr (.inr ⟨t, ty, kt, _, rfl, iteF q⟩)⟩

def spLeast : Sp := fun vs H Q _ => ∃ f : Nat, vs = [.int (f : Int)] ∧ Q (.int (least2 f : Int)) H
abbrev s_least_second : Stmt := topS 16
theorem sc_least_second : FnScope ["first"] ["first"] (defScope s_least_second) := ⟨rfl, rfl, rfl, by decide +kernel, rfl, by decide +kernel, by decide +kernel⟩
theorem ok_least_second {f : Addr} {fd : FuncData} (F : Fun K "least_second" "least_second" s_least_second f fd) {t_LONG : Tok} (g_LONG : mg "LONG" = some (.int (191) t_LONG)) {t_FIRST_LONG : Tok} (g_FIRST_LONG : mg "FIRST_LONG" = some (.int (192) t_FIRST_LONG)) : Told P w K mg base CX0 1 f fd ["first"] spLeast := by
  refine told F sc_least_second (fun vs H Q E h => ?_) (fun cdv A outer s H vs Q E clr hr h => ?_)
  · obtain ⟨f, rfl, q⟩ := h
    rfl
  · obtain ⟨f, rfl, q⟩ := h
    refine ⟨_, (pss_one (ps_ret (pe_ifExp (pt_cmpR op_eq (pv 0) (pe_op op_add (pe_glob (v := .int (191)) (by rfl) g_LONG ⟨_, rfl⟩) pe_int) (nomark _)) (pe_glob (v := .int (192)) (by rfl) g_FIRST_LONG ⟨_, rfl⟩) pe_int))), ?_⟩
    refine ⟨_, rfl, _, _, rfl, rfl, rfl, _, rfl, ite2 (fun e => ?_) (fun e => ?_)⟩
    · have : f = 192 := by
        have := V.int.inj (of_decide_eq_true e)
        omega
      have e2 : least2 f = 192 := if_pos this
      rw [e2] at q
      exact q
    · have : ¬ f = 192 := fun z => e (decide_eq_true (congrArg V.int (by omega)))
      have e2 : least2 f = 1 := if_neg this
      rw [e2] at q
      exact q

/-- an error of the class C with at = n, raised where the heap was H -/
def Err1 (E : XK) (C : Addr) (H : Hp) (n : Nat) : Prop := ∀ d H', H d = none → Same H H' → H' d = some (.xd [("at", .int (n : Int))]) → E (.ref C) (some d) H'
def spByteAt (K : PySem.W.Frag) (cW cU : Addr) : Sp := fun vs H Q E => ∃ (a : Addr) (xs : List V) (at_ lo hi : Nat), vs = [.ref a, .int (at_ : Int), .int (lo : Int), .int (hi : Int)] ∧ SqL K H a xs ∧ (∀ v ∈ xs, Ent K H v) ∧ at_ ≤ xs.length ∧
  (xs[at_]? = none → Err1 E cU H at_) ∧ ∀ v, xs[at_]? = some v → (∀ b, byteV v = some b → lo ≤ b → b ≤ hi → Q (.int (b : Int)) H) ∧ ((∀ b, byteV v = some b → ¬ (lo ≤ b ∧ b ≤ hi)) → Err1 E cW H at_)
abbrev s_byte_at : Stmt := topS 17
theorem sc_byte_at : FnScope ["data", "at", "low", "high", "entry"] ["data", "at", "low", "high"] (defScope s_byte_at) := ⟨rfl, rfl, rfl, by decide +kernel, rfl, by decide +kernel, by decide +kernel⟩
theorem ok_byte_at {f : Addr} {fd : FuncData} (F : Fun K "byte_at" "byte_at" s_byte_at f fd) (m_len : mg "len" = none) {c_Unfinished : Addr} (E_Unfinished : Err P w K mg base "Unfinished" "at" c_Unfinished) {c_WrongByte : Addr} (E_WrongByte : Err P w K mg base "WrongByte" "at" c_WrongByte) {f_is_byte : Addr} {fd_is_byte : FuncData} (G_is_byte : Told P w K mg base CX0 2 f_is_byte fd_is_byte ["thing"] (spIsByte K)) (b_is_byte : Binds K fd_is_byte ["thing"] []) (g_is_byte : mg "is_byte" = some (.ref f_is_byte)) (k_is_byte : PySem.W.keepIn K (.ref f_is_byte) = true) : Told P w K mg base (L2.CX P w) 3 f fd ["data", "at", "low", "high"] (spByteAt K c_WrongByte c_Unfinished) := by
  refine toldX F sc_byte_at (fun vs H Q E h => ?_) (fun cdv A outer s H vs Q E clr hr h => ?_)
  · obtain ⟨a, xs, n, lo, hi, rfl, hS, hE, hn, hU, hV⟩ := h
    rfl
  · obtain ⟨a, xs, n, lo, hi, rfl, hS, hE, hn, hU, hV⟩ := h
    refine ⟨_, (pss_cons (ps_if (pt_cmpR op_eq (pv 1) (pe_callB call_len_seq (by rfl) m_len PySem.boot_len (pa_cons (pv 0) pa_nil)) (nomark _))
    (pss_one (ps_raise rfl (takes_of rfl rfl rfl rfl) (pmk_err E_Unfinished (hr.mono (by decide)) (by rfl) (pa_cons (pv 1) pa_nil))))
    pss_nil)
    (pss_cons (ps_set (i := 4) sc_byte_at.nd rfl (Or.inl rfl) (pe_ix ix_list (pv 0) (pv 1) (fun _ _ => rfl)))
    (pss_cons (ps_if (PW.pt (pw_or (pt_not (pt_val (pe_told G_is_byte clr (hr.mono (by decide)) (by rfl) g_is_byte k_is_byte b_is_byte .nil pass0 (pa_cons (pv 4) pa_nil)))) (pw_or1 (pt_not (pt_chain op_le op_le (pv 2) (pv 4) (pv 3))))))
    (pss_one (ps_raise rfl (takes_of rfl rfl rfl rfl) (pmk_err E_WrongByte (hr.mono (by decide)) (by rfl) (pa_cons (pv 1) pa_nil))))
    pss_nil)
    (pss_one (ps_ret (pv 4)))))), ?_⟩
    refine ⟨_, rfl, _, rfl, a, xs, rfl, .inl hS, rfl, _, rfl, ite2 (fun e => ?_) (fun e => ?_)⟩
    · have en : n = xs.length := by
        have := V.int.inj (of_decide_eq_true e)
        omega
      exact ⟨_, rfl, err_made E_Unfinished.T E_Unfinished.no (hU (List.getElem?_eq_none (by omega)))⟩
    · have en : n < xs.length := by
        have : n ≠ xs.length := fun z => e (decide_eq_true (congrArg V.int (by omega)))
        omega
      have hv := List.getElem?_eq_getElem en
      obtain ⟨hQ, hW⟩ := hV _ hv
      refine ⟨_, rfl, _, rfl, a, xs, _, xs[n], rfl, rfl, hS, atI_nat hv, ?_⟩
      refine ⟨_, rfl, _, rfl, hE _ (List.getElem_mem en), ?_⟩
      cases hb : byteV xs[n] with
      | none =>
        refine ⟨_, rfl, iteT ?_⟩
        exact ⟨_, rfl, err_made E_WrongByte.T E_WrongByte.no (hW fun b z => by rw [hb] at z; cases z)⟩
      | some b =>
        have ev := byteV_int hb
        refine ⟨_, rfl, iteF ?_⟩
        refine ⟨_, rfl, _, rfl, _, _, rfl, ev, _, rfl, ite2 (fun c1 => ?_) (fun c1 => ?_)⟩
        · have h1 : lo ≤ b := by
            have := of_decide_eq_true c1
            omega
          refine ⟨_, rfl, _, _, ev, rfl, _, rfl, ?_⟩
          by_cases c2 : (b : Int) ≤ (hi : Int)
          · rw [decide_eq_true c2]
            refine iteF ⟨_, rfl, ?_⟩
            rw [ev]
            exact hQ b hb h1 (by omega)
          · rw [decide_eq_false c2]
            exact iteT ⟨_, rfl, err_made E_WrongByte.T E_WrongByte.no (hW fun b' z => by rw [hb] at z; cases z; omega)⟩
        · refine ⟨_, rfl, iteT ?_⟩
          refine ⟨_, rfl, err_made E_WrongByte.T E_WrongByte.no (hW fun b' z h => by
            rw [hb] at z
            cases z
            exact c1 (decide_eq_true (by omega)))⟩

def spDigitAt (K : PySem.W.Frag) (cW cU : Addr) : Sp := fun vs H Q E => ∃ (a : Addr) (xs : List V) (at_ lo hi : Nat), vs = [.ref a, .int (at_ : Int), .int (lo : Int), .int (hi : Int), .bl false] ∧ SqL K H a xs ∧ (∀ v ∈ xs, Ent K H v) ∧ at_ ≤ xs.length ∧
  (xs[at_]? = none → Err1 E cU H at_) ∧ ∀ v, xs[at_]? = some v → (∀ b, byteV v = some b → lo ≤ b → b ≤ hi → Q (.int (b : Int)) H) ∧ ((∀ b, byteV v = some b → ¬ (lo ≤ b ∧ b ≤ hi)) → Err1 E cW H at_)
abbrev s_digit_at : Stmt := topS 18
theorem sc_digit_at : FnScope ["data", "at", "low", "high", "is_turned"] ["data", "at", "low", "high", "is_turned"] (defScope s_digit_at) := ⟨rfl, rfl, rfl, by decide +kernel, rfl, by decide +kernel, by decide +kernel⟩
theorem ok_digit_at {f : Addr} {fd : FuncData} (F : Fun K "digit_at" "digit_at" s_digit_at f fd) {f_byte_at : Addr} {fd_byte_at : FuncData} (G_byte_at : Told P w K mg base (L2.CX P w) 3 f_byte_at fd_byte_at ["data", "at", "low", "high"] (spByteAt K c_WrongByte c_Unfinished)) (b_byte_at : Binds K fd_byte_at ["data", "at", "low", "high"] []) (g_byte_at : mg "byte_at" = some (.ref f_byte_at)) (k_byte_at : PySem.W.keepIn K (.ref f_byte_at) = true) : Told P w K mg base (L2.CX P w) 4 f fd ["data", "at", "low", "high", "is_turned"] (spDigitAt K c_WrongByte c_Unfinished) := by
  refine toldX F sc_digit_at (fun vs H Q E h => ?_) (fun cdv A outer s H vs Q E clr hr h => ?_)
  · obtain ⟨a, xs, n, lo, hi, rfl, hS, hE, hn, hU, hV⟩ := h
    rfl
  · obtain ⟨a, xs, n, lo, hi, rfl, hS, hE, hn, hU, hV⟩ := h
    refine ⟨_, (pss_cons (ps_if (pt_val (pv 4))
    (pss_one ps_never)
    pss_nil)
    (pss_one (ps_ret (pe_toldS G_byte_at clr (hr.mono (by decide)) (by rfl) g_byte_at k_byte_at b_byte_at .nil (fun σ => passAt (takes_of rfl rfl rfl rfl) σ) (pa_cons (pv 0) (pa_cons (pv 1) (pa_cons (pv 2) (pa_cons (pv 3) pa_nil)))))))), ?_⟩
    exact ⟨_, rfl, _, rfl, iteF ⟨_, rfl, _, rfl, _, rfl, _, rfl, a, xs, n, lo, hi, rfl, hS, hE, hn, hU, hV⟩⟩

def wantRes (E : XK) (Q : VK) (cW cU : Addr) (H : Hp) (len : Nat) : Res → Prop
  | .num n e => ∀ t H', Same H H' → H t = none → H' t = some (.tup [.int (n : Int), .int (e : Int)]) → Q (.ref t) H'
  | .wrong i => Err1 E cW H i
  | .unf => Err1 E cU H len
theorem more_at {ys : List (Option Nat)} {k pos acc : Nat} : more ys (k + 1) pos acc = match ys[pos]? with
    | none => .unf
    | some none => .wrong pos
    | some (some b) => more ys k (pos + 1) (acc * 256 + b) := rfl
def codeSz (f : Nat) : Nat := if f < 192 then 1 else f - 190
def spCodeSize : Sp := fun vs H Q _ => ∃ f : Nat, vs = [.int (f : Int)] ∧ Q (.int (codeSz f : Int)) H
abbrev s_code_size : Stmt := topS 15
theorem sc_code_size : FnScope ["first"] ["first"] (defScope s_code_size) := ⟨rfl, rfl, rfl, by decide +kernel, rfl, by decide +kernel, by decide +kernel⟩
theorem ok_code_size {f : Addr} {fd : FuncData} (F : Fun K "code_size" "code_size" s_code_size f fd) {t_FIRST_LONG : Tok} (g_FIRST_LONG : mg "FIRST_LONG" = some (.int (192) t_FIRST_LONG)) {t_LONG : Tok} (g_LONG : mg "LONG" = some (.int (191) t_LONG)) : Told P w K mg base CX0 1 f fd ["first"] spCodeSize := by
  refine told F sc_code_size (fun vs H Q E h => ?_) (fun cdv A outer s H vs Q E clr hr h => ?_)
  · obtain ⟨f, rfl, q⟩ := h
    rfl
  · obtain ⟨f, rfl, q⟩ := h
    refine ⟨_, (pss_one (ps_ret (pe_ifExp (pt_cmpR op_lt (pv 0) (pe_glob (v := .int (192)) (by rfl) g_FIRST_LONG ⟨_, rfl⟩) (nomark _)) pe_int (pe_op op_sub (pe_op op_add pe_int (pv 0)) (pe_glob (v := .int (191)) (by rfl) g_LONG ⟨_, rfl⟩))))), ?_⟩
    refine ⟨_, rfl, _, _, rfl, rfl, _, rfl, ite2 (fun e => ?_) (fun e => ?_)⟩
    · have e2 : codeSz f = 1 := if_pos (by have := of_decide_eq_true e; omega)
      rw [e2] at q
      exact q
    · have : ¬ f < 192 := fun z => e (decide_eq_true (by omega))
      have e2 : ((codeSz f : Nat) : Int) = 1 + (f : Int) - 191 := by
        rw [show codeSz f = f - 190 from if_neg this]
        omega
      rw [e2] at q
      exact ⟨_, rfl, _, _, rfl, rfl, _, _, rfl, rfl, q⟩

def spCodeAt (K : PySem.W.Frag) (cW cU : Addr) : Sp := fun vs H Q E => ∃ (a : Addr) (xs : List V) (at_ : Nat), vs = [.ref a, .int (at_ : Int), .bl false] ∧ SqL K H a xs ∧ (∀ v ∈ xs, Ent K H v) ∧ at_ ≤ xs.length ∧ xs.length ≤ 1000000 ∧ wantRes E Q cW cU H xs.length (readN (xs.map byteV) at_)
abbrev s_code_at : Stmt := topS 19
theorem sc_code_at : FnScope ["data", "at", "is_turned", "first", "end", "number", "index"] ["data", "at", "is_turned"] (defScope s_code_at) := ⟨rfl, rfl, rfl, by decide +kernel, rfl, by decide +kernel, by decide +kernel⟩
theorem ok_code_at {f : Addr} {fd : FuncData} (F : Fun K "code_at" "code_at" s_code_at f fd) (m_range : mg "range" = none) {t_LAST_FIRST : Tok} (g_LAST_FIRST : mg "LAST_FIRST" = some (.int (254) t_LAST_FIRST)) {f_digit_at : Addr} {fd_digit_at : FuncData} (G_digit_at : Told P w K mg base (L2.CX P w) 4 f_digit_at fd_digit_at ["data", "at", "low", "high", "is_turned"] (spDigitAt K c_WrongByte c_Unfinished)) (b_digit_at : Binds K fd_digit_at ["data", "at", "low", "high", "is_turned"] []) (g_digit_at : mg "digit_at" = some (.ref f_digit_at)) (k_digit_at : PySem.W.keepIn K (.ref f_digit_at) = true) {f_code_size : Addr} {fd_code_size : FuncData} (G_code_size : Told P w K mg base CX0 1 f_code_size fd_code_size ["first"] spCodeSize) (b_code_size : Binds K fd_code_size ["first"] []) (g_code_size : mg "code_size" = some (.ref f_code_size)) (k_code_size : PySem.W.keepIn K (.ref f_code_size) = true) {f_least_second : Addr} {fd_least_second : FuncData} (G_least_second : Told P w K mg base CX0 1 f_least_second fd_least_second ["first"] spLeast) (b_least_second : Binds K fd_least_second ["first"] []) (g_least_second : mg "least_second" = some (.ref f_least_second)) (k_least_second : PySem.W.keepIn K (.ref f_least_second) = true) : Told P w K mg base (L2.CX P w) 5 f fd ["data", "at", "is_turned"] (spCodeAt K c_WrongByte c_Unfinished) := by
  refine toldX F sc_code_at (fun vs H Q E h => ?_) (fun cdv A outer s H vs Q E clr hr h => ?_)
  · obtain ⟨a, xs, n, rfl, hS, hE, hn, hmil, hw⟩ := h
    rfl
  · obtain ⟨a, xs, n, rfl, hS, hE, hn, hmil, hw⟩ := h
    refine ⟨_, (pss_cons (ps_set (i := 3) sc_code_at.nd rfl (Or.inl rfl) (pe_toldS G_digit_at clr (hr.mono (by decide)) (by rfl) g_digit_at k_digit_at b_digit_at .nil (fun σ => passAt (takes_of rfl rfl rfl rfl) σ) (pa_cons (pv 0) (pa_cons (pv 1) (pa_cons pe_int (pa_cons (pe_glob (v := .int (254)) (by rfl) g_LAST_FIRST ⟨_, rfl⟩) (pa_cons (pv 2) pa_nil)))))))
    (pss_cons (ps_set (i := 4) sc_code_at.nd rfl (Or.inl rfl) (pe_op op_add (pv 1) (pe_told G_code_size clr (hr.mono (by decide)) (by rfl) g_code_size k_code_size b_code_size .nil pass0 (pa_cons (pv 3) pa_nil))))
    (pss_cons (ps_if (pt_cmpR op_eq (pv 4) (pe_op op_add (pv 1) pe_int) (nomark _))
    (pss_one (ps_ret (pe_tup (pa_cons (pv 3) (pa_cons (pv 4) pa_nil)))))
    pss_nil)
    (pss_cons (ps_set (i := 5) sc_code_at.nd rfl (Or.inl rfl) (pe_toldS G_digit_at clr (hr.mono (by decide)) (by rfl) g_digit_at k_digit_at b_digit_at .nil (fun σ => passAt (takes_of rfl rfl rfl rfl) σ) (pa_cons (pv 0) (pa_cons (pe_op op_add (pv 1) pe_int) (pa_cons (pe_told G_least_second clr (hr.mono (by decide)) (by rfl) g_least_second k_least_second b_least_second .nil pass0 (pa_cons (pv 3) pa_nil)) (pa_cons pe_int (pa_cons (pv 2) pa_nil)))))))
    (pss_cons (ps_for (passes_of rfl) rfl (pi_range2 (by rfl) m_range (pa_cons (pe_op op_add (pv 1) pe_int) (pa_cons (pv 4) pa_nil))) (pg_name (i := 6) sc_code_at.nd rfl (Or.inl rfl))
    (pss_one (ps_set (i := 5) sc_code_at.nd rfl (Or.inl rfl) (pe_op op_add (pe_op op_mul (pv 5) pe_int) (pe_toldS G_digit_at clr (hr.mono (by decide)) (by rfl) g_digit_at k_digit_at b_digit_at .nil (fun σ => passAt (takes_of rfl rfl rfl rfl) σ) (pa_cons (pv 0) (pa_cons (pv 6) (pa_cons pe_int (pa_cons pe_int (pa_cons (pv 2) pa_nil))))))))))
    (pss_one (ps_ret (pe_tup (pa_cons (pv 5) (pa_cons (pv 4) pa_nil)))))))))), ?_⟩
    have hys : ∀ i, (xs.map byteV)[i]? = (xs[i]?).map byteV := fun i => List.getElem?_map ..
    have hlen : ∀ i, i ≤ xs.length → xs[i]? = none → i = xs.length := fun i h1 h2 => by
      have := List.getElem?_eq_none_iff.mp h2
      omega
    unfold readN at hw
    rw [hys] at hw
    refine ⟨_, rfl, _, rfl, _, rfl, a, xs, n, 0, 254, rfl, hS, hE, hn, fun hv => ?_, fun v hv => ⟨fun b hb _ hb2 => ?_, fun nb => ?_⟩⟩
    · rw [hv] at hw
      rw [hlen n hn hv]
      exact hw
    · rw [hv] at hw
      dsimp only [Option.map_some] at hw
      rw [hb] at hw
      dsimp only at hw
      rw [if_neg (show ¬ b = 255 by omega)] at hw
      have hn1 : n < xs.length := (List.getElem?_eq_some_iff.mp hv).1
      refine ⟨_, rfl, _, rfl, b, rfl, _, _, rfl, rfl, ?_⟩
      refine ⟨_, rfl, _, rfl, _, _, rfl, rfl, rfl, _, rfl, ite2 (fun c => ?_) (fun c => ?_)⟩
      · have hb3 : b < 192 := by
          have := V.int.inj (of_decide_eq_true c)
          unfold codeSz at this
          split at this
          · assumption
          · omega
        have e1 : codeSz b = 1 := if_pos hb3
        rw [if_pos hb3] at hw
        refine ⟨_, rfl, _, rfl, sz (show 2 ≤ 1000000 by decide), fun t nt => hw t _ (same_new nt) nt ?_⟩
        rw [upd_same, e1]
        rfl
      · have hb3 : ¬ b < 192 := fun z => c (decide_eq_true (by rw [show codeSz b = 1 from if_pos z]; rfl))
        have e1 : ((codeSz b : Nat) : Int) = (b : Int) - 190 := by
          rw [show codeSz b = b - 190 from if_neg hb3]
          omega
        rw [if_neg hb3, hys] at hw
        refine ⟨_, rfl, _, rfl, _, _, rfl, rfl, _, rfl, b, rfl, ?_⟩
        refine ⟨_, rfl, a, xs, n + 1, least2 b, 255, rfl, hS, hE, hn1, fun hv2 => ?_, fun v2 hv2 => ⟨fun b2 hb2' hl _ => ?_, fun nb => ?_⟩⟩
        · rw [hv2] at hw
          rw [hlen (n + 1) hn1 hv2]
          exact hw
        · rw [hv2] at hw
          dsimp only [Option.map_some] at hw
          rw [hb2'] at hw
          dsimp only at hw
          rw [if_neg (show ¬ b2 < least2 b by omega)] at hw
          have hn2 : n + 1 < xs.length := (List.getElem?_eq_some_iff.mp hv2).1
          refine ⟨_, rfl, _, _, rfl, rfl, _, rfl, _, _, rfl, ⟨by omega, by omega, by omega, by omega⟩, ?_⟩
          have en : ((n : Int) + (codeSz b : Int) - ((n : Int) + 2)).toNat = b - 192 := by omega
          rw [en]
          refine for_range (lo := (n : Int) + 2) (n := b - 192) (fun i σ H' => H' = H ∧ ∃ (acc : Nat) (v : Option V), σ = [some (.ref a), some (.int (n : Int)), some (.bl false), some (.int (b : Int)), some (.int ((n : Int) + (codeSz b : Int))), some (.int (acc : Int)), v] ∧
            n + 2 + i ≤ xs.length ∧ wantRes E Q c_WrongByte c_Unfinished H xs.length (more (xs.map byteV) (b - 192 - i) (n + 2 + i) acc)) ⟨rfl, b2, _, rfl, hn2, hw⟩ ?_ ?_
          · rintro i σ H' hi ⟨rfl, acc, v3, rfl, hpos, hw3⟩
            obtain ⟨k', hk'⟩ : ∃ k', b - 192 - i = k' + 1 := ⟨b - 192 - i - 1, by omega⟩
            rw [hk', more_at, hys] at hw3
            refine ⟨_, rfl, _, _, rfl, rfl, .inr ⟨by decide, by decide⟩, _, rfl, _, rfl, _, rfl, a, xs, n + 2 + i, 0, 255, ?_, hS, hE, hpos, fun hv4 => ?_, fun v4 hv4 => ⟨fun b4 hb4 _ _ => ?_, fun nb => ?_⟩⟩
            · show [V.ref a, V.int ((n : Int) + 2 + (i : Int)), V.int 0, V.int 255, V.bl false] = _
              have : (n : Int) + 2 + (i : Int) = ((n + 2 + i : Nat) : Int) := by omega
              rw [this]
              rfl
            · rw [hv4] at hw3
              rw [hlen _ hpos hv4]
              exact hw3
            · rw [hv4] at hw3
              dsimp only [Option.map_some] at hw3
              rw [hb4] at hw3
              dsimp only at hw3
              have hp4 : n + 2 + i < xs.length := (List.getElem?_eq_some_iff.mp hv4).1
              refine ⟨_, _, rfl, rfl, rfl, acc * 256 + b4, some (.int ((n : Int) + 2 + (i : Int))), ?_, by omega, ?_⟩
              · have : (acc : Int) * 256 + (b4 : Int) = ((acc * 256 + b4 : Nat) : Int) := by omega
                rw [← this]
                rfl
              · have e1 : b - 192 - (i + 1) = k' := by omega
                rw [e1]
                exact hw3
            · rw [hv4] at hw3
              dsimp only [Option.map_some] at hw3
              have none4 : byteV v4 = none := by
                cases q : byteV v4 with
                | none => rfl
                | some b4 => exact absurd ⟨Nat.zero_le _, byteV_lt q⟩ (nb b4 q)
              rw [none4] at hw3
              exact hw3
          · rintro σ H' ⟨rfl, acc, v3, rfl, hpos, hw3⟩
            rw [Nat.sub_self] at hw3
            refine ⟨_, rfl, _, rfl, sz (show 2 ≤ 1000000 by decide), fun t nt => hw3 t _ (same_new nt) nt ?_⟩
            have : ((n : Int) + (codeSz b : Int)) = ((n + 2 + (b - 192) : Nat) : Int) := by omega
            rw [upd_same, this]
        · rw [hv2] at hw
          dsimp only [Option.map_some] at hw
          cases q : byteV v2 with
          | none =>
            rw [q] at hw
            exact hw
          | some b2 =>
            rw [q] at hw
            dsimp only at hw
            rw [if_pos (show b2 < least2 b from Nat.lt_of_not_le fun z => nb b2 q ⟨z, byteV_lt q⟩)] at hw
            exact hw
    · rw [hv] at hw
      dsimp only [Option.map_some] at hw
      cases q : byteV v with
      | none =>
        rw [q] at hw
        exact hw
      | some b =>
        rw [q] at hw
        dsimp only at hw
        have hb255 : b = 255 := by
          have h1 := byteV_lt q
          have h2 := nb b q
          omega
        rw [if_pos hb255] at hw
        exact hw

def spNumberAt (K : PySem.W.Frag) (cW cU : Addr) : Sp := fun vs H Q E => ∃ (a : Addr) (xs : List V) (at_ : Nat), vs = [.ref a, .int (at_ : Int)] ∧ SqL K H a xs ∧ (∀ v ∈ xs, Ent K H v) ∧ at_ ≤ xs.length ∧ xs.length ≤ 1000000 ∧ wantRes E Q cW cU H xs.length (readN (xs.map byteV) at_)
abbrev s_number_at : Stmt := topS 20
theorem sc_number_at : FnScope ["data", "at"] ["data", "at"] (defScope s_number_at) := ⟨rfl, rfl, rfl, by decide +kernel, rfl, by decide +kernel, by decide +kernel⟩
theorem ok_number_at {f : Addr} {fd : FuncData} (F : FunD K "number_at" "number_at" (defArgs s_number_at) (defBody s_number_at) (defScope s_number_at) [.int 0] [] f fd) {f_code_at : Addr} {fd_code_at : FuncData} (G_code_at : Told P w K mg base (L2.CX P w) 5 f_code_at fd_code_at ["data", "at", "is_turned"] (spCodeAt K c_WrongByte c_Unfinished)) (b_code_at : Binds K fd_code_at ["data", "at", "is_turned"] []) (g_code_at : mg "code_at" = some (.ref f_code_at)) (k_code_at : PySem.W.keepIn K (.ref f_code_at) = true) : Told P w K mg base (L2.CX P w) 6 f fd ["data", "at"] (spNumberAt K c_WrongByte c_Unfinished) := by
  refine toldD F sc_number_at (fun vs H Q E h => ?_) (fun cdv A outer s H vs Q E clr hr h => ?_)
  · obtain ⟨a, xs, n, rfl, hS, hE, hn, hmil, hw⟩ := h
    rfl
  · obtain ⟨a, xs, n, rfl, hS, hE, hn, hmil, hw⟩ := h
    refine ⟨_, (pss_one (ps_ret (pe_toldS G_code_at clr (hr.mono (by decide)) (by rfl) g_code_at k_code_at b_code_at .nil (fun σ => passAt (takes_of rfl rfl rfl rfl) σ) (pa_cons (pv 0) (pa_cons (pv 1) (pa_cons pe_bl pa_nil)))))), ?_⟩
    exact ⟨_, rfl, _, rfl, a, xs, n, rfl, hS, hE, hn, hmil, hw⟩

theorem shaped_nums (l : List Nat) : SeqAt.shaped (.list (l.map dN)) = true := by
  have h : ∀ l : List Nat, PyData.canLayAll0 (l.map dN) = true := by
    intro l
    induction l with
    | nil => rfl
    | cons d l ih =>
      show (PyData.canLay0 (dN d) && PyData.canLayAll0 (l.map dN)) = true
      rw [ih]
      rfl
  have d1 : ∀ l : List Nat, PyData.depthAll (l.map dN) ≤ 1 := by
    intro l
    induction l with
    | nil => exact Nat.zero_le _
    | cons d l ih =>
      show max (PyData.depth (dN d)) (PyData.depthAll (l.map dN)) ≤ 1
      have : PyData.depth (dN d) ≤ 1 := by
        unfold dN
        simp [PyData.depth]
      omega
  show (PyData.canLayAll0 (l.map dN) && decide (PyData.depthAll (l.map dN) + 1 ≤ 64)) = true
  rw [h, decide_eq_true (show PyData.depthAll (l.map dN) + 1 ≤ 64 by have := d1 l; omega)]
  rfl
/-! ### a row that is read begins with the code of its number -/
theorem more_digs {l : List Nat} (hl : ∀ d ∈ l, d < 256) : ∀ (k pos acc n e : Nat), acc ≠ 0 → more (l.map some) k pos acc = .num n e → digs n = digs acc ++ (l.drop pos).take k ∧ e = pos + k ∧ pos + k ≤ max pos l.length ∧
    ∀ m, pos ≤ m → m < pos + k → more ((l.take m).map some) k pos acc = .unf
  | 0, pos, acc, n, e, h0, h => by
    cases h
    refine ⟨by simp, rfl, by omega, fun m h1 h2 => by omega⟩
  | k + 1, pos, acc, n, e, h0, h => by
    rw [more_at, List.getElem?_map] at h
    cases q : l[pos]? with
    | none =>
      rw [q] at h
      cases h
    | some b =>
      rw [q] at h
      dsimp only [Option.map_some] at h
      have hb := hl b (List.mem_of_getElem? q)
      have hpos := (List.getElem?_eq_some_iff.mp q).1
      obtain ⟨i1, i2, i3, i4⟩ := more_digs hl k (pos + 1) (acc * 256 + b) n e (by omega) h
      have e1 : digs (acc * 256 + b) = digs acc ++ [b] := by
        rw [digs_pos (by omega)]
        have a1 : (acc * 256 + b) / 256 = acc := by omega
        have a2 : (acc * 256 + b) % 256 = b := by omega
        rw [a1, a2]
      have e2 : l.drop pos = b :: l.drop (pos + 1) := by
        rw [List.drop_eq_getElem_cons hpos]
        have := (List.getElem?_eq_some_iff.mp q).2
        rw [this]
      refine ⟨?_, by omega, by omega, fun m h1 h2 => ?_⟩
      · rw [i1, e1, e2, List.take_succ_cons, List.append_assoc]
        rfl
      · rw [more_at, List.getElem?_map]
        by_cases z : m = pos
        · rw [z, List.getElem?_take, if_neg (Nat.lt_irrefl _)]
          rfl
        · rw [List.getElem?_take, if_pos (by omega), q]
          exact i4 m (by omega) (by omega)
theorem read_some (l : List Nat) (at_ : Nat) : readN (l.map some) at_ = match l[at_]? with
  | none => .unf
  | some f => if f = 255 then .wrong at_ else if f < 192 then .num f (at_ + 1) else match l[at_ + 1]? with
    | none => .unf
    | some b => if b < least2 f then .wrong (at_ + 1) else more (l.map some) (f - 192) (at_ + 2) b := by
  unfold readN
  rw [List.getElem?_map, List.getElem?_map]
  cases l[at_]? with
  | none => rfl
  | some f =>
    dsimp only [Option.map_some]
    cases l[at_ + 1]? <;> rfl
theorem take_two {l : List Nat} {f b : Nat} (h0 : l[0]? = some f) (h1 : l[1]? = some b) (k : Nat) : l.take (k + 2) = f :: b :: (l.drop 2).take k := by
  cases l with
  | nil => cases h0
  | cons x r =>
    cases r with
    | nil => cases h1
    | cons y r =>
      cases h0
      cases h1
      rfl
theorem read_code {l : List Nat} (hl : ∀ d ∈ l, d < 256) {n e : Nat} (h : readN (l.map some) 0 = .num n e) : n < 256 ^ 63 ∧ codeN n = l.take e ∧ e ≤ l.length ∧ ∀ k, k < e → readN ((l.take k).map some) 0 = .unf := by
  rw [read_some] at h
  cases q : l[0]? with
  | none =>
    rw [q] at h
    cases h
  | some f =>
    have hf := hl f (List.mem_of_getElem? q)
    have hlen := (List.getElem?_eq_some_iff.mp q).1
    rw [q] at h
    dsimp only at h
    by_cases c1 : f = 255
    · rw [if_pos c1] at h
      cases h
    · rw [if_neg c1] at h
      by_cases c2 : f < 192
      · rw [if_pos c2] at h
        cases h
        refine ⟨Nat.lt_trans c2 (by decide +kernel), ?_, hlen, fun k hk => ?_⟩
        · rw [codeN_small c2]
          cases l with
          | nil => cases q
          | cons x r =>
            cases q
            rfl
        · have : k = 0 := by omega
          rw [this]
          rfl
      · rw [if_neg c2] at h
        cases q1 : l[0 + 1]? with
        | none =>
          rw [q1] at h
          cases h
        | some b =>
          have hb := hl b (List.mem_of_getElem? q1)
          have hlen1 := (List.getElem?_eq_some_iff.mp q1).1
          rw [q1] at h
          dsimp only at h
          by_cases c3 : b < least2 f
          · rw [if_pos c3] at h
            cases h
          · rw [if_neg c3] at h
            have hb0 : b ≠ 0 := fun z => c3 (by
              unfold least2
              split <;> omega)
            obtain ⟨d1, d2, d3, d4⟩ := more_digs hl (f - 192) (0 + 2) b n e hb0 h
            have db : digs b = [b] := by
              rw [digs_pos hb0, show b / 256 = 0 by omega, digs_zero, show b % 256 = b by omega]
              rfl
            rw [db] at d1
            have dl : (digs n).length = f - 191 := by
              rw [d1, List.length_append, List.length_take, List.length_drop]
              show 1 + min (f - 192) (l.length - 2) = f - 191
              omega
            have big : ¬ n < 192 := by
              intro z
              by_cases c4 : f = 192
              · have e0 : f - 192 = 0 := by omega
                rw [e0] at h
                cases h
                rw [show least2 f = 192 from if_pos c4] at c3
                omega
              · have h1 := digs_ge n (fun z0 => by
                  rw [z0, digs_zero] at dl
                  exact absurd dl (by show ¬ (0 = f - 191); omega))
                rw [dl] at h1
                have h2 : (256 : Nat) ^ 1 ≤ 256 ^ (f - 191 - 1) := Nat.pow_le_pow_right (by decide) (by omega)
                omega
            have hn : n < 256 ^ 63 := by
              have := valN_lt (digs n) (digs_lt n)
              rw [valN_digs, dl] at this
              exact Nat.lt_of_lt_of_le this (Nat.pow_le_pow_right (by decide) (by omega))
            refine ⟨hn, ?_, by omega, fun k hk => ?_⟩
            · rw [codeN_big big, dl, d1]
              have ee : e = (f - 192) + 2 := by omega
              rw [ee, take_two q q1]
              have e191 : 191 + (f - 191) = f := by omega
              rw [e191]
              rfl
            · rw [read_some]
              match k, hk with
              | 0, _ => rfl
              | 1, _ =>
                rw [List.getElem?_take, if_pos (by decide), q]
                dsimp only
                rw [if_neg c1, if_neg c2, List.getElem?_take, if_neg (by decide)]
              | k + 2, hk =>
                rw [List.getElem?_take, if_pos (by omega), q]
                dsimp only
                rw [if_neg c1, if_neg c2, List.getElem?_take, if_pos (by omega), q1]
                dsimp only
                rw [if_neg c3]
                exact d4 (k + 2) (by omega) (by omega)
theorem bytes_some {l : List Nat} (hl : ∀ d ∈ l, d < 256) : (l.map vN).map byteV = l.map some := by
  rw [List.map_map]
  refine List.map_congr_left fun d hd => ?_
  have := hl d hd
  exact byteV_nat (by omega)
theorem entI {K : PySem.W.Frag} {H : Hp} {l : List Nat} : ∀ v ∈ l.map vN, Ent K H v := by
  intro v hv
  obtain ⟨d, _, rfl⟩ := List.mem_map.mp hv
  exact .inl ⟨_, rfl⟩
def wantRead (Q : VK) (H : Hp) : Res → Prop
  | .num n e => ∀ t H', Same H H' → H t = none → H' t = some (.tup [.int (n : Int), .int (e : Int)]) → Q (.ref t) H'
  | .wrong _ => ∀ H', Same H H' → Q .non H'
  | .unf => ∀ H', Same H H' → Q .non H'
def spRead (K : PySem.W.Frag) : Sp := fun vs H Q _ => ∃ (a : Addr) (l : List Nat), vs = [.ref a] ∧ SqL K H a (l.map vN) ∧ (∀ d ∈ l, d < 256) ∧ l.length ≤ 1000 ∧ wantRead Q H (readN (l.map some) 0)
abbrev s__law_read : Stmt := topS 26
theorem sc__law_read : FnScope ["_law_row", "_law_found"] ["_law_row"] (defScope s__law_read) := ⟨rfl, rfl, rfl, by decide +kernel, rfl, by decide +kernel, by decide +kernel⟩
theorem ok__law_read {f : Addr} {fd : FuncData} (F : Fun K "_law_read" "_law_read" s__law_read f fd) (m_list : mg "list" = none) {c_ShortestBytesError : Addr} (g_ShortestBytesError : mg "ShortestBytesError" = some (.ref c_ShortestBytesError)) {f_number_at : Addr} {fd_number_at : FuncData} (G_number_at : Told P w K mg base (L2.CX P w) 6 f_number_at fd_number_at ["data", "at"] (spNumberAt K c_WrongByte c_Unfinished)) (b_number_at : Binds K fd_number_at ["data", "at"] []) (g_number_at : mg "number_at" = some (.ref f_number_at)) (k_number_at : PySem.W.keepIn K (.ref f_number_at) = true) {ds_number_at : List Value} (d_number_at : Vals [.int 0] ds_number_at) (bd_number_at : Binds K fd_number_at ["data", "at"] ds_number_at) (s_W_SBE : PySem.W.subIn K (.ref c_WrongByte) (.ref c_ShortestBytesError) = some true) (s_U_SBE : PySem.W.subIn K (.ref c_Unfinished) (.ref c_ShortestBytesError) = some true) (s_SBE_B : PySem.W.subIn K (.ref c_ShortestBytesError) (.type "BaseException") = some true) (h_SBE : PySem.W.hasDictIn K c_ShortestBytesError = true) (t_SBE : PySem.W.typeIn K (.ref c_ShortestBytesError) = some (.type "type")) : Told P w K mg base CX0 7 f fd ["_law_row"] (spRead K) := by
  refine told F sc__law_read (fun vs H Q E h => ?_) (fun cdv A outer s H vs Q E clr hr h => ?_)
  · obtain ⟨a, l, rfl, hS, hl, hlen, k⟩ := h
    rfl
  · obtain ⟨a, l, rfl, hS, hl, hlen, k⟩ := h
    refine ⟨_, (pss_cons (ps_set (i := 1) sc__law_read.nd rfl (Or.inl rfl) pe_non)
    (pss_cons (ps_try_only rfl rfl ⟨rfl, by decide, .inl g_ShortestBytesError⟩ takes0 (fun W pn xe tk _ => (pss_one (ps_set (i := 1) sc__law_read.nd rfl (Or.inl rfl) (pe_toldS G_number_at clr (hr.mono (by decide)) (by rfl) g_number_at k_number_at bd_number_at d_number_at (fun σ => passAt tk σ) (pa_cons (pe_callTy call_list_ofT (by rfl) m_list (by decide +kernel) (pa_cons (pv 0) pa_nil)) pa_nil))))) (fun a oe cls d pn hz hf => (pss_one (ps_ret pe_non))))
    (pss_one (ps_ret (pv 1))))), ?_⟩
    refine ⟨_, rfl, a, _, rfl, .inl hS, fun x nx => ?_⟩
    have s1 := same_new (o := .lst (l.map vN)) nx
    refine ⟨x, l.map vN, 0, rfl, seq_new, entI, Nat.zero_le _, by rw [List.length_map]; omega, ?_⟩
    rw [bytes_some hl]
    cases hr0 : readN (l.map some) 0 with
    | num n e =>
      rw [hr0] at k
      intro t H' sm nt ht
      exact ⟨_, rfl, k t H' (s1.trans sm) (s1.free nt) ht⟩
    | wrong i =>
      rw [hr0] at k
      intro d H' nd sm hd
      exact ⟨true, exm_own s_SBE_B h_SBE t_SBE s_W_SBE, fun _ a' na => k H' (s1.trans sm), fun q => Bool.noConfusion q⟩
    | unf =>
      rw [hr0] at k
      intro d H' nd sm hd
      exact ⟨true, exm_own s_SBE_B h_SBE t_SBE s_U_SBE, fun _ a' na => k H' (s1.trans sm), fun q => Bool.noConfusion q⟩

def spLaw (K : PySem.W.Frag) : Sp := fun vs H Q _ => ∃ (a : Addr) (ns : List Int), vs = [.ref a] ∧ SqL K H a (ns.map V.int) ∧ ns.length ≤ 63 ∧ ∀ H', Q (.bl true) H'
theorem cells_lt (ns : List Int) (c : Int) (h : ns.length ≤ 63) : (if ((cutV (ns.map V.int) none (some c)).length : Int) > 1 then ((cutV (ns.map V.int) none (some c)).length : Int) else 1).toNat ≤ 63 ∧
    -(2 ^ 62) ≤ (if ((cutV (ns.map V.int) none (some c)).length : Int) > 1 then ((cutV (ns.map V.int) none (some c)).length : Int) else 1) ∧ (if ((cutV (ns.map V.int) none (some c)).length : Int) > 1 then ((cutV (ns.map V.int) none (some c)).length : Int) else 1) < 2 ^ 62 := by
  have := cutV_length (ns.map V.int) none (some c)
  rw [List.length_map] at this
  refine ⟨turns_le (by omega) (by decide), ?_, ?_⟩
  · split <;> omega
  · split <;> omega
theorem lt_cast (N M : Nat) : decide ((N : Int) < (M : Int)) = lexN (codeN N) (codeN M) := by
  rw [lex_code]
  by_cases h : N < M
  · rw [decide_eq_true h, decide_eq_true (by omega)]
  · rw [decide_eq_false h, decide_eq_false (by omega)]
theorem eq_cast (N M : Nat) : decide (V.int (N : Int) = V.int (M : Int)) = PyData.eqv (.list ((codeN N).map dN)) (.list ((codeN M).map dN)) := by
  show _ = PyData.eqvAll _ _
  rw [eqv_nums]
  by_cases h : N = M
  · subst h
    rw [decide_eq_true rfl, decide_eq_true rfl]
  · rw [decide_eq_false (fun z => h (by have := V.int.inj z; omega)), decide_eq_false (fun z => h (code_inj z))]
theorem eqv_ne {l m : List Nat} (h : l ≠ m) : PyData.eqv (.list (l.map dN)) (.list (m.map dN)) = false := by
  show PyData.eqvAll _ _ = false
  rw [eqv_nums, decide_eq_false h]
theorem eqv_same (l : List Nat) : PyData.eqv (.list (l.map dN)) (.list (l.map dN)) = true := by
  show PyData.eqvAll _ _ = true
  rw [eqv_nums, decide_eq_true rfl]
abbrev s_law : Stmt := topS 27
theorem sc_law : FnScope ["_law_script", "_law_at", "_law_bag_here", "_law_one", "_law_other", "_law_first", "_law_second", "_law_row", "_law_turn", "_law_found", "_law_k"] ["_law_script"] (defScope s_law) := ⟨rfl, rfl, rfl, by decide +kernel, rfl, by decide +kernel, by decide +kernel⟩
theorem ok_law {f : Addr} {fd : FuncData} (F : Fun K "law" "law" s_law f fd) (m_range : mg "range" = none) (m_max : mg "max" = none) (m_len : mg "len" = none) (m_int : mg "int" = none) (m_isinstance : mg "isinstance" = none) (m_tuple : mg "tuple" = none) (m_all : mg "all" = none) {f__law_bag : Addr} {fd__law_bag : FuncData} (G__law_bag : Told P w K mg base CX0 1 f__law_bag fd__law_bag ["_law_script", "_law_at"] (spBag K)) (b__law_bag : Binds K fd__law_bag ["_law_script", "_law_at"] []) (g__law_bag : mg "_law_bag" = some (.ref f__law_bag)) (k__law_bag : PySem.W.keepIn K (.ref f__law_bag) = true) {f__law_number : Addr} {fd__law_number : FuncData} (G__law_number : Told P w K mg base CX0 3 f__law_number fd__law_number ["_law_bag_here"] spNumber) (b__law_number : Binds K fd__law_number ["_law_bag_here"] []) (g__law_number : mg "_law_number" = some (.ref f__law_number)) (k__law_number : PySem.W.keepIn K (.ref f__law_number) = true) {f__law_take : Addr} {fd__law_take : FuncData} (G__law_take : Told P w K mg base CX0 1 f__law_take fd__law_take ["_law_bag_here", "_law_many"] spTake) (b__law_take : Binds K fd__law_take ["_law_bag_here", "_law_many"] []) (g__law_take : mg "_law_take" = some (.ref f__law_take)) (k__law_take : PySem.W.keepIn K (.ref f__law_take) = true) {f_number_code : Addr} {fd_number_code : FuncData} (G_number_code : Told P w K mg base (L2.CX P w) 3 f_number_code fd_number_code ["number"] (spNumCode K c_BadNumber)) (b_number_code : Binds K fd_number_code ["number"] []) (g_number_code : mg "number_code" = some (.ref f_number_code)) (k_number_code : PySem.W.keepIn K (.ref f_number_code) = true) {f__law_of : Addr} {fd__law_of : FuncData} (G__law_of : Told P w K mg base CX0 2 f__law_of fd__law_of ["_law_bag_here", "_law_some"] (spOf K)) (b__law_of : Binds K fd__law_of ["_law_bag_here", "_law_some"] []) (g__law_of : mg "_law_of" = some (.ref f__law_of)) (k__law_of : PySem.W.keepIn K (.ref f__law_of) = true) {f__law_read : Addr} {fd__law_read : FuncData} (G__law_read : Told P w K mg base CX0 7 f__law_read fd__law_read ["_law_row"] (spRead K)) (b__law_read : Binds K fd__law_read ["_law_row"] []) (g__law_read : mg "_law_read" = some (.ref f__law_read)) (k__law_read : PySem.W.keepIn K (.ref f__law_read) = true) : Told P w K mg base CX0 8 f fd ["_law_script"] (spLaw K) := by
  refine told F sc_law (fun vs H Q E h => ?_) (fun cdv A outer s H vs Q E clr hr h => ?_)
  · obtain ⟨a, ns, rfl, hS, h63, k⟩ := h
    rfl
  · obtain ⟨a, ns, rfl, hS, h63, k⟩ := h
    refine ⟨_, (pss_cons (ps_for PassesOwn.never rfl (pi_range1 (by rfl) m_range (pa_cons (pe_callB (call_max2 rfl) (by rfl) m_max (by decide +kernel) (pa_cons pe_int (pa_cons (pe_callB call_len_seq (by rfl) m_len PySem.boot_len (pa_cons (pe_slice sl_list (pv 0) po_none (po_some pe_int)) pa_nil)) pa_nil))) pa_nil)) (pg_name (i := 1) sc_law.nd rfl (Or.inl rfl))
    (pss_cons (ps_set (i := 2) sc_law.nd rfl (Or.inl rfl) (pe_told G__law_bag clr (hr.mono (by decide)) (by rfl) g__law_bag k__law_bag b__law_bag .nil pass0 (pa_cons (pv 0) (pa_cons (pv 1) pa_nil))))
    (pss_cons (ps_par (i := 3) (j := 4) (by rfl) sc_law.nd rfl rfl (by decide) rfl rfl (pa_cons (pe_told G__law_number clr (hr.mono (by decide)) (by rfl) g__law_number k__law_number b__law_number .nil pass0 (pa_cons (pv 2) pa_nil)) (pa_cons (pe_told G__law_number clr (hr.mono (by decide)) (by rfl) g__law_number k__law_number b__law_number .nil pass0 (pa_cons (pv 2) pa_nil)) pa_nil)) (by rfl))
    (pss_cons (ps_if (pt_cmpR op_eq (pe_told G__law_take clr (hr.mono (by decide)) (by rfl) g__law_take k__law_take b__law_take .nil pass0 (pa_cons (pv 2) (pa_cons pe_int pa_nil))) pe_int (nomark _))
    (pss_one (ps_set (i := 4) sc_law.nd rfl (Or.inl rfl) (pe_op op_mod (pe_callTy call_int1 (by rfl) m_int (by decide +kernel) (pa_cons (pe_op op_add (pe_op op_add (pv 3) pe_int) (pe_told G__law_take clr (hr.mono (by decide)) (by rfl) g__law_take k__law_take b__law_take .nil pass0 (pa_cons (pv 2) (pa_cons pe_int pa_nil)))) pa_nil)) (pe_op op_pow pe_int pe_int))))
    pss_nil)
    (pss_cons (ps_par (i := 5) (j := 6) (by rfl) sc_law.nd rfl rfl (by decide) rfl rfl (pa_cons (pe_told (E := E0) G_number_code clr (hr.mono (by decide)) (by rfl) g_number_code k_number_code b_number_code .nil passL (pa_cons (pv 3) pa_nil)) (pa_cons (pe_told (E := E0) G_number_code clr (hr.mono (by decide)) (by rfl) g_number_code k_number_code b_number_code .nil passL (pa_cons (pv 4) pa_nil)) pa_nil)) (by rfl))
    (pss_cons (ps_if (PW.pt (pw_or (pt_cmpR op_ne (pe_cmpR op_lt (pv 3) (pv 4) (nomark _)) (pe_cmpR (op_ltN hr.units) (pv 5) (pv 6) (nomark _)) (nomark _)) (pw_or1 (pt_cmpR op_ne (pe_cmpR op_eq (pv 3) (pv 4) (nomark _)) (pe_cmpR (op_eqD hr.units) (pv 5) (pv 6) (nomark _)) (nomark _)))))
    (pss_one (ps_ret pe_bl))
    pss_nil)
    (pss_cons (ps_if (PW.pt (pw_and (pt_cmpR op_ne (pv 3) (pv 4) (nomark _)) (pw_and1 (PW.pt (pw_or (pt_cmpR (op_eqD hr.units) (pv 5) (pe_slice sl_list (pv 6) po_none (po_some (pe_callB call_len_seq (by rfl) m_len PySem.boot_len (pa_cons (pv 5) pa_nil)))) (nomark _)) (pw_or1 (pt_cmpR (op_eqD hr.units) (pv 6) (pe_slice sl_list (pv 5) po_none (po_some (pe_callB call_len_seq (by rfl) m_len PySem.boot_len (pa_cons (pv 6) pa_nil)))) (nomark _))))))))
    (pss_one (ps_ret pe_bl))
    pss_nil)
    (pss_cons (ps_set (i := 7) sc_law.nd rfl (Or.inr rfl) (pe_lst (pa_cons (pe_told G__law_of clr (hr.mono (by decide)) (by rfl) g__law_of k__law_of b__law_of .nil pass0 (pa_cons (pv 2) (pa_cons (pe_lst (pa_cons pe_int (pa_cons pe_int (pa_cons pe_int (pa_cons pe_int (pa_cons pe_int (pa_cons pe_int (pa_cons pe_int (pa_cons (pe_told G__law_take clr (hr.mono (by decide)) (by rfl) g__law_take k__law_take b__law_take .nil pass0 (pa_cons (pv 2) (pa_cons pe_int pa_nil))) pa_nil))))))))) pa_nil))) pa_nil)))
    (pss_cons (ps_for PassesOwn.never rfl (pi_range1 (by rfl) m_range (pa_cons (pe_told G__law_take clr (hr.mono (by decide)) (by rfl) g__law_take k__law_take b__law_take .nil pass0 (pa_cons (pv 2) (pa_cons pe_int pa_nil))) pa_nil)) (pg_name (i := 8) sc_law.nd rfl (Or.inl rfl))
    (pss_one (ps_expr (pe_bm PySem.F.plainAttrs_list PySem.F.slot_list_append PySem.F.type_list_append mt_append (pv 7) (pa_cons (pe_told G__law_of clr (hr.mono (by decide)) (by rfl) g__law_of k__law_of b__law_of .nil pass0 (pa_cons (pv 2) (pa_cons (pe_lst (pa_cons pe_int (pa_cons pe_int (pa_cons pe_int (pa_cons pe_int (pa_cons pe_int (pa_cons (pe_told G__law_take clr (hr.mono (by decide)) (by rfl) g__law_take k__law_take b__law_take .nil pass0 (pa_cons (pv 2) (pa_cons pe_int pa_nil))) pa_nil))))))) pa_nil))) pa_nil)))))
    (pss_cons (ps_set (i := 9) sc_law.nd rfl (Or.inl rfl) (pe_told G__law_read clr (hr.mono (by decide)) (by rfl) g__law_read k__law_read b__law_read .nil pass0 (pa_cons (pv 7) pa_nil)))
    (pss_one (ps_if (pt_cmpR op_notN (pv 9) pe_non (nomark _))
    (pss_cons (ps_if (PW.pt (pw_or (pt_not (pt_val (pe_callB call_isi (by rfl) m_isinstance (by decide +kernel) (pa_cons (pv 9) (pa_cons (pe_bltn (by rfl) m_tuple (by decide +kernel) (show RelV (.ty "tuple") (.type "tuple") from rfl)) pa_nil))))) (pw_or (pt_cmpR op_ne (pe_callB call_len_seq (by rfl) m_len PySem.boot_len (pa_cons (pv 9) pa_nil)) pe_int (nomark _)) (pw_or1 (pt_cmpR (op_neD hr.units) (pe_told (E := E0) G_number_code clr (hr.mono (by decide)) (by rfl) g_number_code k_number_code b_number_code .nil passL (pa_cons (pe_ix ix_tup (pv 9) pe_int (fun _ _ => rfl)) pa_nil)) (pe_slice sl_list (pv 7) po_none (po_some (pe_ix ix_tup (pv 9) pe_int (fun _ _ => rfl)))) (nomark _))))))
    (pss_one (ps_ret pe_bl))
    pss_nil)
    (pss_one (ps_if (pt_not (pt_val (pe_callB (cr_all rfl) (by rfl) m_all (by decide +kernel) (pa_cons (pe_lc (own := [("_law_k", 10)]) (g := gName 10) (tt := tYes) rfl sc_law.nd (pi_range1 (by rfl) m_range (pa_cons (pe_ix ix_tup (pv 9) pe_int (fun _ _ => rfl)) pa_nil)) (blkOk_by (N := ["_law_script", "_law_at", "_law_bag_here", "_law_one", "_law_other", "_law_first", "_law_second", "_law_row", "_law_turn", "_law_found", "_law_k"]) (sc := defScope s_law) (by decide +kernel)) (fun _ _ _ _ _ => pg_name (i := 10) sc_law.nd rfl (Or.inl rfl)) (fun _ _ _ _ _ => pts_nil) (fun _ _ _ _ _ => (pe_cmpR op_isN (pe_told G__law_read clr (hr.mono (by decide)) (by rfl) g__law_read k__law_read b__law_read .nil pass0 (pa_cons (pe_slice sl_listB (pv 7) po_none (po_some (pv 10))) pa_nil)) pe_non (nomark _)))) pa_nil))))
    (pss_one (ps_ret pe_bl))
    pss_nil)))
    pss_nil))))))))))))
    (pss_one (ps_ret pe_bl))), ?_⟩
    refine ⟨_, rfl, _, rfl, a, _, rfl, hS, fun c nc => ?_⟩
    have hS1 : SqL K (upd H c (.lst (cutV (ns.map V.int) none (some 12)))) a (ns.map V.int) := (same_new nc).seq hS
    obtain ⟨ht, hlo, hhi⟩ := cells_lt ns 12 h63
    refine ⟨c, _, rfl, .inl seq_new, _, _, rfl, _, rfl, hlo, hhi, ?_⟩
    generalize hM : (if ((cutV (ns.map V.int) none (some 12)).length : Int) > 1 then ((cutV (ns.map V.int) none (some 12)).length : Int) else 1).toNat = T at ht
    refine for_range (lo := 0) (n := T) (fun i σ H' => ∃ y1 y2 y3 y4 y5 y6 y7 y8 y9 y10, σ = [some (.ref a), y1, y2, y3, y4, y5, y6, y7, y8, y9, y10] ∧ SqL K H' a (ns.map V.int)) ⟨_, _, _, _, _, _, _, _, _, _, rfl, hS1⟩ ?_ ?_
    · rintro i σ H' hi ⟨y1, y2, y3, y4, y5, y6, y7, y8, y9, y10, rfl, hSi⟩
      refine ⟨_, rfl, _, rfl, a, ns, i, ?_, hSi, by omega, fun p H1 sm np B => ?_⟩
      · rw [Int.zero_add]
        rfl
      refine ⟨_, rfl, p, 0, rfl, B, by omega, fun N H2 hN b2 B2 => ?_⟩
      refine ⟨_, rfl, p, 70, rfl, B2, by omega, fun N2 H3 hN2 b3 B3 => ?_⟩
      refine ⟨_, _, rfl, ?_⟩
      have b23 := b2.trans b3
      have bigN : (256 : Nat) ^ 63 = 52374249726338269920211035149241586435466272736689036631732661889538140742474792878132321477214466514414186946040961136147476104734166288853256441430016 := by decide +kernel
      dsimp only
      refine seq_all (fun σ' H4 => ∃ M : Nat, M < 256 ^ 63 ∧ But p H1 H4 ∧ BagAt H4 p 150 ∧ σ' = [some (.ref a), some (.int (0 + (i : Int))), some (.ref p), some (.int (N : Int)), some (.int (M : Int)), y5, y6, y7, y8, y9, y10]) (fun W' w' => ?_) ?_
      · refine ⟨_, rfl, p, 3, 140, rfl, B3, by omega, by decide, by decide, fun r H4 hr3 b4 B4 => ⟨rfl, _, rfl, ite2 (fun _ => ?_) (fun _ => ?_)⟩⟩
        · refine ⟨_, rfl, _, _, rfl, rfl, _, rfl, p, 3, 141, rfl, B4, by omega, by decide, by decide, fun r2 H5 hr4 b5 B5 => ?_⟩
          refine ⟨_, _, rfl, rfl, .inl ⟨_, rfl, _, _, rfl, rfl, ⟨by decide, by decide, by decide⟩, _, _, rfl, rfl, (show (0 : Int) < 256 ^ (63 : Int).toNat by decide +kernel), ?_⟩⟩
          refine w' _ _ ⟨(N + 1 + r2) % 256 ^ 63, Nat.mod_lt _ (by decide +kernel), (b23.trans b4).trans b5, B5.mono (by omega), ?_⟩
          have e : ((N : Int) + 1 + (r2 : Int)) % 256 ^ (63 : Int).toNat = (((N + 1 + r2) % 256 ^ 63 : Nat) : Int) := by
            rw [Int.natCast_emod]
            have e2 : (256 : Int) ^ (63 : Int).toNat = ((256 ^ 63 : Nat) : Int) := by decide +kernel
            rw [e2]
            rfl
          show List.set _ _ _ = _
          dsimp only
          rw [e]
          rfl
        · exact w' _ _ ⟨N2, hN2, b23.trans b4, B4.mono (by omega), rfl⟩
      · rintro σ' H4 ⟨M, hMb, b4, B4, rfl⟩
        refine ⟨_, rfl, _, rfl, .inl ⟨N, rfl, hN, fun f H5 s5 nf hf => ⟨_, rfl, _, rfl, .inl ⟨M, rfl, hMb, fun g H6 s6 ng hg => ?_⟩⟩⟩⟩
        refine ⟨_, _, rfl, ?_⟩
        have hf6 := s6 _ _ hf
        have b6 := (b4.same s5).same s6
        have B6 := (B4.same s5).same s6
        have shN := shaped_nums (codeN N)
        have shM := shaped_nums (codeN M)
        refine ⟨_, rfl, _, rfl, _, _, rfl, rfl, _, rfl, _, rfl, f, g, codeN N, codeN M, rfl, rfl, seq_of hf6, seq_of hg, rfl, _, rfl, iteNS (congrArg V.bl (lt_cast N M)) ?_⟩
        refine ⟨_, rfl, _, rfl, rfl, _, rfl, _, rfl, _, _, .lst (seq_of hf6) (dp_nums' _), .lst (seq_of hg) (dp_nums' _), shN, shM, rfl, _, rfl, iteNS (congrArg V.bl (eq_cast N M)) ?_⟩
        unfold tNext
        dsimp only
        refine seq_all (fun σ' H7 => σ' = [some (.ref a), some (.int (0 + (i : Int))), some (.ref p), some (.int (N : Int)), some (.int (M : Int)), some (.ref f), some (.ref g), y7, y8, y9, y10] ∧ Same H6 H7) (fun W' w' => ?_) ?_
        · by_cases eNM : N = M
          · refine ⟨_, rfl, _, rfl, rfl, _, rfl, iteNS (by rw [eNM]) (iteF (w' _ _ ⟨rfl, Same.refl _⟩))⟩
          · have hne : (!decide (V.int (N : Int) = V.int (M : Int))) = true := by
              rw [decide_eq_false (fun z => eNM (by have := V.int.inj z; omega))]
              rfl
            refine ⟨_, rfl, _, rfl, rfl, _, rfl, ?_⟩
            rw [hne]
            refine iteT ?_
            refine ⟨_, rfl, _, rfl, _, rfl, f, _, rfl, .inl (seq_of hf6), _, rfl, g, _, rfl, seq_of hg, fun u nu => ?_⟩
            have e1 : cutV ((codeN M).map vN) none (some (((codeN N).map vN).length : Int)) = ((codeN M).take (codeN N).length).map vN := by
              rw [List.length_map]
              exact cut_take _ _
            rw [e1]
            have s7 := same_new (o := .lst (((codeN M).take (codeN N).length).map vN)) nu
            refine ⟨.list ((codeN N).map dN), .list (((codeN M).take (codeN N).length).map dN), .lst (seq_of (s7 _ _ hf6)) (dp_nums' _), .lst seq_new (dp_nums' _), shN, shaped_nums _, _, rfl, ?_⟩
            rw [eqv_ne (fun z => eNM (code_free z))]
            refine iteF ?_
            refine ⟨_, rfl, _, rfl, _, rfl, g, _, rfl, .inl (seq_of (s7 _ _ hg)), _, rfl, f, _, rfl, seq_of (s7 _ _ hf6), fun u2 nu2 => ?_⟩
            have e2 : cutV ((codeN N).map vN) none (some (((codeN M).map vN).length : Int)) = ((codeN N).take (codeN M).length).map vN := by
              rw [List.length_map]
              exact cut_take _ _
            rw [e2]
            have s8 := same_new (o := .lst (((codeN N).take (codeN M).length).map vN)) nu2
            refine ⟨.list ((codeN M).map dN), .list (((codeN N).take (codeN M).length).map dN), .lst (seq_of (s8 _ _ (s7 _ _ hg))) (dp_nums' _), .lst seq_new (dp_nums' _), shM, shaped_nums _, _, rfl, ?_⟩
            rw [eqv_ne (fun z => eNM (code_free z).symm)]
            exact iteF (w' _ _ ⟨rfl, s7.trans s8⟩)
        · rintro σ' H7 ⟨rfl, s7⟩
          have b7 := b6.same s7
          have B7 := B6.same s7
          -- the row
          refine ⟨_, rfl, _, rfl, p, 256, 150, rfl, B7, by omega, by decide, by decide, fun r H8 hr8 b8 B8 => ⟨sz (show 8 ≤ 1000000 by decide), fun l0 nl0 => ?_⟩⟩
          have s9 := same_new (o := .lst [.int 0, .int 5, .int 191, .int 192, .int 193, .int 194, .int 198, .int (r : Int)]) nl0
          refine ⟨p, l0, 151, _, rfl, B8.same s9, by omega, seq_new, bag_ne B8 nl0, (show 0 < 8 by decide), (show 8 ≤ 1000000 by decide), fun j v H10 hv b10 B10 => ?_⟩
          have told : ∃ d : Nat, v = vN d ∧ d < 256 := by
            have hm := List.mem_of_getElem? hv
            simp only [List.mem_cons, List.not_mem_nil, or_false] at hm
            rcases hm with rfl | rfl | rfl | rfl | rfl | rfl | rfl | rfl
            · exact ⟨0, rfl, by decide⟩
            · exact ⟨5, rfl, by decide⟩
            · exact ⟨191, rfl, by decide⟩
            · exact ⟨192, rfl, by decide⟩
            · exact ⟨193, rfl, by decide⟩
            · exact ⟨194, rfl, by decide⟩
            · exact ⟨198, rfl, by decide⟩
            · exact ⟨r, rfl, hr8⟩
          obtain ⟨d0, rfl, hd0⟩ := told
          refine ⟨sz (show 1 ≤ 1000000 by decide), fun w nw => ?_⟩
          have s11 := same_new (o := .lst [vN d0]) nw
          have b11 := (((b7.trans b8).same s9).trans b10).same s11
          have B11 := B10.same s11
          have neW : w ≠ p := bag_ne B10 nw
          have nw1 : H1 w = none := But.free (((b7.trans b8).same s9).trans b10) nw neW
          refine ⟨_, rfl, p, 8, 152, rfl, B11, by omega, by decide, by decide, fun m H12 hm8 b12 B12 => ?_⟩
          refine ⟨_, rfl, by omega, by omega, ?_⟩
          rw [Int.toNat_natCast]
          refine for_range (lo := 0) (n := m) (fun j σ H' => ∃ (l : List Nat) (z : Option V), σ = [some (.ref a), some (.int (0 + (i : Int))), some (.ref p), some (.int (N : Int)), some (.int (M : Int)), some (.ref f), some (.ref g), some (.ref w), z, y9, y10] ∧
            But p H1 H' ∧ BagAt H' p (153 + 2 * j) ∧ H' w = some (.lst (l.map vN)) ∧ (∀ d ∈ l, d < 256) ∧ l.length = j + 1)
            ⟨[d0], _, rfl, b11.trans b12, B12.mono (by omega), b12 _ _ neW upd_same, fun d hd => by rw [List.mem_singleton] at hd; omega, rfl⟩ ?_ ?_
          · rintro j σ H13 hj ⟨l, z, rfl, b13, B13, hw, hd, hl⟩
            refine ⟨_, rfl, .inl ⟨rfl, _, seq_of hw⟩, _, rfl, _, rfl, p, 256, 153 + 2 * j, rfl, B13, by omega, by decide, by decide, fun r2 H14 hr14 b14 B14 => ⟨sz (show 6 ≤ 1000000 by decide), fun l1 nl1 => ?_⟩⟩
            have s15 := same_new (o := .lst [.int 0, .int 1, .int 191, .int 192, .int 255, .int (r2 : Int)]) nl1
            refine ⟨p, l1, 154 + 2 * j, _, rfl, (B14.same s15).mono (by omega), by omega, seq_new, bag_ne B14 nl1, (show 0 < 6 by decide), (show 6 ≤ 1000000 by decide), fun j2 v2 H16 hv2 b16 B16 => ?_⟩
            have told2 : ∃ d : Nat, v2 = vN d ∧ d < 256 := by
              have hm := List.mem_of_getElem? hv2
              simp only [List.mem_cons, List.not_mem_nil, or_false] at hm
              rcases hm with rfl | rfl | rfl | rfl | rfl | rfl
              · exact ⟨0, rfl, by decide⟩
              · exact ⟨1, rfl, by decide⟩
              · exact ⟨191, rfl, by decide⟩
              · exact ⟨192, rfl, by decide⟩
              · exact ⟨255, rfl, by decide⟩
              · exact ⟨r2, rfl, hr14⟩
            obtain ⟨d2, rfl, hd2⟩ := told2
            have b36 := (b14.same s15).trans b16
            have hw16 := b36 _ _ neW hw
            refine ⟨w, _, _, rfl, rfl, hw16, sz_lt (by rw [List.length_map]; omega), l ++ [d2], _, rfl, But.mut (But.refl p H1) nw1 (b13.trans b36), ?_, ?_, ?_, ?_⟩
            · obtain ⟨x1, x2, x3, hb, hr⟩ := B16
              refine BagAt.mono (n := 154 + 2 * j + 1) ⟨x1, x2, x3, ?_, hr⟩ (by omega)
              rw [upd_ne (Ne.symm neW)]
              exact hb
            · rw [upd_same, List.map_append]
              rfl
            · intro x hx
              rcases List.mem_append.mp hx with q | q
              · exact hd x q
              · rw [List.mem_singleton] at q
                omega
            · rw [List.length_append, hl]
              rfl
          · rintro σ H13 ⟨l, z, rfl, b13, B13, hw, hd, hl⟩
            refine ⟨_, rfl, w, l, rfl, seq_of hw, hd, by omega, ?_⟩
            have done : ∀ Hx, Same H13 Hx → SqL K Hx a (ns.map V.int) := fun Hx sx => seq_but hSi np sm (b13.same sx)
            cases hr0 : readN (l.map some) 0 with
            | wrong i0 => exact fun H' sx => ⟨_, rfl, rfl, _, rfl, iteNS rfl ⟨_, _, _, _, _, _, _, _, _, _, rfl, done H' sx⟩⟩
            | unf => exact fun H' sx => ⟨_, rfl, rfl, _, rfl, iteNS rfl ⟨_, _, _, _, _, _, _, _, _, _, rfl, done H' sx⟩⟩
            | num n e =>
              obtain ⟨hn, hcode, hel, hshort⟩ := read_code hd hr0
              intro t H14 s14 nt ht
              have dT : (!decide (V.ref t = V.non)) = true := by
                rw [decide_eq_false (fun z => nomatch z)]
                rfl
              refine ⟨_, rfl, rfl, _, rfl, ?_⟩
              rw [dT]
              refine iteT ?_
              have hwT := s14 _ _ hw
              have tT : SqT K H14 t [.int (n : Int), .int (e : Int)] := .inl (.inl ht)
              refine ⟨_, rfl, _, _, _, _, _, rfl, .ty "tuple", .base (.tup ht), kit_ty (b := "tuple") (r := true) (by decide +kernel), _, rfl, iteF ?_⟩
              refine ⟨_, rfl, t, _, rfl, .inr tT, rfl, _, rfl, iteNS rfl ?_⟩
              refine ⟨_, rfl, t, _, _, _, rfl, rfl, tT, rfl, _, rfl, .inl ⟨n, rfl, hn, fun q H15 s15 nq hq => ?_⟩⟩
              have tT2 : SqT K H15 t [.int (n : Int), .int (e : Int)] := .inl (.inl (s15 _ _ ht))
              have hw15 := s15 _ _ hwT
              refine ⟨_, rfl, _, rfl, t, _, _, _, rfl, rfl, tT2, rfl, _, rfl, w, _, rfl, seq_of hw15, fun u nu => ?_⟩
              have e3 : cutV (l.map vN) none (some (e : Int)) = (l.take e).map vN := cut_take l e
              rw [e3, ← hcode]
              have s16 := same_new (o := .lst ((codeN n).map vN)) nu
              refine ⟨.list ((codeN n).map dN), .list ((codeN n).map dN), .lst (seq_of (s16 _ _ hq)) (dp_nums' _), .lst seq_new (dp_nums' _), shaped_nums _, shaped_nums _, _, rfl, ?_⟩
              rw [eqv_same]
              refine iteF ?_
              have tT3 : SqT K (upd H15 u (.lst ((codeN n).map vN))) t [.int (n : Int), .int (e : Int)] := .inl (.inl (s16 _ _ (s15 _ _ ht)))
              have hw16 := s16 _ _ hw15
              refine ⟨_, rfl, t, _, _, _, rfl, rfl, tT3, rfl, _, rfl, by omega, by omega, fun D nD => ?_⟩
              rw [Int.toNat_natCast]
              refine lc_range (lo := 0) (n := e) (fun j H' => Same (upd H15 u (.lst ((codeN n).map vN))) H' ∧ H' D = some (.lst ((List.replicate j true).map V.bl))) ⟨same_new nD, upd_same⟩ ?_ ?_
              · rintro j H17 hj ⟨sx, hD⟩
                refine ⟨rfl, ?_⟩
                refine ⟨_, rfl, _, rfl, _, rfl, w, _, rfl, seq_of (sx _ _ hw16), fun u2 nu2 => ?_⟩
                have e4 : cutV (l.map vN) none (some (0 + (j : Int))) = (l.take j).map vN := by
                  rw [Int.zero_add]
                  exact cut_take l j
                rw [e4]
                have s18 := same_new (o := .lst ((l.take j).map vN)) nu2
                refine ⟨u2, l.take j, rfl, seq_new, fun d hdm => hd d (List.mem_of_mem_take hdm), by rw [List.length_take]; omega, ?_⟩
                rw [hshort j hj]
                intro H18 s19
                have hD18 := s19 _ _ (s18 _ _ hD)
                refine ⟨rfl, _, hD18, sz_lt (by rw [List.length_map, List.length_replicate]; omega), ?_, ?_⟩
                · intro b o z
                  have nb : b ≠ D := ne_of_none z nD
                  rw [upd_ne nb]
                  exact s19 _ _ (s18 _ _ (sx b o z))
                · rw [upd_same, List.replicate_succ', List.map_append]
                  rfl
              · rintro H17 ⟨sx, hD⟩
                refine ⟨D, List.replicate e true, rfl, seq_of hD, _, rfl, ?_⟩
                have hall : (List.replicate e true).all id = true := by simp
                rw [hall]
                exact iteF ⟨_, _, _, _, _, _, _, _, _, _, rfl, done H17 (((s14.trans s15).trans s16).trans sx)⟩
    · rintro σ H' ⟨y1, y2, y3, y4, y5, y6, y7, y8, y9, y10, rfl, hSi⟩
      exact k H'
end

theorem all_mk {l : PySem.W.OpenLaw} {w : World} {K : PySem.W.Frag} {h : Heap} {mg : Str → Option Value} {fa f__law_bag f__law_take f__law_of f__law_number f_is_int f_is_number f_base_256 f_number_code f_is_byte f_least_second f_byte_at f_digit_at f_code_size f_code_at f_number_at f__law_read f_law c_ShortestBytesError c_BadNumber N_BadNumber fI_BadNumber c_Unfinished N_Unfinished fI_Unfinished c_WrongByte N_WrongByte fI_WrongByte : Addr} (X : K.In h) (G : h.Ns mainGlobals mg) (hfa : mg "law" = some (.ref fa))
    {od__law_bag an__law_bag od__law_take an__law_take od__law_of an__law_of od__law_number an__law_number od_is_int an_is_int od_is_number an_is_number od_base_256 an_base_256 od_number_code an_number_code od_is_byte an_is_byte od_least_second an_least_second od_byte_at an_byte_at od_digit_at an_digit_at od_code_size an_code_size od_code_at an_code_at od_number_at an_number_at od__law_read an__law_read od_law an_law odI_BadNumber anI_BadNumber dd_BadNumber odI_Unfinished anI_Unfinished dd_Unfinished odI_WrongByte anI_WrongByte dd_WrongByte : Option Addr} {sl__law_bag sl__law_take sl__law_of sl__law_number sl_is_int sl_is_number sl_base_256 sl_number_code sl_is_byte sl_least_second sl_byte_at sl_digit_at sl_code_size sl_code_at sl_number_at sl__law_read sl_law slI_BadNumber slI_Unfinished slI_WrongByte : Array (Option Value)} {oc__law_bag kV__law_bag dc__law_bag pm__law_bag cd__law_bag ct__law_bag oc__law_take kV__law_take dc__law_take pm__law_take cd__law_take ct__law_take oc__law_of kV__law_of dc__law_of pm__law_of cd__law_of ct__law_of oc__law_number kV__law_number dc__law_number pm__law_number cd__law_number ct__law_number oc_is_int kV_is_int dc_is_int pm_is_int cd_is_int ct_is_int oc_is_number kV_is_number dc_is_number pm_is_number cd_is_number ct_is_number oc_base_256 kV_base_256 dc_base_256 pm_base_256 cd_base_256 ct_base_256 oc_number_code kV_number_code dc_number_code pm_number_code cd_number_code ct_number_code oc_is_byte kV_is_byte dc_is_byte pm_is_byte cd_is_byte ct_is_byte oc_least_second kV_least_second dc_least_second pm_least_second cd_least_second ct_least_second oc_byte_at kV_byte_at dc_byte_at pm_byte_at cd_byte_at ct_byte_at oc_digit_at kV_digit_at dc_digit_at pm_digit_at cd_digit_at ct_digit_at oc_code_size kV_code_size dc_code_size pm_code_size cd_code_size ct_code_size oc_code_at kV_code_at dc_code_at pm_code_at cd_code_at ct_code_at oc_number_at kV_number_at dc_number_at pm_number_at cd_number_at ct_number_at oc__law_read kV__law_read dc__law_read pm__law_read cd__law_read ct__law_read oc_law kV_law dc_law pm_law cd_law ct_law ocI_BadNumber kVI_BadNumber dcI_BadNumber pmI_BadNumber cdI_BadNumber ctI_BadNumber ocI_Unfinished kVI_Unfinished dcI_Unfinished pmI_Unfinished cdI_Unfinished ctI_Unfinished ocI_WrongByte kVI_WrongByte dcI_WrongByte pmI_WrongByte cdI_WrongByte ctI_WrongByte : Value} {t_MOST t_FIRST_LONG t_LONG t_LAST_FIRST : Tok} {nm_BadNumber q_BadNumber : Str} {bs_BadNumber bm_BadNumber : List Value} {sn_BadNumber : List Str} {sub_BadNumber : List Value} {ab_BadNumber : Bool} {col_BadNumber : Option Bool} {k0_BadNumber k1_BadNumber k2_BadNumber k3_BadNumber k5_BadNumber : Option Value} {nm_Unfinished q_Unfinished : Str} {bs_Unfinished bm_Unfinished : List Value} {sn_Unfinished : List Str} {sub_Unfinished : List Value} {ab_Unfinished : Bool} {col_Unfinished : Option Bool} {k0_Unfinished k1_Unfinished k2_Unfinished k3_Unfinished k5_Unfinished : Option Value} {nm_WrongByte q_WrongByte : Str} {bs_WrongByte bm_WrongByte : List Value} {sn_WrongByte : List Str} {sub_WrongByte : List Value} {ab_WrongByte : Bool} {col_WrongByte : Option Bool} {k0_WrongByte k1_WrongByte k2_WrongByte k3_WrongByte k5_WrongByte : Option Value} {dT_number_at : Addr} {ocD_number_at : Value} {odD_number_at : Option Addr} {nD_number_at : Nat} {slD_number_at : Array (Option Value)} {tD0_number_at : Tok}
    (a__law_bag : PySem.W.nsIn K mainGlobals "_law_bag" = some (some (.ref f__law_bag))) (l__law_bag : K.lookup f__law_bag = some ⟨oc__law_bag, od__law_bag, .func (PySem.W.fnOf "_law_bag" "_law_bag" (defArgs s__law_bag) (defBody s__law_bag) (defScope s__law_bag) .none kV__law_bag dc__law_bag pm__law_bag an__law_bag cd__law_bag ct__law_bag), sl__law_bag⟩) (c__law_bag : PySem.W.codeIn K cd__law_bag "_law_bag" = true) (k__law_bag : PySem.W.keepIn K (.ref f__law_bag) = true)
    (a__law_take : PySem.W.nsIn K mainGlobals "_law_take" = some (some (.ref f__law_take))) (l__law_take : K.lookup f__law_take = some ⟨oc__law_take, od__law_take, .func (PySem.W.fnOf "_law_take" "_law_take" (defArgs s__law_take) (defBody s__law_take) (defScope s__law_take) .none kV__law_take dc__law_take pm__law_take an__law_take cd__law_take ct__law_take), sl__law_take⟩) (c__law_take : PySem.W.codeIn K cd__law_take "_law_take" = true) (k__law_take : PySem.W.keepIn K (.ref f__law_take) = true)
    (a__law_of : PySem.W.nsIn K mainGlobals "_law_of" = some (some (.ref f__law_of))) (l__law_of : K.lookup f__law_of = some ⟨oc__law_of, od__law_of, .func (PySem.W.fnOf "_law_of" "_law_of" (defArgs s__law_of) (defBody s__law_of) (defScope s__law_of) .none kV__law_of dc__law_of pm__law_of an__law_of cd__law_of ct__law_of), sl__law_of⟩) (c__law_of : PySem.W.codeIn K cd__law_of "_law_of" = true) (k__law_of : PySem.W.keepIn K (.ref f__law_of) = true)
    (a__law_number : PySem.W.nsIn K mainGlobals "_law_number" = some (some (.ref f__law_number))) (l__law_number : K.lookup f__law_number = some ⟨oc__law_number, od__law_number, .func (PySem.W.fnOf "_law_number" "_law_number" (defArgs s__law_number) (defBody s__law_number) (defScope s__law_number) .none kV__law_number dc__law_number pm__law_number an__law_number cd__law_number ct__law_number), sl__law_number⟩) (c__law_number : PySem.W.codeIn K cd__law_number "_law_number" = true) (k__law_number : PySem.W.keepIn K (.ref f__law_number) = true)
    (a_is_int : PySem.W.nsIn K mainGlobals "is_int" = some (some (.ref f_is_int))) (l_is_int : K.lookup f_is_int = some ⟨oc_is_int, od_is_int, .func (PySem.W.fnOf "is_int" "is_int" (defArgs s_is_int) (defBody s_is_int) (defScope s_is_int) .none kV_is_int dc_is_int pm_is_int an_is_int cd_is_int ct_is_int), sl_is_int⟩) (c_is_int : PySem.W.codeIn K cd_is_int "is_int" = true) (k_is_int : PySem.W.keepIn K (.ref f_is_int) = true)
    (a_is_number : PySem.W.nsIn K mainGlobals "is_number" = some (some (.ref f_is_number))) (l_is_number : K.lookup f_is_number = some ⟨oc_is_number, od_is_number, .func (PySem.W.fnOf "is_number" "is_number" (defArgs s_is_number) (defBody s_is_number) (defScope s_is_number) .none kV_is_number dc_is_number pm_is_number an_is_number cd_is_number ct_is_number), sl_is_number⟩) (c_is_number : PySem.W.codeIn K cd_is_number "is_number" = true) (k_is_number : PySem.W.keepIn K (.ref f_is_number) = true)
    (a_base_256 : PySem.W.nsIn K mainGlobals "base_256" = some (some (.ref f_base_256))) (l_base_256 : K.lookup f_base_256 = some ⟨oc_base_256, od_base_256, .func (PySem.W.fnOf "base_256" "base_256" (defArgs s_base_256) (defBody s_base_256) (defScope s_base_256) .none kV_base_256 dc_base_256 pm_base_256 an_base_256 cd_base_256 ct_base_256), sl_base_256⟩) (c_base_256 : PySem.W.codeIn K cd_base_256 "base_256" = true) (k_base_256 : PySem.W.keepIn K (.ref f_base_256) = true)
    (a_number_code : PySem.W.nsIn K mainGlobals "number_code" = some (some (.ref f_number_code))) (l_number_code : K.lookup f_number_code = some ⟨oc_number_code, od_number_code, .func (PySem.W.fnOf "number_code" "number_code" (defArgs s_number_code) (defBody s_number_code) (defScope s_number_code) .none kV_number_code dc_number_code pm_number_code an_number_code cd_number_code ct_number_code), sl_number_code⟩) (c_number_code : PySem.W.codeIn K cd_number_code "number_code" = true) (k_number_code : PySem.W.keepIn K (.ref f_number_code) = true)
    (a_is_byte : PySem.W.nsIn K mainGlobals "is_byte" = some (some (.ref f_is_byte))) (l_is_byte : K.lookup f_is_byte = some ⟨oc_is_byte, od_is_byte, .func (PySem.W.fnOf "is_byte" "is_byte" (defArgs s_is_byte) (defBody s_is_byte) (defScope s_is_byte) .none kV_is_byte dc_is_byte pm_is_byte an_is_byte cd_is_byte ct_is_byte), sl_is_byte⟩) (c_is_byte : PySem.W.codeIn K cd_is_byte "is_byte" = true) (k_is_byte : PySem.W.keepIn K (.ref f_is_byte) = true)
    (a_least_second : PySem.W.nsIn K mainGlobals "least_second" = some (some (.ref f_least_second))) (l_least_second : K.lookup f_least_second = some ⟨oc_least_second, od_least_second, .func (PySem.W.fnOf "least_second" "least_second" (defArgs s_least_second) (defBody s_least_second) (defScope s_least_second) .none kV_least_second dc_least_second pm_least_second an_least_second cd_least_second ct_least_second), sl_least_second⟩) (c_least_second : PySem.W.codeIn K cd_least_second "least_second" = true) (k_least_second : PySem.W.keepIn K (.ref f_least_second) = true)
    (a_byte_at : PySem.W.nsIn K mainGlobals "byte_at" = some (some (.ref f_byte_at))) (l_byte_at : K.lookup f_byte_at = some ⟨oc_byte_at, od_byte_at, .func (PySem.W.fnOf "byte_at" "byte_at" (defArgs s_byte_at) (defBody s_byte_at) (defScope s_byte_at) .none kV_byte_at dc_byte_at pm_byte_at an_byte_at cd_byte_at ct_byte_at), sl_byte_at⟩) (c_byte_at : PySem.W.codeIn K cd_byte_at "byte_at" = true) (k_byte_at : PySem.W.keepIn K (.ref f_byte_at) = true)
    (a_digit_at : PySem.W.nsIn K mainGlobals "digit_at" = some (some (.ref f_digit_at))) (l_digit_at : K.lookup f_digit_at = some ⟨oc_digit_at, od_digit_at, .func (PySem.W.fnOf "digit_at" "digit_at" (defArgs s_digit_at) (defBody s_digit_at) (defScope s_digit_at) .none kV_digit_at dc_digit_at pm_digit_at an_digit_at cd_digit_at ct_digit_at), sl_digit_at⟩) (c_digit_at : PySem.W.codeIn K cd_digit_at "digit_at" = true) (k_digit_at : PySem.W.keepIn K (.ref f_digit_at) = true)
    (a_code_size : PySem.W.nsIn K mainGlobals "code_size" = some (some (.ref f_code_size))) (l_code_size : K.lookup f_code_size = some ⟨oc_code_size, od_code_size, .func (PySem.W.fnOf "code_size" "code_size" (defArgs s_code_size) (defBody s_code_size) (defScope s_code_size) .none kV_code_size dc_code_size pm_code_size an_code_size cd_code_size ct_code_size), sl_code_size⟩) (c_code_size : PySem.W.codeIn K cd_code_size "code_size" = true) (k_code_size : PySem.W.keepIn K (.ref f_code_size) = true)
    (a_code_at : PySem.W.nsIn K mainGlobals "code_at" = some (some (.ref f_code_at))) (l_code_at : K.lookup f_code_at = some ⟨oc_code_at, od_code_at, .func (PySem.W.fnOf "code_at" "code_at" (defArgs s_code_at) (defBody s_code_at) (defScope s_code_at) .none kV_code_at dc_code_at pm_code_at an_code_at cd_code_at ct_code_at), sl_code_at⟩) (c_code_at : PySem.W.codeIn K cd_code_at "code_at" = true) (k_code_at : PySem.W.keepIn K (.ref f_code_at) = true)
    (a_number_at : PySem.W.nsIn K mainGlobals "number_at" = some (some (.ref f_number_at))) (l_number_at : K.lookup f_number_at = some ⟨oc_number_at, od_number_at, .func (PySem.W.fnOf "number_at" "number_at" (defArgs s_number_at) (defBody s_number_at) (defScope s_number_at) (.ref dT_number_at) kV_number_at dc_number_at pm_number_at an_number_at cd_number_at ct_number_at), sl_number_at⟩) (c_number_at : PySem.W.codeIn K cd_number_at "number_at" = true) (k_number_at : PySem.W.keepIn K (.ref f_number_at) = true)
    (lD_number_at : K.lookup dT_number_at = some ⟨ocD_number_at, odD_number_at, .seq #[.int 0 tD0_number_at] nD_number_at, slD_number_at⟩)
    (a__law_read : PySem.W.nsIn K mainGlobals "_law_read" = some (some (.ref f__law_read))) (l__law_read : K.lookup f__law_read = some ⟨oc__law_read, od__law_read, .func (PySem.W.fnOf "_law_read" "_law_read" (defArgs s__law_read) (defBody s__law_read) (defScope s__law_read) .none kV__law_read dc__law_read pm__law_read an__law_read cd__law_read ct__law_read), sl__law_read⟩) (c__law_read : PySem.W.codeIn K cd__law_read "_law_read" = true) (k__law_read : PySem.W.keepIn K (.ref f__law_read) = true)
    (a_law : PySem.W.nsIn K mainGlobals "law" = some (some (.ref f_law))) (l_law : K.lookup f_law = some ⟨oc_law, od_law, .func (PySem.W.fnOf "law" "law" (defArgs s_law) (defBody s_law) (defScope s_law) .none kV_law dc_law pm_law an_law cd_law ct_law), sl_law⟩) (c_law : PySem.W.codeIn K cd_law "law" = true) (k_law : PySem.W.keepIn K (.ref f_law) = true)
    (z_len : PySem.W.nsIn K mainGlobals "len" = some none)
    (z_abs : PySem.W.nsIn K mainGlobals "abs" = some none)
    (z_int : PySem.W.nsIn K mainGlobals "int" = some none)
    (z_range : PySem.W.nsIn K mainGlobals "range" = some none)
    (z_isinstance : PySem.W.nsIn K mainGlobals "isinstance" = some none)
    (z_bool : PySem.W.nsIn K mainGlobals "bool" = some none)
    (z_list : PySem.W.nsIn K mainGlobals "list" = some none)
    (z_max : PySem.W.nsIn K mainGlobals "max" = some none)
    (z_tuple : PySem.W.nsIn K mainGlobals "tuple" = some none)
    (z_all : PySem.W.nsIn K mainGlobals "all" = some none)
    (z_MOST : PySem.W.nsIn K mainGlobals "MOST" = some (some (.int (52374249726338269920211035149241586435466272736689036631732661889538140742474792878132321477214466514414186946040961136147476104734166288853256441430015) t_MOST)))
    (z_FIRST_LONG : PySem.W.nsIn K mainGlobals "FIRST_LONG" = some (some (.int (192) t_FIRST_LONG)))
    (z_LONG : PySem.W.nsIn K mainGlobals "LONG" = some (some (.int (191) t_LONG)))
    (z_LAST_FIRST : PySem.W.nsIn K mainGlobals "LAST_FIRST" = some (some (.int (254) t_LAST_FIRST)))
    (z_ShortestBytesError : PySem.W.nsIn K mainGlobals "ShortestBytesError" = some (some (.ref c_ShortestBytesError)))
    (z_BadNumber : PySem.W.nsIn K mainGlobals "BadNumber" = some (some (.ref c_BadNumber)))
    (lC_BadNumber : K.lookup c_BadNumber = some (excClassObj nm_BadNumber q_BadNumber c_BadNumber N_BadNumber bs_BadNumber bm_BadNumber true sn_BadNumber sub_BadNumber ab_BadNumber col_BadNumber dd_BadNumber k0_BadNumber k1_BadNumber k2_BadNumber k3_BadNumber k5_BadNumber "ValueError.__new__"))
    (rv_BadNumber : PySem.HandSPX.refsVE bm_BadNumber = true)
    (sa_BadNumber : PySem.W.findIn K (.ref c_BadNumber) "__setattr__" = some (some (.builtin "object.__setattr__")))
    (ex_BadNumber : PySem.W.subIn K (.ref c_BadNumber) (.type "BaseException") = some true)
    (ty_BadNumber : PySem.W.typeIn K (.ref c_BadNumber) = some (.type "type"))
    (kp_BadNumber : PySem.W.keepIn K (.ref c_BadNumber) = true)
    (ga_BadNumber : PySem.W.findIn K (.ref c_BadNumber) "__getattribute__" = some (some (.builtin "BaseException.__getattribute__")))
    (gg_BadNumber : PySem.W.findIn K (.ref c_BadNumber) "__getattr__" = some none)
    (hd_BadNumber : PySem.W.hasDictIn K c_BadNumber = true)
    (cc_BadNumber : PySem.W.findIn K (.ref c_BadNumber) "__class__" = some (some (.builtin "object.__class__")))
    (ob_BadNumber : PySem.W.mroIn K c_BadNumber (.type "object") = some true)
    (no_BadNumber : PySem.W.findIn K (.ref c_BadNumber) "number" = some none)
    (in_BadNumber : PySem.W.findIn K (.ref c_BadNumber) "__init__" = some (some (.ref fI_BadNumber)))
    (ti_BadNumber : PySem.W.typeIn K (.ref fI_BadNumber) = some (.type "function"))
    (lI_BadNumber : K.lookup fI_BadNumber = some ⟨ocI_BadNumber, odI_BadNumber, .func (PySem.W.fnOf "__init__" "BadNumber.__init__" (defArgs sI_BadNumber) (defBody sI_BadNumber) (defScope sI_BadNumber) .none kVI_BadNumber dcI_BadNumber pmI_BadNumber anI_BadNumber cdI_BadNumber ctI_BadNumber), slI_BadNumber⟩)
    (cI_BadNumber : PySem.W.codeIn K cdI_BadNumber "BadNumber.__init__" = true)
    (kI_BadNumber : PySem.W.keepIn K (.ref fI_BadNumber) = true)
    (z_Unfinished : PySem.W.nsIn K mainGlobals "Unfinished" = some (some (.ref c_Unfinished)))
    (lC_Unfinished : K.lookup c_Unfinished = some (excClassObj nm_Unfinished q_Unfinished c_Unfinished N_Unfinished bs_Unfinished bm_Unfinished true sn_Unfinished sub_Unfinished ab_Unfinished col_Unfinished dd_Unfinished k0_Unfinished k1_Unfinished k2_Unfinished k3_Unfinished k5_Unfinished "ValueError.__new__"))
    (rv_Unfinished : PySem.HandSPX.refsVE bm_Unfinished = true)
    (sa_Unfinished : PySem.W.findIn K (.ref c_Unfinished) "__setattr__" = some (some (.builtin "object.__setattr__")))
    (ex_Unfinished : PySem.W.subIn K (.ref c_Unfinished) (.type "BaseException") = some true)
    (ty_Unfinished : PySem.W.typeIn K (.ref c_Unfinished) = some (.type "type"))
    (kp_Unfinished : PySem.W.keepIn K (.ref c_Unfinished) = true)
    (ga_Unfinished : PySem.W.findIn K (.ref c_Unfinished) "__getattribute__" = some (some (.builtin "BaseException.__getattribute__")))
    (gg_Unfinished : PySem.W.findIn K (.ref c_Unfinished) "__getattr__" = some none)
    (hd_Unfinished : PySem.W.hasDictIn K c_Unfinished = true)
    (cc_Unfinished : PySem.W.findIn K (.ref c_Unfinished) "__class__" = some (some (.builtin "object.__class__")))
    (ob_Unfinished : PySem.W.mroIn K c_Unfinished (.type "object") = some true)
    (no_Unfinished : PySem.W.findIn K (.ref c_Unfinished) "at" = some none)
    (in_Unfinished : PySem.W.findIn K (.ref c_Unfinished) "__init__" = some (some (.ref fI_Unfinished)))
    (ti_Unfinished : PySem.W.typeIn K (.ref fI_Unfinished) = some (.type "function"))
    (lI_Unfinished : K.lookup fI_Unfinished = some ⟨ocI_Unfinished, odI_Unfinished, .func (PySem.W.fnOf "__init__" "Unfinished.__init__" (defArgs sI_Unfinished) (defBody sI_Unfinished) (defScope sI_Unfinished) .none kVI_Unfinished dcI_Unfinished pmI_Unfinished anI_Unfinished cdI_Unfinished ctI_Unfinished), slI_Unfinished⟩)
    (cI_Unfinished : PySem.W.codeIn K cdI_Unfinished "Unfinished.__init__" = true)
    (kI_Unfinished : PySem.W.keepIn K (.ref fI_Unfinished) = true)
    (z_WrongByte : PySem.W.nsIn K mainGlobals "WrongByte" = some (some (.ref c_WrongByte)))
    (lC_WrongByte : K.lookup c_WrongByte = some (excClassObj nm_WrongByte q_WrongByte c_WrongByte N_WrongByte bs_WrongByte bm_WrongByte true sn_WrongByte sub_WrongByte ab_WrongByte col_WrongByte dd_WrongByte k0_WrongByte k1_WrongByte k2_WrongByte k3_WrongByte k5_WrongByte "ValueError.__new__"))
    (rv_WrongByte : PySem.HandSPX.refsVE bm_WrongByte = true)
    (sa_WrongByte : PySem.W.findIn K (.ref c_WrongByte) "__setattr__" = some (some (.builtin "object.__setattr__")))
    (ex_WrongByte : PySem.W.subIn K (.ref c_WrongByte) (.type "BaseException") = some true)
    (ty_WrongByte : PySem.W.typeIn K (.ref c_WrongByte) = some (.type "type"))
    (kp_WrongByte : PySem.W.keepIn K (.ref c_WrongByte) = true)
    (ga_WrongByte : PySem.W.findIn K (.ref c_WrongByte) "__getattribute__" = some (some (.builtin "BaseException.__getattribute__")))
    (gg_WrongByte : PySem.W.findIn K (.ref c_WrongByte) "__getattr__" = some none)
    (hd_WrongByte : PySem.W.hasDictIn K c_WrongByte = true)
    (cc_WrongByte : PySem.W.findIn K (.ref c_WrongByte) "__class__" = some (some (.builtin "object.__class__")))
    (ob_WrongByte : PySem.W.mroIn K c_WrongByte (.type "object") = some true)
    (no_WrongByte : PySem.W.findIn K (.ref c_WrongByte) "at" = some none)
    (in_WrongByte : PySem.W.findIn K (.ref c_WrongByte) "__init__" = some (some (.ref fI_WrongByte)))
    (ti_WrongByte : PySem.W.typeIn K (.ref fI_WrongByte) = some (.type "function"))
    (lI_WrongByte : K.lookup fI_WrongByte = some ⟨ocI_WrongByte, odI_WrongByte, .func (PySem.W.fnOf "__init__" "WrongByte.__init__" (defArgs sI_WrongByte) (defBody sI_WrongByte) (defScope sI_WrongByte) .none kVI_WrongByte dcI_WrongByte pmI_WrongByte anI_WrongByte cdI_WrongByte ctI_WrongByte), slI_WrongByte⟩)
    (cI_WrongByte : PySem.W.codeIn K cdI_WrongByte "WrongByte.__init__" = true)
    (kI_WrongByte : PySem.W.keepIn K (.ref fI_WrongByte) = true)
    (ge : PySem.W.specialIn K (.builtin "object.__class__") "__get__" = some (some (.builtin "getset_descriptor.__get__"))) (tk : PySem.W.takesIn K (.builtin "object.__class__") = some true)
    (s_W_SBE : PySem.W.subIn K (.ref c_WrongByte) (.ref c_ShortestBytesError) = some true)
    (s_U_SBE : PySem.W.subIn K (.ref c_Unfinished) (.ref c_ShortestBytesError) = some true)
    (s_SBE_B : PySem.W.subIn K (.ref c_ShortestBytesError) (.type "BaseException") = some true)
    (h_SBE : PySem.W.hasDictIn K c_ShortestBytesError = true)
    (t_SBE : PySem.W.typeIn K (.ref c_ShortestBytesError) = some (.type "type")) :
    ∃ fd : FuncData, (∀ (s : Shared) (v : Value), BindsTo s fd ⟨[v], []⟩ [("_law_script", v)]) ∧ ∀ base : Heap, K.In base → base.Ns mainGlobals mg → Told l.prog w K mg base CX0 8 fa fd ["_law_script"] (spLaw K) := by
  have e := hfa.symm.trans (PySem.W.mg_of X G a_law)
  cases e
  have F__law_bag := fun_mk (st := s__law_bag) l__law_bag c__law_bag k__law_bag
  have b__law_bag := F__law_bag.binds (ps := ["_law_script", "_law_at"]) fun _ _ _ _ _ _ us hl => match us, hl with | [_, _], _ => rfl
  have F__law_take := fun_mk (st := s__law_take) l__law_take c__law_take k__law_take
  have b__law_take := F__law_take.binds (ps := ["_law_bag_here", "_law_many"]) fun _ _ _ _ _ _ us hl => match us, hl with | [_, _], _ => rfl
  have F__law_of := fun_mk (st := s__law_of) l__law_of c__law_of k__law_of
  have b__law_of := F__law_of.binds (ps := ["_law_bag_here", "_law_some"]) fun _ _ _ _ _ _ us hl => match us, hl with | [_, _], _ => rfl
  have F__law_number := fun_mk (st := s__law_number) l__law_number c__law_number k__law_number
  have b__law_number := F__law_number.binds (ps := ["_law_bag_here"]) fun _ _ _ _ _ _ us hl => match us, hl with | [_], _ => rfl
  have F_is_int := fun_mk (st := s_is_int) l_is_int c_is_int k_is_int
  have b_is_int := F_is_int.binds (ps := ["thing"]) fun _ _ _ _ _ _ us hl => match us, hl with | [_], _ => rfl
  have F_is_number := fun_mk (st := s_is_number) l_is_number c_is_number k_is_number
  have b_is_number := F_is_number.binds (ps := ["thing"]) fun _ _ _ _ _ _ us hl => match us, hl with | [_], _ => rfl
  have F_base_256 := fun_mk (st := s_base_256) l_base_256 c_base_256 k_base_256
  have b_base_256 := F_base_256.binds (ps := ["number"]) fun _ _ _ _ _ _ us hl => match us, hl with | [_], _ => rfl
  have F_number_code := fun_mk (st := s_number_code) l_number_code c_number_code k_number_code
  have b_number_code := F_number_code.binds (ps := ["number"]) fun _ _ _ _ _ _ us hl => match us, hl with | [_], _ => rfl
  have F_is_byte := fun_mk (st := s_is_byte) l_is_byte c_is_byte k_is_byte
  have b_is_byte := F_is_byte.binds (ps := ["thing"]) fun _ _ _ _ _ _ us hl => match us, hl with | [_], _ => rfl
  have F_least_second := fun_mk (st := s_least_second) l_least_second c_least_second k_least_second
  have b_least_second := F_least_second.binds (ps := ["first"]) fun _ _ _ _ _ _ us hl => match us, hl with | [_], _ => rfl
  have F_byte_at := fun_mk (st := s_byte_at) l_byte_at c_byte_at k_byte_at
  have b_byte_at := F_byte_at.binds (ps := ["data", "at", "low", "high"]) fun _ _ _ _ _ _ us hl => match us, hl with | [_, _, _, _], _ => rfl
  have F_digit_at := fun_mk (st := s_digit_at) l_digit_at c_digit_at k_digit_at
  have b_digit_at := F_digit_at.binds (ps := ["data", "at", "low", "high", "is_turned"]) fun _ _ _ _ _ _ us hl => match us, hl with | [_, _, _, _, _], _ => rfl
  have F_code_size := fun_mk (st := s_code_size) l_code_size c_code_size k_code_size
  have b_code_size := F_code_size.binds (ps := ["first"]) fun _ _ _ _ _ _ us hl => match us, hl with | [_], _ => rfl
  have F_code_at := fun_mk (st := s_code_at) l_code_at c_code_at k_code_at
  have b_code_at := F_code_at.binds (ps := ["data", "at", "is_turned"]) fun _ _ _ _ _ _ us hl => match us, hl with | [_, _, _], _ => rfl
  have F_number_at : FunD K "number_at" "number_at" (defArgs s_number_at) (defBody s_number_at) (defScope s_number_at) [.int 0] [] f_number_at _ := ⟨⟨_, _, _, _, _, _, _, _, _, _, rfl, l_number_at, c_number_at, .inr ⟨(by intro z; cases z), dT_number_at, _, [.int 0 tD0_number_at], _, rfl, lD_number_at, rfl, (.cons ⟨_, rfl⟩ .nil)⟩, .inl rfl⟩, k_number_at⟩
  have b_number_at : Binds K (PySem.W.fnOf "number_at" "number_at" (defArgs s_number_at) (defBody s_number_at) (defScope s_number_at) (.ref dT_number_at) kV_number_at dc_number_at pm_number_at an_number_at cd_number_at ct_number_at) ["data", "at"] [] := by
    obtain ⟨ds, rv, hb⟩ := F_number_at.binds1 (ps := ["data", "at"]) 2 1 (by intro z; cases z) rfl (fun T kV doc pm an cdv ct us its hu hi => match us, its, hu, hi with | [_, _], [_], _, _ => ⟨_, rfl, rfl⟩)
    cases rv
    exact hb
  obtain ⟨ds_number_at, d_number_at, bd_number_at⟩ := F_number_at.binds1 (ps := ["data", "at"]) 1 0 (by intro z; cases z) rfl (fun T kV doc pm an cdv ct us its hu hi => match us, its, hu, hi with | [_], [_], _, _ => ⟨_, rfl, rfl⟩)
  have F__law_read := fun_mk (st := s__law_read) l__law_read c__law_read k__law_read
  have b__law_read := F__law_read.binds (ps := ["_law_row"]) fun _ _ _ _ _ _ us hl => match us, hl with | [_], _ => rfl
  have F_law := fun_mk (st := s_law) l_law c_law k_law
  have m_len := PySem.W.mg_none_of X G z_len
  have m_abs := PySem.W.mg_none_of X G z_abs
  have m_int := PySem.W.mg_none_of X G z_int
  have m_range := PySem.W.mg_none_of X G z_range
  have m_isinstance := PySem.W.mg_none_of X G z_isinstance
  have m_bool := PySem.W.mg_none_of X G z_bool
  have m_list := PySem.W.mg_none_of X G z_list
  have m_max := PySem.W.mg_none_of X G z_max
  have m_tuple := PySem.W.mg_none_of X G z_tuple
  have m_all := PySem.W.mg_none_of X G z_all
  have g_MOST := PySem.W.mg_of X G z_MOST
  have g_FIRST_LONG := PySem.W.mg_of X G z_FIRST_LONG
  have g_LONG := PySem.W.mg_of X G z_LONG
  have g_LAST_FIRST := PySem.W.mg_of X G z_LAST_FIRST
  have g_ShortestBytesError := PySem.W.mg_of X G z_ShortestBytesError
  have FI_BadNumber := fun_mk (st := sI_BadNumber) lI_BadNumber cI_BadNumber kI_BadNumber
  have bI_BadNumber := FI_BadNumber.binds (ps := ["self", "number"]) fun _ _ _ _ _ _ us hl => match us, hl with | [_, _], _ => rfl
  have FI_Unfinished := fun_mk (st := sI_Unfinished) lI_Unfinished cI_Unfinished kI_Unfinished
  have bI_Unfinished := FI_Unfinished.binds (ps := ["self", "at"]) fun _ _ _ _ _ _ us hl => match us, hl with | [_, _], _ => rfl
  have FI_WrongByte := fun_mk (st := sI_WrongByte) lI_WrongByte cI_WrongByte kI_WrongByte
  have bI_WrongByte := FI_WrongByte.binds (ps := ["self", "at"]) fun _ _ _ _ _ _ us hl => match us, hl with | [_, _], _ => rfl
  refine ⟨PySem.W.fnOf "law" "law" (defArgs s_law) (defBody s_law) (defScope s_law) .none kV_law dc_law pm_law an_law cd_law ct_law, fun s v => .of_eq rfl, fun base _ _ => ?_⟩
  have E_BadNumber : Err l.prog w K mg base "BadNumber" "number" c_BadNumber := ⟨PySem.W.mg_of X G z_BadNumber, ⟨⟨_, _, _, _, _, _, _, _, _, _, _, _, _, _, _, lC_BadNumber, rv_BadNumber⟩, sa_BadNumber, ex_BadNumber, ty_BadNumber, kp_BadNumber⟩, ⟨ga_BadNumber, gg_BadNumber, ex_BadNumber, hd_BadNumber⟩, ⟨cls_some hd_BadNumber, ga_BadNumber, gg_BadNumber, ex_BadNumber, cc_BadNumber, ge, tk, ob_BadNumber⟩, no_BadNumber, ⟨_, _, in_BadNumber, ti_BadNumber, okI_BadNumber FI_BadNumber, bI_BadNumber⟩⟩
  have E_Unfinished : Err l.prog w K mg base "Unfinished" "at" c_Unfinished := ⟨PySem.W.mg_of X G z_Unfinished, ⟨⟨_, _, _, _, _, _, _, _, _, _, _, _, _, _, _, lC_Unfinished, rv_Unfinished⟩, sa_Unfinished, ex_Unfinished, ty_Unfinished, kp_Unfinished⟩, ⟨ga_Unfinished, gg_Unfinished, ex_Unfinished, hd_Unfinished⟩, ⟨cls_some hd_Unfinished, ga_Unfinished, gg_Unfinished, ex_Unfinished, cc_Unfinished, ge, tk, ob_Unfinished⟩, no_Unfinished, ⟨_, _, in_Unfinished, ti_Unfinished, okI_Unfinished FI_Unfinished, bI_Unfinished⟩⟩
  have E_WrongByte : Err l.prog w K mg base "WrongByte" "at" c_WrongByte := ⟨PySem.W.mg_of X G z_WrongByte, ⟨⟨_, _, _, _, _, _, _, _, _, _, _, _, _, _, _, lC_WrongByte, rv_WrongByte⟩, sa_WrongByte, ex_WrongByte, ty_WrongByte, kp_WrongByte⟩, ⟨ga_WrongByte, gg_WrongByte, ex_WrongByte, hd_WrongByte⟩, ⟨cls_some hd_WrongByte, ga_WrongByte, gg_WrongByte, ex_WrongByte, cc_WrongByte, ge, tk, ob_WrongByte⟩, no_WrongByte, ⟨_, _, in_WrongByte, ti_WrongByte, okI_WrongByte FI_WrongByte, bI_WrongByte⟩⟩
  have G__law_bag : Told l.prog w K mg base CX0 1 f__law_bag _ ["_law_script", "_law_at"] (spBag K) := ok__law_bag F__law_bag m_len m_abs m_int
  have G__law_take : Told l.prog w K mg base CX0 1 f__law_take _ ["_law_bag_here", "_law_many"] spTake := ok__law_take F__law_take m_int
  have G__law_of : Told l.prog w K mg base CX0 2 f__law_of _ ["_law_bag_here", "_law_some"] (spOf K) := ok__law_of F__law_of m_len G__law_take b__law_take (PySem.W.mg_of X G a__law_take) k__law_take
  have G__law_number : Told l.prog w K mg base CX0 3 f__law_number _ ["_law_bag_here"] spNumber := ok__law_number F__law_number m_range G__law_take b__law_take (PySem.W.mg_of X G a__law_take) k__law_take G__law_of b__law_of (PySem.W.mg_of X G a__law_of) k__law_of
  have G_is_int : Told l.prog w K mg base CX0 1 f_is_int _ ["thing"] (spIsInt K) := ok_is_int F_is_int m_isinstance m_bool m_int
  have G_is_number : Told l.prog w K mg base CX0 2 f_is_number _ ["thing"] (spIsNumber K) := ok_is_number F_is_number g_MOST G_is_int b_is_int (PySem.W.mg_of X G a_is_int) k_is_int
  have G_base_256 : Told l.prog w K mg base CX0 1 f_base_256 _ ["number"] spDigs := ok_base_256 F_base_256 m_range
  have G_number_code : Told l.prog w K mg base (L2.CX l.prog w) 3 f_number_code _ ["number"] (spNumCode K c_BadNumber) := ok_number_code F_number_code m_len g_FIRST_LONG g_LONG E_BadNumber G_is_number b_is_number (PySem.W.mg_of X G a_is_number) k_is_number G_base_256 b_base_256 (PySem.W.mg_of X G a_base_256) k_base_256
  have G_is_byte : Told l.prog w K mg base CX0 2 f_is_byte _ ["thing"] (spIsByte K) := ok_is_byte F_is_byte G_is_int b_is_int (PySem.W.mg_of X G a_is_int) k_is_int
  have G_least_second : Told l.prog w K mg base CX0 1 f_least_second _ ["first"] spLeast := ok_least_second F_least_second g_LONG g_FIRST_LONG
  have G_byte_at : Told l.prog w K mg base (L2.CX l.prog w) 3 f_byte_at _ ["data", "at", "low", "high"] (spByteAt K c_WrongByte c_Unfinished) := ok_byte_at F_byte_at m_len E_Unfinished E_WrongByte G_is_byte b_is_byte (PySem.W.mg_of X G a_is_byte) k_is_byte
  have G_digit_at : Told l.prog w K mg base (L2.CX l.prog w) 4 f_digit_at _ ["data", "at", "low", "high", "is_turned"] (spDigitAt K c_WrongByte c_Unfinished) := ok_digit_at F_digit_at G_byte_at b_byte_at (PySem.W.mg_of X G a_byte_at) k_byte_at
  have G_code_size : Told l.prog w K mg base CX0 1 f_code_size _ ["first"] spCodeSize := ok_code_size F_code_size g_FIRST_LONG g_LONG
  have G_code_at : Told l.prog w K mg base (L2.CX l.prog w) 5 f_code_at _ ["data", "at", "is_turned"] (spCodeAt K c_WrongByte c_Unfinished) := ok_code_at F_code_at m_range g_LAST_FIRST G_digit_at b_digit_at (PySem.W.mg_of X G a_digit_at) k_digit_at G_code_size b_code_size (PySem.W.mg_of X G a_code_size) k_code_size G_least_second b_least_second (PySem.W.mg_of X G a_least_second) k_least_second
  have G_number_at : Told l.prog w K mg base (L2.CX l.prog w) 6 f_number_at _ ["data", "at"] (spNumberAt K c_WrongByte c_Unfinished) := ok_number_at F_number_at G_code_at b_code_at (PySem.W.mg_of X G a_code_at) k_code_at
  have G__law_read : Told l.prog w K mg base CX0 7 f__law_read _ ["_law_row"] (spRead K) := ok__law_read F__law_read m_list g_ShortestBytesError G_number_at b_number_at (PySem.W.mg_of X G a_number_at) k_number_at d_number_at bd_number_at s_W_SBE s_U_SBE s_SBE_B h_SBE t_SBE
  exact ok_law F_law m_range m_max m_len m_int m_isinstance m_tuple m_all G__law_bag b__law_bag (PySem.W.mg_of X G a__law_bag) k__law_bag G__law_number b__law_number (PySem.W.mg_of X G a__law_number) k__law_number G__law_take b__law_take (PySem.W.mg_of X G a__law_take) k__law_take G_number_code b_number_code (PySem.W.mg_of X G a_number_code) k_number_code G__law_of b__law_of (PySem.W.mg_of X G a__law_of) k__law_of G__law_read b__law_read (PySem.W.mg_of X G a__law_read) k__law_read
end Sb
open PySem PySem.W PyProof.Rows in
set_option maxRecDepth 100000 in
set_option maxHeartbeats 0 in
theorem PySem.Challenge.cw_shortestbytes_k05_whole_numbers_and_code_holds : PySem.Challenge.rw_shortestbytes_k05_whole_numbers_and_code.Holds := by
  w_on; o_law; k_head; (case hw => w_witness2)
  k_fill
  refine Sb.end_law (l := PySem.Challenge.rw_shortestbytes_k05_whole_numbers_and_code) (k := 8) (x := "_law_script") (sp := (fun K => Sb.spLaw K)) rfl rfl ⟨rfl, by decide, by decide⟩ (fun w h Y => PySem.W.kIn_of Y) ?F (fun K H a ns hl hS => ⟨a, ns, rfl, hS, hl, fun _ => rfl⟩)
  case F =>
    intro w mg fa h KX G hmg
    refine' Sb.all_mk KX G hmg ?a__law_bag ?l__law_bag ?c__law_bag ?k__law_bag ?a__law_take ?l__law_take ?c__law_take ?k__law_take ?a__law_of ?l__law_of ?c__law_of ?k__law_of ?a__law_number ?l__law_number ?c__law_number ?k__law_number ?a_is_int ?l_is_int ?c_is_int ?k_is_int ?a_is_number ?l_is_number ?c_is_number ?k_is_number ?a_base_256 ?l_base_256 ?c_base_256 ?k_base_256 ?a_number_code ?l_number_code ?c_number_code ?k_number_code ?a_is_byte ?l_is_byte ?c_is_byte ?k_is_byte ?a_least_second ?l_least_second ?c_least_second ?k_least_second ?a_byte_at ?l_byte_at ?c_byte_at ?k_byte_at ?a_digit_at ?l_digit_at ?c_digit_at ?k_digit_at ?a_code_size ?l_code_size ?c_code_size ?k_code_size ?a_code_at ?l_code_at ?c_code_at ?k_code_at ?a_number_at ?l_number_at ?c_number_at ?k_number_at ?lD_number_at ?a__law_read ?l__law_read ?c__law_read ?k__law_read ?a_law ?l_law ?c_law ?k_law ?z_len ?z_abs ?z_int ?z_range ?z_isinstance ?z_bool ?z_list ?z_max ?z_tuple ?z_all ?z_MOST ?z_FIRST_LONG ?z_LONG ?z_LAST_FIRST ?z_ShortestBytesError ?z_BadNumber ?lC_BadNumber ?rv_BadNumber ?sa_BadNumber ?ex_BadNumber ?ty_BadNumber ?kp_BadNumber ?ga_BadNumber ?gg_BadNumber ?hd_BadNumber ?cc_BadNumber ?ob_BadNumber ?no_BadNumber ?in_BadNumber ?ti_BadNumber ?lI_BadNumber ?cI_BadNumber ?kI_BadNumber ?z_Unfinished ?lC_Unfinished ?rv_Unfinished ?sa_Unfinished ?ex_Unfinished ?ty_Unfinished ?kp_Unfinished ?ga_Unfinished ?gg_Unfinished ?hd_Unfinished ?cc_Unfinished ?ob_Unfinished ?no_Unfinished ?in_Unfinished ?ti_Unfinished ?lI_Unfinished ?cI_Unfinished ?kI_Unfinished ?z_WrongByte ?lC_WrongByte ?rv_WrongByte ?sa_WrongByte ?ex_WrongByte ?ty_WrongByte ?kp_WrongByte ?ga_WrongByte ?gg_WrongByte ?hd_WrongByte ?cc_WrongByte ?ob_WrongByte ?no_WrongByte ?in_WrongByte ?ti_WrongByte ?lI_WrongByte ?cI_WrongByte ?kI_WrongByte ?ge ?tk ?s_W_SBE ?s_U_SBE ?s_SBE_B ?h_SBE ?t_SBE
    (case a__law_bag => k_is)
    (case l__law_bag => k_is)
    (case c__law_bag => k_is)
    (case k__law_bag => k_is)
    (case a__law_take => k_is)
    (case l__law_take => k_is)
    (case c__law_take => k_is)
    (case k__law_take => k_is)
    (case a__law_of => k_is)
    (case l__law_of => k_is)
    (case c__law_of => k_is)
    (case k__law_of => k_is)
    (case a__law_number => k_is)
    (case l__law_number => k_is)
    (case c__law_number => k_is)
    (case k__law_number => k_is)
    (case a_is_int => k_is)
    (case l_is_int => k_is)
    (case c_is_int => k_is)
    (case k_is_int => k_is)
    (case a_is_number => k_is)
    (case l_is_number => k_is)
    (case c_is_number => k_is)
    (case k_is_number => k_is)
    (case a_base_256 => k_is)
    (case l_base_256 => k_is)
    (case c_base_256 => k_is)
    (case k_base_256 => k_is)
    (case a_number_code => k_is)
    (case l_number_code => k_is)
    (case c_number_code => k_is)
    (case k_number_code => k_is)
    (case a_is_byte => k_is)
    (case l_is_byte => k_is)
    (case c_is_byte => k_is)
    (case k_is_byte => k_is)
    (case a_least_second => k_is)
    (case l_least_second => k_is)
    (case c_least_second => k_is)
    (case k_least_second => k_is)
    (case a_byte_at => k_is)
    (case l_byte_at => k_is)
    (case c_byte_at => k_is)
    (case k_byte_at => k_is)
    (case a_digit_at => k_is)
    (case l_digit_at => k_is)
    (case c_digit_at => k_is)
    (case k_digit_at => k_is)
    (case a_code_size => k_is)
    (case l_code_size => k_is)
    (case c_code_size => k_is)
    (case k_code_size => k_is)
    (case a_code_at => k_is)
    (case l_code_at => k_is)
    (case c_code_at => k_is)
    (case k_code_at => k_is)
    (case a_number_at => k_is)
    (case l_number_at => k_is)
    (case c_number_at => k_is)
    (case k_number_at => k_is)
    (case lD_number_at => k_is)
    (case a__law_read => k_is)
    (case l__law_read => k_is)
    (case c__law_read => k_is)
    (case k__law_read => k_is)
    (case a_law => k_is)
    (case l_law => k_is)
    (case c_law => k_is)
    (case k_law => k_is)
    (case z_len => k_is)
    (case z_abs => k_is)
    (case z_int => k_is)
    (case z_range => k_is)
    (case z_isinstance => k_is)
    (case z_bool => k_is)
    (case z_list => k_is)
    (case z_max => k_is)
    (case z_tuple => k_is)
    (case z_all => k_is)
    (case z_MOST => k_is)
    (case z_FIRST_LONG => k_is)
    (case z_LONG => k_is)
    (case z_LAST_FIRST => k_is)
    (case z_ShortestBytesError => k_is)
    (case z_BadNumber => k_is)
    (case lC_BadNumber => k_is)
    (case rv_BadNumber => decide +kernel)
    (case sa_BadNumber => k_is)
    (case ex_BadNumber => k_is)
    (case ty_BadNumber => k_is)
    (case kp_BadNumber => k_is)
    (case ga_BadNumber => k_is)
    (case gg_BadNumber => k_is)
    (case hd_BadNumber => k_is)
    (case cc_BadNumber => k_is)
    (case ob_BadNumber => k_is)
    (case no_BadNumber => k_is)
    (case in_BadNumber => k_is)
    (case ti_BadNumber => k_is)
    (case lI_BadNumber => k_is)
    (case cI_BadNumber => k_is)
    (case kI_BadNumber => k_is)
    (case z_Unfinished => k_is)
    (case lC_Unfinished => k_is)
    (case rv_Unfinished => decide +kernel)
    (case sa_Unfinished => k_is)
    (case ex_Unfinished => k_is)
    (case ty_Unfinished => k_is)
    (case kp_Unfinished => k_is)
    (case ga_Unfinished => k_is)
    (case gg_Unfinished => k_is)
    (case hd_Unfinished => k_is)
    (case cc_Unfinished => k_is)
    (case ob_Unfinished => k_is)
    (case no_Unfinished => k_is)
    (case in_Unfinished => k_is)
    (case ti_Unfinished => k_is)
    (case lI_Unfinished => k_is)
    (case cI_Unfinished => k_is)
    (case kI_Unfinished => k_is)
    (case z_WrongByte => k_is)
    (case lC_WrongByte => k_is)
    (case rv_WrongByte => decide +kernel)
    (case sa_WrongByte => k_is)
    (case ex_WrongByte => k_is)
    (case ty_WrongByte => k_is)
    (case kp_WrongByte => k_is)
    (case ga_WrongByte => k_is)
    (case gg_WrongByte => k_is)
    (case hd_WrongByte => k_is)
    (case cc_WrongByte => k_is)
    (case ob_WrongByte => k_is)
    (case no_WrongByte => k_is)
    (case in_WrongByte => k_is)
    (case ti_WrongByte => k_is)
    (case lI_WrongByte => k_is)
    (case cI_WrongByte => k_is)
    (case kI_WrongByte => k_is)
    (case ge => k_is)
    (case tk => k_is)
    (case s_W_SBE => k_is)
    (case s_U_SBE => k_is)
    (case s_SBE_B => k_is)
    (case h_SBE => k_is)
    (case t_SBE => k_is)



