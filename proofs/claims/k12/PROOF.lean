import PyProof.Rows.All
import Wide.All
import OpenK.AllK
import Wide.FinOn
import HandS.ForMost
import HandS.IsInst
import HandS.Wide
import HandS.WideMore
import HandS.Flow
import HandS.Style
import HandS.StrMore
import HandS.RaiseMore
import HandS.FStr
import KE.KxText
import HandS.Walk
import KE.KExcIs
import KE.KExcInit
import HandS.ExcInit
import HandS.ExcValue
import HandS.ExcField
import HandS.TryMany
import HandS.HotCalls
import HandS.Property
import HandS.Codes
import HandS.Iter
import KE.GoesEnum
import HandS.Comp
import PyProof.EnumMake
import HandS.Star
import HandS.TupSets
import HandS.Replace
import HandS.OwnEq
import HandS.Lambda
import HandS.ClsMeth
import KE.KCallOwn
import HandS.TupAny
import KE.KeyNested
import HandS.DictComp
import HandS.ExcOwn
import PyProof.NeKinds
import HandS.Zip
import PyProof.FactsAll.dict
import PyProof.Dict
import HandS.Deep
import HandS.DictTup
import HandS.WordsExc
import HandS.Sort
import KE.SortData
import KE.DatumOrd
import PyProof.ReprText
import PyProof.StrLawsRepr
import HandS.EndTab
import HandS.Dict
import PyProof.StrOps2
import HandS.TupMul
import KE.KRevSl
import PySem.Challenge.RW_mendbooks_k12_errors_of_spots
set_option Elab.async false
set_option linter.all false
set_option autoImplicit false
set_option maxRecDepth 100000
set_option maxHeartbeats 4000000
/-! Vb: the layer below all laws: defs that are entered where no container is being written out (calm room), repr of data, powers. -/
namespace Vb
open PySem PySem.Spec PyProof.Rows L2

/-- nothing is being written out by repr around here -/
def Calm (A : Around) : Prop := A.guards = some []
theorem Calm.deep {A : Around} (h : Calm A) (env : Env) : Calm (A.deeper env) := h
theorem calm_caller : Calm callerA := rfl

/-- a promise that is kept where nothing is being written out -/
structure FnG (P : Program) (w : World) (K : PySem.W.Frag) (mg : Str → Option Value) (base : Heap) (k : Nat) (f : Addr) (fd : FuncData) (ps : List Str) (sp : Sp) : Prop where
  count : ∀ vs H Q E, sp vs H Q E → vs.length = ps.length
  goes : ∀ (A : Around) (outer : List Env) (s : Shared) (H : Hp) (args : Args) (us : List Value) (vs : List V) (Q : VK) (E : XK), Calm A → Room k A →
    Env0 P w K mg base A outer s H → BindsTo s fd args (ps.zip us) → Vals vs us → sp vs H Q E → codeAny (model P w) A (.call (.ref f) args) (CR CX0 outer P w H s Q E) s

section
variable {P : Program} {w : World} {K : PySem.W.Frag} {mg : Str → Option Value} {base : Heap}
theorem FnG.of {k : Nat} {f : Addr} {fd : FuncData} {ps : List Str} {sp : Sp} (F : FnOk P w K mg base CX0 k f fd ps sp) : FnG P w K mg base k f fd ps sp :=
  ⟨F.len, fun A outer s H args us vs Q E _ hr => F.run A outer s H args us vs Q E hr⟩

/-- a def's promise by its body, entered in calm room -/
theorem goes_by {x qual : Str} {st : Stmt} {f : Addr} {fd : FuncData} {N ps : List Str} {k : Nat} {sp : Sp} (F : Fun K x qual st f fd) (S : FnScope N ps (defScope st)) (len : ∀ vs H Q E, sp vs H Q E → vs.length = ps.length)
    (body : ∀ (cdv : Value) (A : Around) (outer : List Env) (s : Shared) (H : Hp) (vs : List V) (Q : VK) (E : XK), Calm (A.deeper (envOfC qual (defScope st) s.heap.objs.size f cdv)) → Room k (A.deeper (envOfC qual (defScope st) s.heap.objs.size f cdv)) → sp vs H Q E →
      ∃ t, PSs (cxOf CX0 P w K mg base N qual (defScope st) f cdv A outer s H E).nox (defBody st) t ∧ t { nx := fun _ H' => Q .non H', rt := Q } (start N vs) H) : FnG P w K mg base (k + 1) f fd ps sp := by
  obtain ⟨oc, od, kV, doc, pm, an, cdv, ct, osl, rfl, lk, hcd⟩ := F.ex
  refine ⟨len, fun A outer s H args us vs Q E hc hr e0 hb r hsp => ?_⟩
  have hl := len _ _ _ _ hsp
  have KX : K.In s.heap := e0.mod.kin.keeps fun b o e => (e0.bs b o e).1
  have lim : s.heap.NoLimit := e0.mod.nolimit.keeps fun b o e => (e0.bs b o e).1
  have kinds : ∀ y ∈ ps.zip us, (defScope st).names.lookup y.1 = some .local ∨ ((defScope st).names.lookup y.1 = some .cell ∧ ((cellsFrom (s.heap.objs.size + 1) (defScope st).names []).lookup y.1).isSome = true) := by
    intro y hy
    obtain ⟨n, v⟩ := y
    exact (S.par n (List.of_mem_zip hy).1).imp id fun q => ⟨q, PySem.W.cellsFrom_some _ _ _ (Or.inl q)⟩
  refine codeAny_call_function hr.depth (KX _ _ lk) rfl S.co S.gen rfl (PySem.W.codeRec_of KX hcd) (hb _ _ _ _ ?_)
  refine wpAny_newFunctionEnv_cells S.kind kinds fun env he s1 x => ?_
  cases he
  refine ⟨lim.keeps x.toInCall.keep, codeAny_func ?_⟩
  obtain ⟨t, ht, hq⟩ := body cdv A outer s H vs Q E (hc.deep _) (hr.deeper _) hsp
  have I := inv_start (CX := CX0) (E := E) S hr.hd e0 hl r x
  refine wpAny_mono (ht.nox.run [] s1 (start N vs) H _ I hq) (fun fl s' hs => ?_) (fun _ _ z => z)
  cases fl with
  | brk => exact hs.elim fun _ z => z.elim fun _ z => z.2.elim
  | cont => exact hs.elim fun _ z => z.elim fun _ z => z.2.elim
  | ret u =>
    obtain ⟨v, σ', H', J, rv, q⟩ := hs
    exact ⟨v, H', J.os, J.bare, J.base, J.hok, rv, q⟩
  | next =>
    obtain ⟨σ', H', J, q⟩ := hs
    exact ⟨V.non, H', J.os, J.bare, J.base, J.hok, rfl, q⟩
end

section
variable {X : Cx} {k : Nat} {f : Addr} {fd : FuncData} {ps : List Str} {sp : Sp} {dvs : List V} {ds : List Value} {E : XK} {x : Str} {p pos : Pos} {e : Expr} {es : List Expr} {t : TA}
theorem goes_in {pins : List (Addr × Obj)} {σ : L2.St} {H : Hp} {s : Shared} {Q : VK} {us : List Value} {vs : List V} (F : FnG X.prog X.w X.K X.mg X.base k f fd ps sp) (hc : Calm X.A) (hr : Room k X.A) (hb : Binds X.K fd ps ds) (hd : Vals dvs ds) (hx : Passes CX0 X E)
    (I : Inv X pins σ H s) (r : Vals vs us) (h : sp (vs ++ dvs) H Q E) : wpAny (model X.prog X.w) X.A (call (.ref f) us) (EP X pins σ Q) X.xe s := by
  have both : Vals (vs ++ dvs) (us ++ ds) := r.append hd
  have hl : (us ++ ds).length = ps.length := both.length ▸ F.count _ _ _ _ h
  have go := F.goes X.A X.stack s H ⟨us, []⟩ (us ++ ds) (vs ++ dvs) Q E hc hr I.env0 (hb s us I.kIn hl) both h
  refine wpAny_call (codeAny_mono go fun r s' hq => ?_)
  match r, hq with
  | .error e, hq => exact hx pins σ H s e s' I hq
  | .ok (.ret u), hq => exact I.after hq
  | .ok .next, hq => exact hq.elim
  | .ok .brk, hq => exact hq.elim
  | .ok .cont, hq => exact hq.elim
/-- f(e, ..), f entered in calm room -/
theorem pe_callG (F : FnG X.prog X.w X.K X.mg X.base k f fd ps sp) (hc : Calm X.A) (hr : Room k X.A) (hg : Gl X x) (hm : X.mg x = some (.ref f)) (hk : PySem.W.keepIn X.K (.ref f) = true) (hb : Binds X.K fd ps ds) (hd : Vals dvs ds) (hx : Passes CX0 X E)
    (ha : PA X (e :: es) t) (hdb : (x == ("__debug__" : Str)) = false := by decide) (he : starEach (e :: es) X.env = (false, eval e X.env) :: starEach es X.env := by rfl) (hpl : (backTo pos (starEach es X.env)).any (·.1) = false := by rfl) :
    PE X (.Call (.Name x p) (e :: es) [] pos) (tCall sp dvs E t) :=
  ⟨fun pins s σ H Q I h => wpAny_Call_Name_kw (ld_glob I hg hm
    (PySem.W.callWith_K (h₀ := X.base) I.ok.mod.kin hk (thn (ha.run pos pins s σ H _ I h) fun us s1 ⟨vs, H1, I1, r, q⟩ => ⟨I1.kIn, goes_in F hc hr hb hd hx I1 r q⟩) he hpl) hdb)⟩
/-- f() -/
theorem pe_callG0 (F : FnG X.prog X.w X.K X.mg X.base k f fd ps sp) (hc : Calm X.A) (hr : Room k X.A) (hg : Gl X x) (hm : X.mg x = some (.ref f)) (hk : PySem.W.keepIn X.K (.ref f) = true) (hb : Binds X.K fd ps ds) (hd : Vals dvs ds) (hx : Passes CX0 X E)
    (hdb : (x == ("__debug__" : Str)) = false := by decide) : PE X (.Call (.Name x p) [] [] pos) (tCall sp dvs E tNil) :=
  ⟨fun pins s σ H Q I h => wpAny_Call_Name_kw (ld_glob I hg hm (PySem.W.callWith_K0 I.kIn hk (goes_in (us := []) F hc hr hb hd hx I .nil h)) hdb)⟩
end
/-! ### the law's own end, in calm room -/
section
variable {P : Program} {w : World} {K : PySem.W.Frag} {mg mb : Str → Option Value} {s₁ : Shared} {H : Hp} {a : Addr}
/-- what is seen behind the top once the script alone may be tracked -/
structure Lone (K : PySem.W.Frag) (s₁ : Shared) (H : Hp) (a : Addr) : Prop where
  only : Only H
  at_a : ∀ b, H b ≠ none → b = a
  noK : H a ≠ none → K.lookup a = none
  noD : ∀ o, s₁.heap.get? a = some o → ∀ es ep, o.data ≠ .dict es ep
theorem Lone.bare (L : Lone K s₁ H a) {b : Addr} {o : Obj} (e : s₁.heap.get? b = some o) (h : (∃ es ep, o.data = .dict es ep) ∨ K.lookup b = some o) : H b = none := by
  refine Classical.byContradiction fun n => ?_
  have eb := L.at_a b n
  subst eb
  rcases h with ⟨es, ep, d⟩ | h
  · exact L.noD o e es ep d
  · exact nomatch (L.noK n).symm.trans h
theorem Lone.env (L : Lone K s₁ H a) (KX : K.In s₁.heap) (hns : s₁.heap.Ns mainGlobals mg) (hb : s₁.heap.Ns builtinsNs mb) (hbb : ∀ x : Str, x ≠ "__name__" → mb x = bootBuiltins x) (hlim : s₁.heap.NoLimit) (hg : s₁.gens = #[])
    (hok : HOk P w H s₁.heap) : K.In (hidT s₁.heap H) ∧ (hidT s₁.heap H).Ns mainGlobals mg ∧ Env0 P w K mg (hidT s₁.heap H) callerA [] s₁ H := by
  have ns : ∀ {b : Addr} {m : Str → Option Value}, s₁.heap.Ns b m → (hidT s₁.heap H).Ns b m := fun ⟨o, es, ep, e, d, r⟩ => ⟨o, es, ep, hidT_get e (L.bare e (.inl ⟨es, ep, d⟩)), d, r⟩
  have kin : K.In (hidT s₁.heap H) := fun b o e => hidT_get (KX b o e) (L.bare (KX b o e) (.inr e))
  obtain ⟨mc, c1, c2⟩ := hlim
  exact ⟨kin, ns hns, rfl, ⟨kin, ns hns, ⟨mb, ns hb, hbb⟩, ⟨mc, ns c1, c2⟩⟩, fun b o e => of_hidT e, Nat.le_of_eq (hidT_size _ _), trivial, fun b z => (List.not_mem_nil z).elim, hok, .of_eq hg⟩
theorem Lone.kept (L : Lone K s₁ H a) {s' : Shared} (hok : HOk P w H s₁.heap) {u : Value} (c : CE [] P w H s₁ (fun v _ => v = .bl true) u s') : Flow.ret u = .ret (.bool true) ∧ OldK s₁.heap s'.heap ∧ s'.os = s₁.os ∧ AllBare s'.gens := by
  obtain ⟨v, H', os, bare, un, hok', r', q⟩ := c
  cases (show v = .bl true from q)
  cases (show u = Value.bool true from r')
  refine ⟨rfl, OldK.of_keep fun b o e => ?_, os, bare⟩
  cases q : H b with
  | none => exact un.keep b o e q (fun z => (List.not_mem_nil z).elim) (fun z => (List.not_mem_nil z).elim)
  | some u =>
    rcases L.only b with z | ⟨ob, xs, z⟩
    · exact nomatch q.symm.trans z
    · have before := (hok b _ z).1
      have after := (hok' b _ (un.frzs b ob _ z)).1
      cases before.symm.trans e
      exact after
variable {k : Nat} {fa : Addr} {fd : FuncData} {x : Str} {sp : Sp} {vs : List Value} {ns : List Int}
theorem law_goes (KX : K.In s₁.heap) (hns : s₁.heap.Ns mainGlobals mg) (hb : s₁.heap.Ns builtinsNs mb) (hbb : ∀ x : Str, x ≠ "__name__" → mb x = bootBuiltins x) (hlim : s₁.heap.NoLimit) (hg : s₁.gens = #[])
    (ha : s₁.heap.get? a = some { cls := .type "list", data := .seq vs.toArray }) (hi : IntsAre vs ns) (hl : ns.length ≤ sizeLine) (hr : Room k callerA)
    (F : ∀ base : Heap, K.In base → base.Ns mainGlobals mg → FnG P w K mg base k fa fd [x] sp) (bind : ∀ (s : Shared) (u : Value), BindsTo s fd ⟨[u], []⟩ [(x, u)])
    (hsp : ∀ H : Hp, Only H → SqL K H a (ns.map V.int) → sp [.ref a] H (fun v _ => v = .bl true) fun _ _ _ => False) :
    codeAny (model P w) callerA (.call (.ref fa) ⟨[.ref a], []⟩) (fun r s' => r = .ok (.ret (.bool true)) ∧ OldK s₁.heap s'.heap ∧ s'.os = s₁.os ∧ AllBare s'.gens) s₁ := by
  have rv := vals_ints hi
  have core : ∀ H : Hp, Lone K s₁ H a → SqL K H a (ns.map V.int) → HOk P w H s₁.heap → codeAny (model P w) callerA (.call (.ref fa) ⟨[.ref a], []⟩) (fun r s' => r = .ok (.ret (.bool true)) ∧ OldK s₁.heap s'.heap ∧ s'.os = s₁.os ∧ AllBare s'.gens) s₁ := by
    intro H L hS hok
    obtain ⟨kin, kns, e0⟩ := L.env (P := P) (w := w) KX hns hb hbb hlim hg hok
    refine codeAny_mono ((F _ kin kns).goes callerA [] s₁ H ⟨[.ref a], []⟩ [.ref a] [.ref a] _ _ calm_caller hr e0 (bind s₁ (.ref a)) (.cons rfl .nil) (hsp H L.only hS)) fun r s' h => ?_
    match r, h with
    | .error _, h => exact h.elim
    | .ok .next, h => exact h.elim
    | .ok .brk, h => exact h.elim
    | .ok .cont, h => exact h.elim
    | .ok (.ret u), h =>
      obtain ⟨e, rest⟩ := L.kept hok h
      exact ⟨congrArg Except.ok e, rest⟩
  have noD : ∀ o, s₁.heap.get? a = some o → ∀ es ep, o.data ≠ .dict es ep := fun o e es ep d => by
    cases ha.symm.trans e
    cases (show Data.seq vs.toArray _ = Data.dict es ep from d)
  cases hk : K.lookup a with
  | some o =>
    cases ha.symm.trans (KX a o hk)
    exact core (fun _ => none) ⟨fun _ => .inl rfl, fun b z => (z rfl).elim, fun z => (z rfl).elim, noD⟩ (.inr ⟨_, vs.toArray, _, hk, rfl, rfl, rfl, by rw [List.size_toArray, hi.length]; exact hl, by simpa using rv⟩) (fun b u z => nomatch (show (none : Option HO) = some u from z))
  | none =>
    let T : HO := .frz { cls := .type "list", data := .seq vs.toArray } (.lst (ns.map V.int))
    have tA : ∀ b u, (if b = a then some T else none : Option HO) = some u → b = a ∧ u = T := fun b u z => by
      by_cases q : b = a
      · rw [if_pos q] at z
        exact ⟨q, (Option.some.inj z).symm⟩
      · rw [if_neg q] at z
        cases z
    refine core (fun b => if b = a then some T else none) ⟨fun b => ?_, fun b z => ?_, fun _ => hk, noD⟩ (.inl (.inr ⟨{ cls := .type "list", data := .seq vs.toArray }, if_pos rfl⟩)) (fun b u z => ?_)
    · by_cases q : b = a
      · exact .inr ⟨_, _, if_pos q⟩
      · exact .inl (if_neg q)
    · exact Classical.byContradiction fun q => z (if_neg q)
    · obtain ⟨e1, e2⟩ := tA b u z
      subst e1
      subst e2
      exact ⟨ha, by rw [List.length_map]; exact hl, vs, _, rv, ha⟩
end
/-- the goal that the head leaves, from the law's promise in calm room -/
theorem walk_calm {l : PySem.W.OpenLaw} {n k : Nat} {q : Program} {loose : List Str} {XP : (Str → Option Value) → Heap → Prop} {YP : World → Heap → Prop} {d : DefRec} {K : Params → PySem.W.Frag} {sp : PySem.W.Frag → Sp} {x : Str}
    (hn : l.most = some n) (hn2 : n ≤ sizeLine) (hdf : d.params.defaults = []) (hr : Room k callerA) (hY : ∀ (w : World) (h : Heap), YP w h → (K w.params).In h)
    (F : ∀ (w : World) (mg : Str → Option Value) (fa : Addr) (h : Heap), (K w.params).In h → h.Ns mainGlobals mg → mg d.name = some (.ref fa) →
      ∃ fd : FuncData, (∀ (s : Shared) (u : Value), BindsTo s fd ⟨[u], []⟩ [(x, u)]) ∧ ∀ base : Heap, (K w.params).In base → base.Ns mainGlobals mg → FnG l.prog w (K w.params) mg base k fa fd [x] (sp (K w.params)))
    (hsp : ∀ (K : PySem.W.Frag) (H : Hp) (a : Addr) (ns : List Int), ns.length ≤ n → Only H → SqL K H a (ns.map V.int) → sp K [.ref a] H (fun v _ => v = .bl true) fun _ _ _ => False) :
    PySem.W.WalkO q loose XP YP l.row.toRowW d [] (fun f vs => PySem.call f vs) :=
  Att.attach_call hn hdf fun w s₀ s₁ mg mb fa o pm cd doc a vs ns G Y ho hd hcd hmg hobj hints hlen hg => by
    obtain ⟨fd, hb, hF⟩ := F w mg fa _ (hY w _ Y) G.T.g hmg
    exact law_goes (hY w _ Y) G.T.g G.T.b G.T.builtins G.T.nolimit hg hobj hints (Nat.le_trans hlen hn2) hr hF hb fun H hO hS => hsp _ H a ns hlen hO hS

/-! ### repr of data, in calm room -/
section
variable {X : Cx}
/-- repr(x) of data: its text is the data's -/
def rRepr (K : PySem.W.Frag) : List V → Hp → VK → Prop := fun xs H Q => ∃ (a : Addr) (d : PyData), xs = [.ref a] ∧ Dp K H (.ref a) d ∧ d.showable = true ∧ d.hasDict = false ∧ d.depth < 64 ∧ d.shown.length ≤ sizeLine ∧ Q (.str d.shown) H
theorem call_repr_data (hc : Calm X.A) (hu : X.A.units + 64 < cLine) : CallR X (.builtin "repr") (rRepr X.K) := by
  intro pins s σ H xs us Q I r h
  obtain ⟨a, d, rfl, hd, hs, hn, hz, hl, q⟩ := h
  obtain ⟨u, rfl, r1⟩ := vals1 r
  cases (show u = Value.ref a from r1)
  obtain ⟨as, hr⟩ := Dp.reads I d _ _ hd r1
  refine repr_of_reads' (h₀ := s.heap) hr hs (fun z => ?_) hc (by omega) (fun _ _ e => e) (fun h' u tk hk => ?_) hl
  · rw [hn] at z
    cases z
  · exact ⟨.str _, H, I.kept hk, ⟨_, rfl⟩, q⟩
/-- a power of any two written numbers that is not too long -/
def CPowW (i j : Int) : Prop := 0 ≤ j ∧ (Builtin.Int.intBits i : Int) * j ≤ 2 ^ 27
theorem op_powW : OpR X (binaryOp .Pow) (rI CPowW fun i j => .int (i ^ j.toNat)) := opI fun _ _ _ _ _ _ _ hc q => pow_int hc.1 hc.2 q
end

/-! ### names that stand for defs -/
/-- the name x stands for a def that keeps the promise sp in calm room, by at most level k -/
def Cg (P : Program) (w : World) (K : PySem.W.Frag) (mg : Str → Option Value) (base : Heap) (k : Nat) (x : Str) (sp : Sp) : Prop :=
  ∃ (f : Addr) (fd : FuncData) (ps : List Str), FnG P w K mg base k f fd ps sp ∧ mg x = some (.ref f) ∧ PySem.W.keepIn K (.ref f) = true ∧ Binds K fd ps []
/-- the def st of the text stands at the name x -/
def Df (K : PySem.W.Frag) (mg : Str → Option Value) (x : Str) (st : Stmt) (ps : List Str) : Prop :=
  ∃ (f : Addr) (fd : FuncData), Fun K x x st f fd ∧ mg x = some (.ref f) ∧ Binds K fd ps []
section
variable {P : Program} {w : World} {K : PySem.W.Frag} {mg : Str → Option Value} {base : Heap}
theorem FnG.mono {j k : Nat} {f : Addr} {fd : FuncData} {ps : List Str} {sp : Sp} (F : FnG P w K mg base j f fd ps sp) (h : j ≤ k) : FnG P w K mg base k f fd ps sp :=
  ⟨F.count, fun A outer s H args us vs Q E hc hr => F.goes A outer s H args us vs Q E hc (hr.mono h)⟩
theorem Cg.mono {j k : Nat} {x : Str} {sp : Sp} (G : Cg P w K mg base j x sp) (h : j ≤ k) : Cg P w K mg base k x sp := by
  obtain ⟨f, fd, ps, F, m, kp, b⟩ := G
  exact ⟨f, fd, ps, F.mono h, m, kp, b⟩
/-- a name's promise by its def's body -/
theorem Df.ok {x : Str} {st : Stmt} {N ps : List Str} {k : Nat} {sp : Sp} (D : Df K mg x st ps) (S : FnScope N ps (defScope st)) (len : ∀ vs H Q E, sp vs H Q E → vs.length = ps.length)
    (body : ∀ (cdv : Value) (A : Around) (outer : List Env) (s : Shared) (H : Hp) (vs : List V) (Q : VK) (E : XK) (f : Addr), Calm (A.deeper (envOfC x (defScope st) s.heap.objs.size f cdv)) → Room k (A.deeper (envOfC x (defScope st) s.heap.objs.size f cdv)) → sp vs H Q E →
      ∃ t, PSs (cxOf CX0 P w K mg base N x (defScope st) f cdv A outer s H E).nox (defBody st) t ∧ t { nx := fun _ H' => Q .non H', rt := Q } (start N vs) H) : Cg P w K mg base (k + 1) x sp := by
  obtain ⟨f, fd, F, m, b⟩ := D
  exact ⟨f, fd, ps, goes_by F S len fun cdv A outer s H vs Q E hc hr h => body cdv A outer s H vs Q E f hc hr h, m, F.kp, b⟩
/-- .. where what runs around does not matter -/
theorem Df.mk {x : Str} {st : Stmt} {ps : List Str} {h : Heap} {f : Addr} {oc : Value} {od an : Option Addr} {osl : Array (Option Value)} {kV doc pm cdv ct : Value} (X : K.In h) (G : h.Ns mainGlobals mg) (a : PySem.W.nsIn K mainGlobals x = some (some (.ref f)))
    (l : K.lookup f = some ⟨oc, od, .func (PySem.W.fnOf x x (defArgs st) (defBody st) (defScope st) .none kV doc pm an cdv ct), osl⟩) (c : PySem.W.codeIn K cdv x = true) (k : PySem.W.keepIn K (.ref f) = true)
    (b : ∀ (kV doc pm : Value) (an : Option Addr) (cdv ct : Value) (us : List Value), us.length = ps.length → bindArgs (PySem.W.fnOf x x (defArgs st) (defBody st) (defScope st) .none kV doc pm an cdv ct) ⟨us, []⟩ = pure (ps.zip us)) : Df K mg x st ps :=
  ⟨f, _, fun_mk (st := st) l c k, PySem.W.mg_of X G a, (fun_mk (st := st) l c k).binds b⟩
end
section
variable {X : Cx} {j k : Nat} {sp : Sp} {E : XK} {x : Str} {p pos : Pos} {e : Expr} {es : List Expr} {t : TA}
theorem pe_cg (G : Cg X.prog X.w X.K X.mg X.base j x sp) (hc : Calm X.A) (hr : Room k X.A) (hg : Gl X x) (ha : PA X (e :: es) t) (hj : j ≤ k := by decide) (hx : Passes CX0 X E := by exact pass0) (hdb : (x == ("__debug__" : Str)) = false := by decide)
    (he : starEach (e :: es) X.env = (false, eval e X.env) :: starEach es X.env := by rfl) (hpl : (backTo pos (starEach es X.env)).any (·.1) = false := by rfl) : PE X (.Call (.Name x p) (e :: es) [] pos) (tCall sp [] E t) := by
  obtain ⟨f, fd, ps, F, m, kp, b⟩ := G
  exact pe_callG F hc (hr.mono hj) hg m kp b .nil hx ha hdb he hpl
theorem pe_cg0 (G : Cg X.prog X.w X.K X.mg X.base j x sp) (hc : Calm X.A) (hr : Room k X.A) (hg : Gl X x) (hj : j ≤ k := by decide) (hx : Passes CX0 X E := by exact pass0) (hdb : (x == ("__debug__" : Str)) = false := by decide) :
    PE X (.Call (.Name x p) [] [] pos) (tCall sp [] E tNil) := by
  obtain ⟨f, fd, ps, F, m, kp, b⟩ := G
  exact pe_callG0 F hc (hr.mono hj) hg m kp b .nil hx hdb
end

/-! ### the dice of all laws: a list of three ints, at an address of its own -/
def dz (g s c : Int) : HO := .lst [.int g, .int s, .int c]
def Dice (H : Hp) (d : Addr) : Prop := ∃ g s c, H d = some (dz g s c)
/-- all but the dice stays, more may stand -/
def Past (d : Addr) (H H' : Hp) : Prop := (∀ b o, b ≠ d → H b = some o → H' b = some o) ∧ Dice H' d
theorem Past.dice {d : Addr} {H H' : Hp} (h : Past d H H') : Dice H' d := h.2
theorem Past.trans {d : Addr} {H H1 H2 : Hp} (a : Past d H H1) (b : Past d H1 H2) : Past d H H2 := ⟨fun x o n e => b.1 x o n (a.1 x o n e), b.2⟩
theorem Past.refl {d : Addr} {H : Hp} (h : Dice H d) : Past d H H := ⟨fun _ _ _ e => e, h⟩
theorem Past.upd {d : Addr} {H : Hp} (g s c : Int) : Past d H (L2.upd H d (dz g s c)) := ⟨fun x o n e => by rw [upd_ne n]; exact e, g, s, c, upd_same⟩
theorem Past.same {d : Addr} {H H' : Hp} (hd : Dice H d) (h : Same H H') : Past d H H' := by
  obtain ⟨g, s, c, e⟩ := hd
  exact ⟨fun x o _ q => h x o q, g, s, c, h _ _ e⟩
theorem Past.new {d p : Addr} {H : Hp} {o : HO} (hd : Dice H d) (h : H p = none) : Past d H (L2.upd H p o) := Past.same hd fun b x e => by
  rw [upd_ne (ne_of_none e h)]
  exact e
/-- what is kept: anything of another kind than the dice, or at another place -/
theorem Past.keep {d b : Addr} {H H' : Hp} {o : HO} (h : Past d H H') (n : b ≠ d) (e : H b = some o) : H' b = some o := h.1 b o n e
theorem Dice.ne {H : Hp} {d p : Addr} (h : Dice H d) (n : H p = none) : p ≠ d := by
  obtain ⟨g, s, c, e⟩ := h
  exact (ne_of_none e n).symm
theorem Past.seq {K : PySem.W.Frag} {d a : Addr} {xs : List V} {H H' : Hp} (h : Past d H H') (n : a ≠ d) (s : SqL K H a xs) : SqL K H' a xs := by
  rcases s with (s | ⟨o, s⟩) | s
  · exact .inl (.inl (h.1 _ _ n s))
  · exact .inl (.inr ⟨o, h.1 _ _ n s⟩)
  · exact .inr s

/-- the law's own def, by its address -/
theorem law_def {st : Stmt} {x : Str} {K : PySem.W.Frag} {mg : Str → Option Value} {h : Heap} {f fa : Addr} {oc : Value} {od an : Option Addr} {osl : Array (Option Value)} {kV doc pm cdv ct : Value} (X : K.In h) (G : h.Ns mainGlobals mg) (hfa : mg "law" = some (.ref fa))
    (hb : ∀ (kV doc pm : Value) (an : Option Addr) (cdv ct : Value) (s : Shared) (v : Value), BindsTo s (PySem.W.fnOf "law" "law" (defArgs st) (defBody st) (defScope st) .none kV doc pm an cdv ct) ⟨[v], []⟩ [(x, v)]) (a : PySem.W.nsIn K mainGlobals "law" = some (some (.ref f)))
    (l : K.lookup f = some ⟨oc, od, .func (PySem.W.fnOf "law" "law" (defArgs st) (defBody st) (defScope st) .none kV doc pm an cdv ct), osl⟩) (c : PySem.W.codeIn K cdv "law" = true) (k : PySem.W.keepIn K (.ref f) = true) :
    ∃ fd : FuncData, (∀ (s : Shared) (v : Value), BindsTo s fd ⟨[v], []⟩ [(x, v)]) ∧ Fun K "law" "law" st fa fd := by
  cases hfa.symm.trans (PySem.W.mg_of X G a)
  exact ⟨_, hb kV doc pm an cdv ct, fun_mk (st := st) l c k⟩
end Vb
set_option Elab.async false
set_option linter.all false
set_option autoImplicit false
set_option maxRecDepth 100000
set_option maxHeartbeats 4000000
/-! Wd: texts of plain signs, the values that judges are asked of, names. -/
namespace Wd
open PySem PySem.Spec PyProof.Rows L2 Vb
/-! ### texts of plain signs -/
def Asc (z : Str) : Prop := ∀ c ∈ z.cps.toList, c < 128
theorem asc_app {x y : Str} (a : Asc x) (b : Asc y) : Asc (x ++ y) := fun c hc => by
  have e : (x ++ y).cps.toList = x.cps.toList ++ y.cps.toList := by
    show (x.cps ++ y.cps).toList = _
    exact Array.toList_append
  rw [e] at hc
  exact (List.mem_append.mp hc).elim (a c) (b c)
theorem asc_cut {z : Str} (a : Asc z) (lo hi : Option Int) : Asc (cutS z lo hi) := fun c hc => by
  unfold cutS at hc
  exact a c (List.mem_of_mem_drop (List.mem_of_mem_take hc))
theorem mem_joinL : ∀ {parts : List (List Nat)} {c : Nat}, c ∈ TL.joinL [] parts → ∃ p ∈ parts, c ∈ p
  | [], _, h => nomatch h
  | [p], c, h => ⟨p, List.mem_cons_self, h⟩
  | p :: q :: r, c, h => by
    rcases List.mem_append.mp (show c ∈ p ++ ([] ++ TL.joinL [] (q :: r)) from h) with h | h
    · exact ⟨p, List.mem_cons_self, h⟩
    · obtain ⟨p', hp, hc⟩ := mem_joinL (parts := q :: r) h
      exact ⟨p', List.mem_cons_of_mem _ hp, hc⟩
theorem asc_join {ys : List Str} (a : ∀ y ∈ ys, Asc y) : Asc (Txt.join (Str.ofString "") ys) := fun c hc => by
  rw [TL.join_eq] at hc
  have e : (Str.join (Str.ofString "") ys).cps.toList = TL.joinL [] (ys.map TL.tl) := TL.tl_join (Str.ofString "") ys
  rw [e] at hc
  obtain ⟨p, hp, hc⟩ := mem_joinL hc
  obtain ⟨y, hy, rfl⟩ := List.mem_map.mp hp
  exact a y hy c hc
theorem asc_one {z : Str} (a : Asc z) {c : Nat} (h : c ∈ z.cps.toList) : Asc ⟨#[c]⟩ := fun x hx => by
  have e : x = c := by simpa using hx
  rw [e]
  exact a c h
/-- what the three judges are asked of -/
def Judged (H : Hp) : V → Prop
  | .int i => i.natAbs < 10 ^ 100
  | .str z => z.length ≤ 1000 ∧ Asc z
  | .non => True
  | .bl _ => True
  | .ref a => (∃ xs, H a = some (.lst xs)) ∨ (∃ xs, H a = some (.tup xs)) ∨ ∃ kvs, H a = some (.dK kvs)
  | _ => False
theorem Judged.same {H H' : Hp} (h : Same H H') : ∀ {v : V}, Judged H v → Judged H' v
  | .int _, j => j
  | .str _, j => j
  | .non, j => j
  | .bl _, j => j
  | .ref _, j => j.imp (fun ⟨xs, e⟩ => ⟨xs, h _ _ e⟩) fun j => j.imp (fun ⟨xs, e⟩ => ⟨xs, h _ _ e⟩) fun ⟨xs, e⟩ => ⟨xs, h _ _ e⟩
  | .byt _, j => j
  | .flt _, j => j
  | .ty _, j => j
theorem Past.judged {d : Addr} {H H' : Hp} (h : Past d H H') {v : V} (j : Judged H v) (n : v ≠ .ref d) : Judged H' v := by
  cases v with
  | ref a =>
    have ad : a ≠ d := fun e => n (by rw [e])
    exact j.imp (fun ⟨xs, e⟩ => ⟨xs, h.1 _ _ ad e⟩) fun j => j.imp (fun ⟨xs, e⟩ => ⟨xs, h.1 _ _ ad e⟩) fun ⟨xs, e⟩ => ⟨xs, h.1 _ _ ad e⟩
  | _ => exact j
theorem sum_ones : ∀ {l : List Str}, (∀ y ∈ l, y.length = 1) → (l.map (·.length)).sum = l.length
  | [], _ => rfl
  | y :: l, h => by
    rw [List.map_cons, List.sum_cons, sum_ones (l := l) (fun z hz => h z (List.mem_cons_of_mem _ hz)), h y List.mem_cons_self, List.length_cons]
    omega
theorem same_new {H : Hp} {p : Addr} {o : HO} (n : H p = none) : Same H (upd H p o) := fun b x e => by
  rw [upd_ne (ne_of_none e n)]
  exact e
theorem same_new2 {H : Hp} {p : Addr} {o o' : HO} (n : H p = none) : Same H (upd (upd H p o) p o') := by
  rw [upd_upd]
  exact same_new n
def low (c : Nat) : Bool := 97 ≤ c && c ≤ 122
def isNam : V → Bool
  | .str z => decide (1 ≤ z.length) && decide (z.length ≤ 8) && z.cps.toList.all low
  | _ => false
def isInt : V → Bool
  | .int i => decide (i.natAbs < 10 ^ 60)
  | _ => false
def notNeg : V → Bool
  | .int i => decide (0 ≤ i)
  | _ => false
def spOf (g : V → Bool) : Sp := fun vs H Q _ => ∃ v, vs = [v] ∧ Judged H v ∧ ∀ H', Same H H' → Q (.bl (g v)) H'
/-- the kinds of judged values -/
theorem kinds {K : PySem.W.Frag} {H : Hp} {v : V} (j : Judged H v) : (∃ i, v = .int i ∧ i.natAbs < 10 ^ 100) ∨ (∃ b, v = .bl b) ∨ (∃ z, v = .str z ∧ z.length ≤ 1000 ∧ Asc z) ∨
    (∃ T, TyX K H v (.type T) ∧ kitB T "int" = some false ∧ kitB T "bool" = some false ∧ kitB T "str" = some false ∧ isInt v = false ∧ notNeg v = false ∧ isNam v = false) := by
  cases v with
  | int i => exact .inl ⟨i, rfl, j⟩
  | bl b => exact .inr (.inl ⟨b, rfl⟩)
  | str z => exact .inr (.inr (.inl ⟨z, rfl, j⟩))
  | non => exact .inr (.inr (.inr ⟨"NoneType", .base .non, by decide +kernel, by decide +kernel, by decide +kernel, rfl, rfl, rfl⟩))
  | byt _ => exact False.elim j
  | flt _ => exact False.elim j
  | ty _ => exact False.elim j
  | ref a =>
    rcases j with ⟨xs, e⟩ | ⟨xs, e⟩ | ⟨xs, e⟩
    · exact .inr (.inr (.inr ⟨"list", .base (.lst e), by decide +kernel, by decide +kernel, by decide +kernel, rfl, rfl, rfl⟩))
    · exact .inr (.inr (.inr ⟨"tuple", .base (.tup e), by decide +kernel, by decide +kernel, by decide +kernel, rfl, rfl, rfl⟩))
    · exact .inr (.inr (.inr ⟨"dict", .base (.dK e), by decide +kernel, by decide +kernel, by decide +kernel, rfl, rfl, rfl⟩))
theorem ki_ii : kitB "int" "int" = some true := by decide +kernel
theorem ki_ib : kitB "int" "bool" = some false := by decide +kernel
theorem ki_is : kitB "int" "str" = some false := by decide +kernel
theorem ki_bi : kitB "bool" "int" = some true := by decide +kernel
theorem ki_bb : kitB "bool" "bool" = some true := by decide +kernel
theorem ki_bs : kitB "bool" "str" = some false := by decide +kernel
theorem ki_si : kitB "str" "int" = some false := by decide +kernel
theorem ki_sb : kitB "str" "bool" = some false := by decide +kernel
theorem ki_ss : kitB "str" "str" = some true := by decide +kernel
theorem digits_60 (n : Nat) (h : n < 10 ^ 100) : (decide ((Nat.toDigits 10 n).length ≤ 60)) = decide (n < 10 ^ 60) := by
  apply decide_eq_decide.mpr
  constructor
  · intro hl
    refine Classical.byContradiction fun hn => ?_
    have := digitsCore10_ge 60 (n + 1) n [] (by have : 60 < 10 ^ 60 := by decide +kernel
                                                omega) (by omega)
    have e : Nat.toDigits 10 n = Nat.toDigitsCore 10 (n + 1) n [] := rfl
    rw [e] at hl
    simp only [List.length_nil] at this
    omega
  · exact digits10_le (by decide)
theorem num_len (n : Nat) : (Str.ofString (toString ((n : Nat) : Int))).length = (Nat.toDigits 10 n).length := by
  have e := congrArg List.length (PySem.W.KIN.signs_num n)
  rw [List.length_map] at e
  rw [← e]
  simp [Str.length]
/-! ### plain signs -/
def upp (c : Nat) : Bool := 65 ≤ c && c ≤ 90
theorem cl_alpha : ∀ c, c < 128 → Unicode.isAlpha c = (upp c || low c) := by decide +kernel
theorem cl_lower : ∀ c, c < 128 → Unicode.isLower c = low c := by decide +kernel
theorem cl_upper : ∀ c, c < 128 → (Unicode.isUpper c || Unicode.isTitle c) = upp c := by decide +kernel
theorem cl_not : ∀ c, c < 128 → low c = false → upp c = true ∨ (upp c || low c) = false := by decide +kernel
theorem cl_both : ∀ c, c < 128 → low c = true → upp c = false := by decide +kernel
theorem name_signs {z : Str} (a : Asc z) (h : 1 ≤ z.length) : (Txt.isascii z && (Txt.isalpha z && Txt.islower z)) = z.cps.toList.all low := by
  have hl : z.cps.toList.length = z.length := by simp [Str.length]
  have e1 : Txt.isascii z = true := by
    unfold Txt.isascii
    rw [← Array.all_toList, List.all_eq_true]
    exact fun c hc => decide_eq_true (a c hc)
  have e2 : Txt.isalpha z = z.cps.toList.all Unicode.isAlpha := by
    unfold Txt.isalpha
    rw [decide_eq_true (show z.length > 0 by omega), Bool.true_and, ← Array.all_toList]
  have e3 : Txt.islower z = (z.cps.toList.any Unicode.isLower && !z.cps.toList.any fun c => Unicode.isUpper c || Unicode.isTitle c) := by
    unfold Txt.islower
    rw [← Array.any_toList, ← Array.any_toList]
  rw [e1, e2, e3, Bool.true_and]
  have a' : ∀ c ∈ z.cps.toList, c < 128 := a
  cases hL : z.cps.toList.all low with
  | true =>
    have hl' := List.all_eq_true.mp hL
    have k1 : z.cps.toList.all Unicode.isAlpha = true := List.all_eq_true.mpr fun c hc => by
      rw [cl_alpha c (a' c hc), hl' c hc, Bool.or_true]
    have k2 : z.cps.toList.any Unicode.isLower = true := by
      cases e : z.cps.toList with
      | nil =>
        rw [e] at hl
        simp at hl
        omega
      | cons c r =>
        have hc : c ∈ z.cps.toList := by rw [e]; exact List.mem_cons_self
        rw [List.any_cons, cl_lower c (a' c hc), hl' c hc, Bool.true_or]
    have k3 : (z.cps.toList.any fun c => Unicode.isUpper c || Unicode.isTitle c) = false := List.any_eq_false.mpr fun c hc => by
      rw [cl_upper c (a' c hc), cl_both c (a' c hc) (hl' c hc)]
      exact Bool.false_ne_true
    rw [k1, k2, k3]
    rfl
  | false =>
    obtain ⟨c, hc, hn⟩ := List.all_eq_false.mp hL
    have hn' : low c = false := by simpa using hn
    rcases cl_not c (a' c hc) hn' with u | u
    · have k3 : (z.cps.toList.any fun c => Unicode.isUpper c || Unicode.isTitle c) = true := List.any_eq_true.mpr ⟨c, hc, by rw [cl_upper c (a' c hc)]; exact u⟩
      rw [k3]
      simp
    · have k1 : z.cps.toList.all Unicode.isAlpha = false := List.all_eq_false.mpr ⟨c, hc, by rw [cl_alpha c (a' c hc), u]; exact Bool.false_ne_true⟩
      rw [k1]
      rfl
theorem one_lt (a b : Nat) : decide ([a] < [b]) = decide (a < b) := by
  apply decide_eq_decide.mpr
  constructor
  · intro h
    cases h with
    | rel h => exact h
    | cons h => exact nomatch h
  · exact fun h => .rel h
theorem isNam_str (z : Str) : isNam (.str z) = (decide (1 ≤ z.length) && decide (z.length ≤ 8) && z.cps.toList.all low) := rfl
/-- the signs that are no small letters, as texts -/
def odd1 (L : List Nat) : List V := (L.filter (fun c => !low c)).map fun c => V.str ⟨#[c]⟩
theorem odd1_snoc (L : List Nat) (c : Nat) : odd1 (L ++ [c]) = odd1 L ++ (if low c = true then [] else [V.str ⟨#[c]⟩]) := by
  unfold odd1
  rw [List.filter_append, List.map_append]
  congr 1
  cases h : low c <;> simp [h]
theorem odd1_nil (L : List Nat) : (odd1 L).isEmpty = L.all low := by
  unfold odd1
  induction L with
  | nil => rfl
  | cons c r ih =>
    cases h : low c with
    | true => simpa [h] using ih
    | false => simp [h]
theorem odd1_len (L : List Nat) : (odd1 L).length ≤ L.length := by
  unfold odd1
  rw [List.length_map]
  exact List.length_filter_le _ _
/-- such a list as data -/
theorem dp_strs {K : PySem.W.Frag} {H : Hp} : ∀ l : List Str, DpAll K H (l.map V.str) (l.map PyData.str)
  | [] => .nil
  | y :: l => .cons (.str y) (dp_strs l)
theorem lay_strs : ∀ l : List Str, (∀ y ∈ l, Asc y) → PyData.canLayAll0 (l.map PyData.str) = true ∧ PyData.depthAll (l.map PyData.str) = 0
  | [], _ => ⟨rfl, rfl⟩
  | y :: l, h => by
    obtain ⟨h1, h2⟩ := lay_strs l fun z hz => h z (List.mem_cons_of_mem _ hz)
    constructor
    · show (PyData.canLay0 (.str y) && PyData.canLayAll0 (l.map PyData.str)) = true
      rw [h1, Bool.and_true]
      show y.cps.all (· < 0x110000) = true
      rw [← Array.all_toList, List.all_eq_true]
      exact fun c hc => decide_eq_true (Nat.lt_trans (h y List.mem_cons_self c hc) (by decide))
    · show max (PyData.depth (.str y)) (PyData.depthAll (l.map PyData.str)) = 0
      rw [h2]
      rfl
theorem shaped_strs {l : List Str} (h : ∀ y ∈ l, Asc y) : SeqAt.shaped (.list (l.map PyData.str)) = true := by
  obtain ⟨h1, h2⟩ := lay_strs l h
  show (PyData.canLay0 (.list (l.map PyData.str)) && decide (PyData.depth (.list (l.map PyData.str)) ≤ 64)) = true
  rw [show PyData.canLay0 (.list (l.map PyData.str)) = true from h1, Bool.true_and]
  exact decide_eq_true (by show PyData.depthAll _ + 1 ≤ 64; rw [h2]; decide)
theorem small8000 {n : Nat} (h : n ≤ 1000000) : ((n : Int)).natAbs < 2 ^ 8000 := by
  have : (1000000 : Nat) < 2 ^ 8000 := by decide +kernel
  omega
theorem fits_million {n : Nat} (h : n ≤ 1000000) : n ≤ sizeLine := Nat.le_trans h (by decide)
theorem same_past {d : Addr} {o : HO} {H H' : Hp} (nd : H d = none) (p : Past d (upd H d o) H') : Same H H' := fun b x e => by
  have bd : b ≠ d := ne_of_none e nd
  exact p.1 b x bd (by rw [upd_ne bd]; exact e)
theorem asc_lit {z : Str} (h : z.cps.toList.all (· < 128) = true) : Asc z := fun c hc => of_decide_eq_true (List.all_eq_true.mp h c hc)
end Wd
set_option Elab.async false
set_option linter.all false
set_option autoImplicit false
set_option maxRecDepth 100000
set_option maxHeartbeats 4000000
namespace K12
open PySem PySem.Spec PyProof.Rows L2 Vb Wd
def topS (i : Nat) : Stmt := PySem.Challenge.pw_mendbooks_k12_errors_of_spots.main.body.getD i (.Pass ⟨0, 0, 0, 0⟩)
abbrev s_is_integer : Stmt := topS 4
theorem sc_is_integer : FnScope ["value"] ["value"] (defScope s_is_integer) := ⟨rfl, rfl, rfl, by decide +kernel, rfl, by decide +kernel, by decide +kernel⟩
abbrev s_is_count : Stmt := topS 5
theorem sc_is_count : FnScope ["value"] ["value"] (defScope s_is_count) := ⟨rfl, rfl, rfl, by decide +kernel, rfl, by decide +kernel, by decide +kernel⟩
abbrev s_is_index : Stmt := topS 6
theorem sc_is_index : FnScope ["value", "many"] ["value", "many"] (defScope s_is_index) := ⟨rfl, rfl, rfl, by decide +kernel, rfl, by decide +kernel, by decide +kernel⟩
abbrev s_is_name : Stmt := topS 7
theorem sc_is_name : FnScope ["value"] ["value"] (defScope s_is_name) := ⟨rfl, rfl, rfl, by decide +kernel, rfl, by decide +kernel, by decide +kernel⟩
abbrev s_is_step : Stmt := topS 26
theorem sc_is_step : FnScope ["value"] ["value"] (defScope s_is_step) := ⟨rfl, rfl, rfl, by decide +kernel, rfl, by decide +kernel, by decide +kernel⟩
abbrev s_is_child : Stmt := topS 27
theorem sc_is_child : FnScope ["value"] ["value"] (defScope s_is_child) := ⟨rfl, rfl, rfl, by decide +kernel, rfl, by decide +kernel, by decide +kernel⟩
abbrev s_is_children : Stmt := topS 28
theorem sc_is_children : FnScope ["value", "child"] ["value"] (defScope s_is_children) := ⟨rfl, rfl, rfl, by decide +kernel, rfl, by decide +kernel, by decide +kernel⟩
abbrev s_l_dice : Stmt := topS 48
theorem sc_l_dice : FnScope ["_law_script", "_law_spot", "_law_cell", "_law_great", "_law_seed"] ["_law_script", "_law_spot"] (defScope s_l_dice) := ⟨rfl, rfl, rfl, by decide +kernel, rfl, by decide +kernel, by decide +kernel⟩
abbrev s_l_roll : Stmt := topS 49
theorem sc_l_roll : FnScope ["_law_dice_here", "_law_total", "_law_found", "_law_one", "_law_two"] ["_law_dice_here", "_law_total"] (defScope s_l_roll) := ⟨rfl, rfl, rfl, by decide +kernel, rfl, by decide +kernel, by decide +kernel⟩
abbrev s_l_pick : Stmt := topS 50
theorem sc_l_pick : FnScope ["_law_dice_here", "_law_items"] ["_law_dice_here", "_law_items"] (defScope s_l_pick) := ⟨rfl, rfl, rfl, by decide +kernel, rfl, by decide +kernel, by decide +kernel⟩
/-- dice(script, spot): new dice -/
def spDice (K : PySem.W.Frag) : Sp := fun vs H Q _ => ∃ (a : Addr) (ns : List Int) (i : Int), vs = [.ref a, .int i] ∧ SqL K H a (ns.map V.int) ∧ 0 ≤ i ∧ ∀ d g s, H d = none → Q (.ref d) (upd H d (dz g s 0))
/-- roll(dice, total): an int from 0 on and below total -/
def spRoll : Sp := fun vs H Q _ => ∃ (d : Addr) (n : Int), vs = [.ref d, .int n] ∧ Dice H d ∧ 0 < n ∧ n.natAbs < 2 ^ 8000 ∧ ∀ r H', Past d H H' → 0 ≤ r → r < n → Q (.int r) H'
section
variable {P : Program} {w : World} {K : PySem.W.Frag} {mg : Str → Option Value} {base : Heap}
theorem ok_roll (D : Df K mg "_law_roll" s_l_roll ["_law_dice_here", "_law_total"]) (z_int : mg "int" = none) : Cg P w K mg base 1 "_law_roll" spRoll := by
  refine D.ok sc_l_roll (fun vs H Q E h => ?_) (fun cdv A outer s H vs Q E f hc hr h => ?_)
  · obtain ⟨d, n, rfl, _⟩ := h
    rfl
  · obtain ⟨d, n, rfl, ⟨g, s, c, hd⟩, n0, nz, q⟩ := h
    refine ⟨_, (pss_cons (ps_if (pt_cmpR op_gt (pe_ix ix_list (pv 0) pe_int (fun _ _ => rfl)) pe_int (nomark _))
      (pss_cons (ps_set (i := 2) sc_l_roll.nd rfl (Or.inl rfl) (pe_op op_mod (pe_callTy call_int1 (by rfl) z_int (by decide +kernel) (pa_cons (pe_ix ix_list (pv 0) pe_int (fun _ _ => rfl)) pa_nil)) (pv 1)))
      (pss_cons (ps_asg (pe_op op_fdivW (pe_ix ix_list (pv 0) pe_int (fun _ _ => rfl)) (pv 1)) (pg_sub (pv 0) pe_int set_list))
      (pss_one (ps_ret (pv 2)))))
      pss_nil)
      (pss_cons (ps_asg (pe_op op_add (pe_ix ix_list (pv 0) pe_int (fun _ _ => rfl)) pe_int) (pg_sub (pv 0) pe_int set_list))
      (pss_cons (ps_set (i := 3) sc_l_roll.nd rfl (Or.inl rfl) (pe_op op_mod (pe_callTy call_int1 (by rfl) z_int (by decide +kernel) (pa_cons (pe_op op_add (pe_ix ix_list (pv 0) pe_int (fun _ _ => rfl)) (pe_op op_mul pe_int (pe_ix ix_list (pv 0) pe_int (fun _ _ => rfl)))) pa_nil)) pe_int))
      (pss_cons (ps_set (i := 4) sc_l_roll.nd rfl (Or.inl rfl) (pe_op op_add (pe_op op_mul (pe_op op_mod (pe_callTy call_int1 (by rfl) z_int (by decide +kernel) (pa_cons (pe_op op_mul (pv 3) (pv 3)) pa_nil)) pe_int) (pv 3)) (pe_op op_mul pe_int (pe_ix ix_list (pv 0) pe_int (fun _ _ => rfl)))))
      (pss_one (ps_ret (pe_op op_mod (pe_callTy call_int1 (by rfl) z_int (by decide +kernel) (pa_cons (pe_op op_fdiv (pe_op op_mod (pe_callTy call_int1 (by rfl) z_int (by decide +kernel) (pa_cons (pe_op op_add (pv 4) (pe_op op_mul pe_int (pe_ix ix_list (pv 0) pe_int (fun _ _ => rfl)))) pa_nil)) pe_int) pe_int) pa_nil)) (pv 1)))))))), ?_⟩
    have a0 : ∀ x y z : Int, atI [V.int x, V.int y, V.int z] 0 = some (V.int x) := fun _ _ _ => rfl
    have a1 : ∀ x y z : Int, atI [V.int x, V.int y, V.int z] 1 = some (V.int y) := fun _ _ _ => rfl
    have a2 : ∀ x y z : Int, atI [V.int x, V.int y, V.int z] 2 = some (V.int z) := fun _ _ _ => rfl
    have hS : SqL K H d [.int g, .int s, .int c] := .inl (.inl hd)
    refine ⟨_, rfl, d, _, 0, .int g, rfl, rfl, hS, a0 _ _ _, _, _, rfl, rfl, _, rfl, ite2 (fun _ => ?_) (fun _ => ?_)⟩
    · refine ⟨_, rfl, d, _, 0, .int g, rfl, rfl, hS, a0 _ _ _, .inl ⟨_, rfl, _, rfl, _, _, rfl, rfl, n0, ?_⟩⟩
      refine ⟨_, rfl, d, _, 0, .int g, rfl, rfl, hS, a0 _ _ _, _, rfl, _, _, rfl, rfl, wide_div n0 nz (by decide) (by decide), ?_⟩
      refine ⟨_, rfl, d, _, 0, 0, rfl, rfl, hd, rfl, ?_⟩
      refine ⟨_, rfl, ?_⟩
      exact q _ _ (Past.upd (g / n) s c) (Int.emod_nonneg _ (by omega)) (Int.emod_lt_of_pos _ n0)
    · refine ⟨_, rfl, d, _, 2, .int c, rfl, rfl, hS, a2 _ _ _, _, _, rfl, rfl, ?_⟩
      refine ⟨_, rfl, d, _, 2, 2, rfl, rfl, hd, rfl, ?_⟩
      have hT : SqL K (upd H d (dz g s (c + 1))) d [.int g, .int s, .int (c + 1)] := .inl (.inl upd_same)
      have m0 : ∀ x y : Int, 0 < y → 0 ≤ x % y ∧ x % y < y := fun x y h => ⟨Int.emod_nonneg _ (by omega), Int.emod_lt_of_pos _ h⟩
      have hone := m0 (s + 715827883 * (c + 1)) 2305843009213693951 (by decide)
      refine ⟨_, rfl, d, _, 1, .int s, rfl, rfl, hT, a1 _ _ _, _, rfl, d, _, 2, .int (c + 1), rfl, rfl, hT, a2 _ _ _, _, _, rfl, rfl, by constructor <;> decide, _, _, rfl, rfl, .inl ⟨_, rfl, _, _, rfl, rfl, (by show (0 : Int) < _; decide), ?_⟩⟩
      generalize (s + 715827883 * (c + 1)) % 2305843009213693951 = one at hone ⊢
      refine ⟨_, rfl, _, rfl, _, _, rfl, rfl, (.inl ⟨by omega, by omega⟩), .inl ⟨_, rfl, _, _, rfl, rfl, (by show (0 : Int) < _; decide), ?_⟩⟩
      have htwo := m0 (one * one) 1152921504606846869 (by decide)
      generalize one * one % 1152921504606846869 = two at htwo ⊢
      refine ⟨_, rfl, _, _, rfl, rfl, (.inl ⟨by omega, by omega⟩), _, rfl, d, _, 2, .int (c + 1), rfl, rfl, hT, a2 _ _ _, _, _, rfl, rfl, by constructor <;> decide, _, _, rfl, rfl, ?_⟩
      refine ⟨_, rfl, _, rfl, d, _, 1, .int s, rfl, rfl, hT, a1 _ _ _, _, _, rfl, rfl, by constructor <;> decide, _, _, rfl, rfl, .inl ⟨_, rfl, _, _, rfl, rfl, (by show (0 : Int) < _; decide), _, _, rfl, rfl, ⟨by decide, by decide⟩, .inl ⟨_, rfl, _, rfl, _, _, rfl, rfl, n0, ?_⟩⟩⟩
      exact q _ _ (Past.upd g s (c + 1)) (m0 _ n n0).1 (m0 _ n n0).2

theorem pow_10_58 : CPowW 10 58 := ⟨by decide, by decide +kernel⟩
theorem pow_10_580 : CPowW ((10 : Int) ^ (58 : Int).toNat) 10 := ⟨by decide, by decide +kernel⟩
theorem pos_10_580 : (0 : Int) < ((10 : Int) ^ (58 : Int).toNat) ^ (10 : Int).toNat := by decide +kernel
theorem pow_10_18 : CPowW 10 18 := ⟨by decide, by decide +kernel⟩
theorem ok_dice (D : Df K mg "_law_dice" s_l_dice ["_law_script", "_law_spot"]) (z_int : mg "int" = none) (z_len : mg "len" = none) (z_abs : mg "abs" = none) (z_max : mg "max" = none) : Cg P w K mg base 1 "_law_dice" (spDice K) := by
  refine D.ok sc_l_dice (fun vs H Q E h => ?_) (fun cdv A outer s H vs Q E f hc hr h => ?_)
  · obtain ⟨a, ns, i, rfl, _⟩ := h
    rfl
  · obtain ⟨a, ns, i, rfl, hS, i0, q⟩ := h
    refine ⟨_, (pss_cons (ps_set (i := 2) sc_l_dice.nd rfl (Or.inl rfl) (pe_ifExp (pt_cmpR op_lt (pv 1) (pe_callB call_len_seq (by rfl) z_len PySem.boot_len (pa_cons (pv 0) pa_nil)) (nomark _)) (pe_ix ix_list (pv 0) (pv 1) (fun _ _ => rfl)) (pe_op op_add (pe_op op_mul pe_int (pv 1)) pe_int)))
      (pss_cons (ps_set (i := 3) sc_l_dice.nd rfl (Or.inl rfl) (pe_op op_mod (pe_callTy call_int1 (by rfl) z_int (by decide +kernel) (pa_cons (pe_callB call_abs (by rfl) z_abs (by decide +kernel) (pa_cons (pv 2) pa_nil)) pa_nil)) (pe_op op_powW (pe_op op_powW pe_int pe_int) pe_int)))
      (pss_cons (ps_set (i := 4) sc_l_dice.nd rfl (Or.inl rfl) (pe_op op_add (pe_op op_add (pe_op op_add (pe_op op_mul (pe_op op_mod (pe_callTy call_int1 (by rfl) z_int (by decide +kernel) (pa_cons (pv 3) pa_nil)) pe_int) pe_int) (pe_op op_mul pe_int (pv 1))) (pe_op op_mul pe_int (pe_callTy call_int1 (by rfl) z_int (by decide +kernel) (pa_cons (pe_cmpR op_lt (pv 2) pe_int (nomark _)) pa_nil)))) pe_int))
      (pss_one (ps_ret (pe_lst (pa_cons (pe_callB (call_max2 rfl) (by rfl) z_max (by decide +kernel) (pa_cons pe_int (pa_cons (pe_op op_sub (pv 3) (pe_op op_powW pe_int pe_int)) pa_nil))) (pa_cons (pe_op op_mod (pe_callTy call_int1 (by rfl) z_int (by decide +kernel) (pa_cons (pv 4) pa_nil)) pe_int) (pa_cons pe_int pa_nil))))))))), ?_⟩
    refine ⟨_, rfl, _, rfl, a, ns.map V.int, rfl, .inl hS, _, _, rfl, rfl, _, rfl, ite2 (fun e => ?_) (fun _ => ?_)⟩
    case' refine_2.refine_1 =>
      have lt : i < ((ns.map V.int).length : Int) := of_decide_eq_true e
      have il : i.toNat < ns.length := by
        rw [List.length_map] at lt
        omega
      have at_i : atI (ns.map V.int) i = some (.int ns[i.toNat]) := by
        refine at_of (j := i.toNat) (by omega) ?_
        rw [List.getElem?_map, List.getElem?_eq_getElem il]
        rfl
      refine ⟨_, rfl, _, rfl, a, _, i, _, rfl, rfl, hS, at_i, ?_⟩
      generalize ns[i.toNat] = cell
    case' refine_2.refine_2 =>
      refine ⟨_, rfl, _, _, rfl, rfl, by constructor <;> decide, _, _, rfl, rfl, ?_⟩
      generalize 71 * i + 37 = cell
    all_goals
      refine ⟨_, rfl, _, rfl, .inl ⟨_, rfl, _, _, rfl, rfl, pow_10_58, _, _, rfl, rfl, pow_10_580, _, _, rfl, rfl, pos_10_580, ?_⟩⟩
      refine ⟨_, rfl, .inl ⟨_, rfl, _, _, rfl, rfl, (by show (0 : Int) < _; decide), _, _, rfl, rfl, .inr (by constructor <;> decide), _, rfl, _, _, rfl, rfl, by constructor <;> decide, _, _, rfl, rfl, _, rfl, _, _, rfl, rfl, .inr ⟨_, rfl, ?_⟩⟩⟩
      refine ⟨_, _, rfl, rfl, by constructor <;> decide, _, _, rfl, rfl, _, _, rfl, rfl, ?_⟩
      refine ⟨_, rfl, _, _, rfl, rfl, pow_10_18, _, _, rfl, rfl, _, _, rfl, _, rfl, .inl ⟨_, rfl, _, _, rfl, rfl, (by show (0 : Int) < _; decide), ?_⟩⟩
      exact ⟨by show 3 ≤ sizeLine; decide, fun p hp => q p _ _ hp⟩

end
theorem at_of' {α : Type} {xs : List α} {z : Int} {j : Nat} {v : α} (e : z = (j : Int)) (h : xs[j]? = some v) : atI xs z = some v := by
  rw [e]
  exact atI_nat h
/-- what pick draws from: a list, a tuple or a text that is not empty; what may come of it -/
def Some1 (K : PySem.W.Frag) (H : Hp) (d : Addr) : V → (V → Prop) → Prop := fun x p =>
  (∃ l xs, x = .ref l ∧ l ≠ d ∧ (SqL K H l xs ∨ SqT K H l xs) ∧ xs ≠ [] ∧ xs.length ≤ 1000000 ∧ ∀ v ∈ xs, p v) ∨
  (∃ z : Str, x = .str z ∧ 0 < z.length ∧ z.length ≤ 1000000 ∧ ∀ c ∈ z.cps.toList, p (.str ⟨#[c]⟩))
/-- pick(dice, items): one of them -/
def spPick (K : PySem.W.Frag) : Sp := fun vs H Q _ => ∃ (d : Addr) (x : V) (p : V → Prop), vs = [.ref d, x] ∧ Dice H d ∧ Some1 K H d x p ∧ ∀ v H', Past d H H' → p v → Q v H'
theorem tup_past {K : PySem.W.Frag} {d a : Addr} {xs : List V} {H H' : Hp} (h : Past d H H') (n : a ≠ d) (s : SqT K H a xs) : SqT K H' a xs := by
  rcases s with (s | ⟨o, s⟩) | s
  · exact .inl (.inl (h.1 _ _ n s))
  · exact .inl (.inr ⟨o, h.1 _ _ n s⟩)
  · exact .inr s
section
variable {P : Program} {w : World} {K : PySem.W.Frag} {mg : Str → Option Value} {base : Heap}
theorem ok_pick (D : Df K mg "_law_pick" s_l_pick ["_law_dice_here", "_law_items"]) (G_l_roll : Cg P w K mg base 1 "_law_roll" spRoll) (z_len : mg "len" = none) : Cg P w K mg base 2 "_law_pick" (spPick K) := by
  refine D.ok sc_l_pick (fun vs H Q E h => ?_) (fun cdv A outer s H vs Q E f hc hr h => ?_)
  · obtain ⟨d, x, p, rfl, _⟩ := h
    rfl
  · obtain ⟨d, x, p, rfl, hd, hx, q⟩ := h
    refine ⟨_, (pss_one (ps_ret (pe_ix ix_seq (pv 1) (pe_cg G_l_roll hc hr (by rfl) (pa_cons (pv 0) (pa_cons (pe_callB call_len (by rfl) z_len (by decide +kernel) (pa_cons (pv 1) pa_nil)) pa_nil))) (fun _ _ => rfl)))), ?_⟩
    rcases hx with ⟨l, xs, rfl, ld, hs, ne, hl, hp⟩ | ⟨z, rfl, z0, hl, hp⟩
    · have x0 : 0 < xs.length := List.length_pos_iff.mpr ne
      refine ⟨_, rfl, _, rfl, _, rfl, _, xs.length, rfl, ?_, d, _, rfl, hd, by omega, small8000 hl, fun r H' pa r0 rn => ?_⟩
      · exact hs.elim (fun h => .inl ⟨_, h, rfl⟩) (fun h => .inr ⟨_, h, rfl⟩)
      · have rl : r.toNat < xs.length := by omega
        have at_r : atI xs r = some xs[r.toNat] := at_of (j := r.toNat) (by omega) (List.getElem?_eq_getElem rl)
        rcases hs with hs | hs
        · exact .inl ⟨l, xs, r, _, rfl, rfl, pa.seq ld hs, at_r, q _ _ pa (hp _ (List.getElem_mem rl))⟩
        · exact .inr (.inl ⟨l, xs, r, _, rfl, rfl, tup_past pa ld hs, at_r, q _ _ pa (hp _ (List.getElem_mem rl))⟩)
    · refine ⟨_, rfl, _, rfl, _, rfl, _, z.length, rfl, ⟨fits_million hl, rfl⟩, d, _, rfl, hd, by omega, small8000 hl, fun r H' pa r0 rn => ?_⟩
      have el : z.cps.toList.length = z.length := by simp [Str.length]
      have rl : r.toNat < z.cps.toList.length := by omega
      exact .inr (.inr ⟨z, r, _, rfl, rfl, fits_million hl, at_of' (j := r.toNat) (by omega) (List.getElem?_eq_getElem rl), q _ _ pa (hp _ (List.getElem_mem rl))⟩)

theorem ok_is_integer {t : Tok} (D : Df K mg "is_integer" s_is_integer ["value"]) (z_isinstance : mg "isinstance" = none) (z_int : mg "int" = none) (z_bool : mg "bool" = none) (z_abs : mg "abs" = none) (c_TOO_LONG : mg "_TOO_LONG" = some (.int (10 ^ 60) t)) :
    Cg P w K mg base 1 "is_integer" (spOf isInt) := by
  refine D.ok sc_is_integer (fun vs H Q E h => ?_) (fun cdv A outer s H vs Q E f hc hr h => ?_)
  · obtain ⟨v, rfl, _⟩ := h
    rfl
  · obtain ⟨v, rfl, j, q⟩ := h
    refine ⟨_, (pss_one (ps_ret (pe_and (pe_callB call_isi (by rfl) z_isinstance (by decide +kernel) (pa_cons (pv 0) (pa_cons (pe_bltn (v := .ty "int") (by rfl) z_int (by decide +kernel) rfl) pa_nil))) (pe_and (pe_not (pe_callB call_isi (by rfl) z_isinstance (by decide +kernel) (pa_cons (pv 0) (pa_cons (pe_bltn (v := .ty "bool") (by rfl) z_bool (by decide +kernel) rfl) pa_nil)))) (pe_one (pe_cmpR op_lt (pe_callB call_abs (by rfl) z_abs (by decide +kernel) (pa_cons (pv 0) pa_nil)) (pe_glob (v := .int (10 ^ 60)) rfl c_TOO_LONG ⟨_, rfl⟩) (nomark _))))))), ?_⟩
    have q' := q H (Same.refl H)
    rcases kinds (K := K) j with ⟨i, rfl, hi⟩ | ⟨b, rfl⟩ | ⟨z, rfl, hz⟩ | ⟨T, ty, k1, k2, k3, e1, e2, e3⟩
    · refine ⟨_, rfl, _, _, _, _, true, rfl, .ty _, .base (.int i), kit_ty ki_ii, _, rfl, iteT ?_⟩
      refine ⟨_, rfl, _, _, _, _, false, rfl, .ty _, .base (.int i), kit_ty ki_ib, _, rfl, _, rfl, iteT ?_⟩
      refine ⟨_, rfl, _, rfl, _, _, rfl, rfl, ?_⟩
      have e : decide ((if i < 0 then -i else i) < 10 ^ 60) = decide (i.natAbs < 10 ^ 60) := by
        apply decide_eq_decide.mpr
        split <;> omega
      show Q (V.bl (decide ((if i < 0 then -i else i) < 10 ^ 60))) H
      rw [e]
      exact q'
    · exact ⟨_, rfl, _, _, _, _, true, rfl, .ty _, .base (.bl b), kit_ty ki_bi, _, rfl, iteT ⟨_, rfl, _, _, _, _, true, rfl, .ty _, .base (.bl b), kit_ty ki_bb, _, rfl, _, rfl, iteF q'⟩⟩
    · exact ⟨_, rfl, _, _, _, _, false, rfl, .ty _, .base (.str z), kit_ty ki_si, _, rfl, iteF q'⟩
    · rw [e1] at q'
      exact ⟨_, rfl, _, _, _, _, false, rfl, .ty _, ty, kit_ty k1, _, rfl, iteF q'⟩
theorem ok_is_count (D : Df K mg "is_count" s_is_count ["value"]) (G_is_integer : Cg P w K mg base 1 "is_integer" (spOf isInt)) : Cg P w K mg base 2 "is_count" (spOf fun v => isInt v && notNeg v) := by
  refine D.ok sc_is_count (fun vs H Q E h => ?_) (fun cdv A outer s H vs Q E f hc hr h => ?_)
  · obtain ⟨v, rfl, _⟩ := h
    rfl
  · obtain ⟨v, rfl, j, q⟩ := h
    refine ⟨_, (pss_one (ps_ret (pe_and (pe_cg G_is_integer hc hr (by rfl) (pa_cons (pv 0) pa_nil)) (pe_one (pe_cmpR op_ge (pv 0) pe_int (nomark _)))))), ?_⟩
    refine ⟨_, rfl, v, rfl, j, fun H1 s1 => ⟨_, rfl, ?_⟩⟩
    have q' : Q (V.bl (isInt v && notNeg v)) H1 := q H1 s1
    cases e : isInt v with
    | false =>
      rw [e, Bool.false_and] at q'
      exact iteF q'
    | true =>
      cases v with
      | int i =>
        rw [e, Bool.true_and] at q'
        exact iteT ⟨_, rfl, _, _, rfl, rfl, q'⟩
      | _ => cases e

theorem ok_is_name {t : Tok} (D : Df K mg "is_name" s_is_name ["value"]) (z_isinstance : mg "isinstance" = none) (z_str : mg "str" = none) (z_len : mg "len" = none) (c_MAX_LETTERS : mg "MAX_LETTERS" = some (.int 8 t)) :
    Cg P w K mg base 1 "is_name" (spOf isNam) := by
  refine D.ok sc_is_name (fun vs H Q E h => ?_) (fun cdv A outer s H vs Q E f hc hr h => ?_)
  · obtain ⟨v, rfl, _⟩ := h
    rfl
  · obtain ⟨v, rfl, j, q⟩ := h
    refine ⟨_, (pss_cons (ps_if (PW.pt (pw_or (pt_not (pt_val (pe_callB call_isi (by rfl) z_isinstance (by decide +kernel) (pa_cons (pv 0) (pa_cons (pe_bltn (v := .ty "str") (by rfl) z_str (by decide +kernel) rfl) pa_nil))))) (pw_or1 (pt_not (pt_chain op_le op_le pe_int (pe_callB call_len (by rfl) z_len (by decide +kernel) (pa_cons (pv 0) pa_nil)) (pe_glob (v := .int 8) rfl c_MAX_LETTERS ⟨_, rfl⟩))))))
      (pss_one (ps_ret pe_bl))
      pss_nil)
      (pss_one (ps_ret (pe_and (pe_bm0 PySem.F.plainAttrs_str PySem.F.slot_str_isascii PySem.F.type_str_isascii mt_isascii (pv 0)) (pe_and (pe_bm0 PySem.F.plainAttrs_str PySem.F.slot_str_isalpha PySem.F.type_str_isalpha mt_isalpha (pv 0)) (pe_one (pe_bm0 PySem.F.plainAttrs_str PySem.F.slot_str_islower PySem.F.type_str_islower mt_islower (pv 0)))))))), ?_⟩
    have q' := q H (Same.refl H)
    rcases kinds (K := K) j with ⟨i, rfl, hi⟩ | ⟨b, rfl⟩ | ⟨z, rfl, hz, az⟩ | ⟨T, ty, k1, k2, k3, e1, e2, e3⟩
    · exact ⟨_, rfl, _, _, _, _, false, rfl, .ty _, .base (.int i), kit_ty ki_is, _, rfl, iteT q'⟩
    · exact ⟨_, rfl, _, _, _, _, false, rfl, .ty _, .base (.bl b), kit_ty ki_bs, _, rfl, iteT q'⟩
    · rw [isNam_str] at q'
      refine ⟨_, rfl, _, _, _, _, true, rfl, .ty _, .base (.str z), kit_ty ki_ss, _, rfl, iteF ⟨_, rfl, _, z.length, rfl, ⟨fits_million (by omega), rfl⟩, _, _, rfl, rfl, _, rfl, ?_⟩⟩
      by_cases h1 : 1 ≤ z.length
      · rw [decide_eq_true h1, Bool.true_and] at q'
        refine ite2 (fun _ => ⟨_, _, rfl, rfl, _, rfl, ?_⟩) (fun n => absurd (decide_eq_true (by omega)) n)
        by_cases h8 : z.length ≤ 8
        · rw [decide_eq_true h8, Bool.true_and, ← name_signs az h1] at q'
          refine ite2 (fun n => ?_) (fun _ => ?_)
          · rw [decide_eq_true (by omega)] at n
            cases n
          · refine ⟨_, rfl, rfl, z, rfl, rfl, trivial, _, rfl, ?_⟩
            cases ea : Txt.isascii z with
            | false =>
              rw [ea, Bool.false_and] at q'
              exact iteF q'
            | true =>
              refine iteT ⟨_, rfl, rfl, z, rfl, rfl, trivial, _, rfl, ?_⟩
              rw [ea, Bool.true_and] at q'
              cases eb : Txt.isalpha z with
              | false =>
                rw [eb, Bool.false_and] at q'
                exact iteF q'
              | true =>
                rw [eb, Bool.true_and] at q'
                exact iteT ⟨_, rfl, rfl, z, rfl, rfl, trivial, q'⟩
        · rw [decide_eq_false h8, Bool.false_and] at q'
          refine ite2 (fun _ => q') (fun n => ?_)
          rw [decide_eq_false (by omega)] at n
          exact absurd rfl n
      · rw [decide_eq_false h1, Bool.false_and, Bool.false_and] at q'
        refine ite2 (fun n => ?_) (fun _ => ⟨_, rfl, iteT q'⟩)
        have := of_decide_eq_true n
        omega
    · rw [e3] at q'
      exact ⟨_, rfl, _, _, _, _, false, rfl, .ty _, ty, kit_ty k3, _, rfl, iteT q'⟩

def spNam : Sp := fun vs H Q _ => ∃ z, vs = [.str z] ∧ z.length ≤ 1000 ∧ Asc z ∧ ∀ H', Same H H' → Q (.bl (isNam (.str z))) H'

theorem ok_is_index (D : Df K mg "is_index" s_is_index ["value", "many"]) (G_is_count : Cg P w K mg base 2 "is_count" (spOf fun v => isInt v && notNeg v)) : Cg P w K mg base 3 "is_index" (fun vs H Q _ => ∃ (v : V) (n : Int), vs = [v, .int n] ∧ Judged H v ∧ ∀ H', Same H H' → Q (.bl (match v with | .int i => (isInt v && notNeg v) && decide (i < n) | _ => false)) H') := by
  refine D.ok sc_is_index (fun vs H Q E h => ?_) (fun cdv A outer s H vs Q E f hc hr h => ?_)
  · obtain ⟨v, n, rfl, _⟩ := h
    rfl
  · obtain ⟨v, n, rfl, j, q⟩ := h
    refine ⟨_, (pss_one (ps_ret (pe_and (pe_cg G_is_count hc hr (by rfl) (pa_cons (pv 0) pa_nil)) (pe_one (pe_cmpR op_lt (pv 0) (pv 1) (nomark _)))))), ?_⟩
    refine ⟨_, rfl, v, rfl, j, fun H1 s1 => ⟨_, rfl, ?_⟩⟩
    cases v with
    | int i =>
      have q2 : Q (.bl ((isInt (.int i) && notNeg (.int i)) && decide (i < n))) H1 := q H1 s1
      show if (isInt (.int i) && notNeg (.int i)) = true then _ else _
      cases e : isInt (.int i) && notNeg (.int i) with
      | true =>
        rw [e, Bool.true_and] at q2
        exact iteT ⟨_, rfl, _, rfl, _, _, rfl, rfl, q2⟩
      | false =>
        rw [e, Bool.false_and] at q2
        exact iteF q2
    | _ => exact iteF (q H1 s1)
end
end K12
set_option Elab.async false
set_option linter.all false
set_option autoImplicit false
set_option maxRecDepth 100000
set_option maxHeartbeats 4000000
namespace K12
open PySem PySem.Spec PyProof.Rows L2 Vb Wd

theorem same_put {H H' : Hp} {D : Addr} {o : HO} (nD : H D = none) (s : Same H H') : Same H (upd H' D o) := fun b x e => by
  rw [upd_ne (ne_of_none e nD)]
  exact s b x e
/-- a child: a name and a step -/
structure Kid (H : Hp) (t : Addr) (n : Str) (s : Int) : Prop where
  at_ : H t = some (.tup [.str n, .int s])
  nam : isNam (.str n) = true
  plain : n.length ≤ 1000 ∧ Asc n
  lo : 0 ≤ s
  hi : s ≤ 3
theorem Kid.same {H H' : Hp} {t : Addr} {n : Str} {s : Int} (k : Kid H t n s) (h : Same H H') : Kid H' t n s := ⟨h _ _ k.at_, k.nam, k.plain, k.lo, k.hi⟩
/-- children: a tuple of two to four -/
structure Kids (H : Hp) (a : Addr) (ts : List Addr) (cs : List (Str × Int)) : Prop where
  at_ : H a = some (.tup (ts.map V.ref))
  len : ts.length = cs.length
  lo : 2 ≤ ts.length
  hi : ts.length ≤ 4
  kid : ∀ (i : Nat) (t : Addr) (c : Str × Int), ts[i]? = some t → cs[i]? = some c → Kid H t c.1 c.2
theorem Kids.same {H H' : Hp} {a : Addr} {ts : List Addr} {cs : List (Str × Int)} (k : Kids H a ts cs) (h : Same H H') : Kids H' a ts cs := ⟨h _ _ k.at_, k.len, k.lo, k.hi, fun i t c h1 h2 => (k.kid i t c h1 h2).same h⟩
def spStep : Sp := fun vs H Q _ => ∃ s : Int, vs = [.int s] ∧ 0 ≤ s ∧ s ≤ 3 ∧ ∀ H', Same H H' → Q (.bl true) H'
def spChild : Sp := fun vs H Q _ => ∃ t n s, vs = [.ref t] ∧ Kid H t n s ∧ ∀ H', Same H H' → Q (.bl true) H'
def spChildren : Sp := fun vs H Q _ => ∃ a ts cs, vs = [.ref a] ∧ Kids H a ts cs ∧ ∀ H', Same H H' → Q (.bl true) H'
section
variable {P : Program} {w : World} {K : PySem.W.Frag} {mg : Str → Option Value} {base : Heap}
theorem ok_is_step {t : Tok} (D : Df K mg "_is_step" s_is_step ["value"]) (G_is_count : Cg P w K mg base 2 "is_count" (spOf fun v => isInt v && notNeg v)) (c_MAX_STEP : mg "MAX_STEP" = some (.int 3 t)) : Cg P w K mg base 3 "_is_step" spStep := by
  refine D.ok sc_is_step (fun vs H Q E h => ?_) (fun cdv A outer s H vs Q E f hc hr h => ?_)
  · obtain ⟨s, rfl, _⟩ := h
    rfl
  · obtain ⟨n, rfl, lo, hi, q⟩ := h
    refine ⟨_, (pss_one (ps_ret (pe_and (pe_cg G_is_count hc hr (by rfl) (pa_cons (pv 0) pa_nil)) (pe_one (pe_cmpR op_le (pv 0) (pe_glob (v := .int 3) rfl c_MAX_STEP ⟨_, rfl⟩) (nomark _)))))), ?_⟩
    refine ⟨_, rfl, .int n, rfl, (by show n.natAbs < 10 ^ 100; exact Nat.lt_of_le_of_lt (show n.natAbs ≤ 3 by omega) (by decide)), fun H1 s1 => ⟨_, rfl, ?_⟩⟩
    have e : (isInt (.int n) && notNeg (.int n)) = true := by
      have e1 : isInt (.int n) = true := decide_eq_true (Nat.lt_of_le_of_lt (show n.natAbs ≤ 3 by omega) (by decide))
      have e2 : notNeg (.int n) = true := decide_eq_true lo
      rw [e1, e2]
      rfl
    show if (isInt (.int n) && notNeg (.int n)) = true then _ else _
    rw [if_pos e]
    refine ⟨_, rfl, _, _, rfl, rfl, ?_⟩
    show Q (.bl (decide (n ≤ 3))) H1
    rw [decide_eq_true hi]
    exact q H1 s1
theorem ok_is_child (D : Df K mg "_is_child" s_is_child ["value"]) (G_is_name : Cg P w K mg base 1 "is_name" (spOf isNam)) (G_is_step : Cg P w K mg base 3 "_is_step" spStep) (z_isinstance : mg "isinstance" = none) (z_tuple : mg "tuple" = none) (z_len : mg "len" = none) : Cg P w K mg base 4 "_is_child" spChild := by
  refine D.ok sc_is_child (fun vs H Q E h => ?_) (fun cdv A outer s H vs Q E f hc hr h => ?_)
  · obtain ⟨t, n, s, rfl, _⟩ := h
    rfl
  · obtain ⟨t, n, i, rfl, k, q⟩ := h
    refine ⟨_, (pss_one (ps_ret (pe_and (pe_callB call_isi (by rfl) z_isinstance (by decide +kernel) (pa_cons (pv 0) (pa_cons (pe_bltn (v := .ty "tuple") (by rfl) z_tuple (by decide +kernel) rfl) pa_nil))) (pe_and (pe_cmpR op_eq (pe_callB call_len_seq (by rfl) z_len PySem.boot_len (pa_cons (pv 0) pa_nil)) pe_int (nomark _)) (pe_and (pe_cg G_is_name hc hr (by rfl) (pa_cons (pe_ix (ix_tup : IxR _ (rIxT K)) (pv 0) pe_int (fun _ _ => rfl)) pa_nil)) (pe_one (pe_cg G_is_step hc hr (by rfl) (pa_cons (pe_ix (ix_tup : IxR _ (rIxT K)) (pv 0) pe_int (fun _ _ => rfl)) pa_nil)))))))), ?_⟩
    refine ⟨_, rfl, _, _, _, _, true, rfl, .ty _, .base (.tup k.at_), kit_ty (by decide +kernel), _, rfl, iteT ⟨_, rfl, t, _, rfl, .inr (.inl (.inl k.at_)), rfl, _, rfl, iteT ⟨_, rfl, t, _, _, _, rfl, rfl, .inl (.inl k.at_), rfl, .str n, rfl, k.plain, fun H1 s1 => ⟨_, rfl, ?_⟩⟩⟩⟩
    rw [k.nam]
    refine iteT ⟨_, rfl, t, _, _, _, rfl, rfl, .inl (.inl (s1 _ _ k.at_)), rfl, i, rfl, k.lo, k.hi, fun H2 s2 => q H2 (s1.trans s2)⟩
theorem ok_is_children {tk : Tok} (D : Df K mg "_is_children" s_is_children ["value"]) (G_is_child : Cg P w K mg base 4 "_is_child" spChild) (z_isinstance : mg "isinstance" = none) (z_tuple : mg "tuple" = none) (z_len : mg "len" = none) (z_all : mg "all" = none) (c_MAX_CHILDREN : mg "MAX_CHILDREN" = some (.int 4 tk)) : Cg P w K mg base 5 "_is_children" spChildren := by
  refine D.ok sc_is_children (fun vs H Q E h => ?_) (fun cdv A outer s H vs Q E f hc hr h => ?_)
  · obtain ⟨a, ts, cs, rfl, _⟩ := h
    rfl
  · obtain ⟨a, ts, cs, rfl, k, q⟩ := h
    refine ⟨_, (pss_cons (ps_if (PW.pt (pw_or (pt_not (pt_val (pe_callB call_isi (by rfl) z_isinstance (by decide +kernel) (pa_cons (pv 0) (pa_cons (pe_bltn (v := .ty "tuple") (by rfl) z_tuple (by decide +kernel) rfl) pa_nil))))) (pw_or1 (pt_not (pt_chain op_le op_le pe_int (pe_callB call_len_seq (by rfl) z_len PySem.boot_len (pa_cons (pv 0) pa_nil)) (pe_glob (v := .int 4) rfl c_MAX_CHILDREN ⟨_, rfl⟩))))))
      (pss_one (ps_ret pe_bl))
      pss_nil)
      (pss_one (ps_ret (pe_callB (cr_all rfl) (by rfl) z_all (by decide +kernel) (pa_cons (pe_lc (own := [("child", 1)]) (g := gName 1) (by rfl) sc_is_children.nd (pi_tup (pv 0)) (blkOk_by (own := [("child", 1)]) (N := ["value", "child"]) (sc := defScope s_is_children) (by decide +kernel)) (fun _ _ _ _ _ => pg_name (i := 1) sc_is_children.nd rfl (Or.inl rfl)) (fun _ _ _ _ _ => pts_nil) (fun _ _ _ _ _ => (pe_cg G_is_child hc hr (by rfl) (pa_cons (pv 1) pa_nil)))) pa_nil))))), ?_⟩
    have hT : ∀ {H' : Hp}, Same H H' → SqT K H' a (ts.map V.ref) := fun s => .inl (.inl (s _ _ k.at_))
    have tl := k.len
    refine ⟨_, rfl, _, _, _, _, true, rfl, .ty _, .base (.tup k.at_), kit_ty (by decide +kernel), _, rfl, iteF ⟨_, rfl, a, _, rfl, .inr (hT (Same.refl H)), ?_⟩⟩
    have len : (ts.map V.ref).length = ts.length := List.length_map ..
    have l2 := k.lo
    have l4 := k.hi
    refine ⟨_, _, rfl, rfl, _, rfl, ite2 (fun _ => ⟨_, _, rfl, rfl, _, rfl, ite2 (fun n => ?_) (fun _ => ?_)⟩) (fun n => absurd (decide_eq_true (show (2 : Int) ≤ ((ts.map V.ref).length : Int) by rw [len]; omega)) n)⟩
    · have e : decide (((ts.map V.ref).length : Int) ≤ 4) = true := decide_eq_true (by rw [len]; omega)
      rw [e] at n
      cases n
    refine ⟨_, rfl, a, rfl, ⟨_, hT (Same.refl H)⟩, fun D nD => lc_tup (K := K) (a := a) (xs := ts.map V.ref) (fun i H' => Same H H' ∧ H' D = some (.lst ((List.replicate i true).map V.bl))) ⟨same_put nD (Same.refl H), upd_same⟩ (fun i H' _ h => hT h.1) (fun i x H1 hx h => ?_) (fun H1 h => ?_)⟩
    · obtain ⟨s1, e1⟩ := h
      rw [List.getElem?_map] at hx
      obtain ⟨t, ht, rfl⟩ := Option.map_eq_some_iff.mp hx
      have il : i < cs.length := by rw [← tl]; exact (List.getElem?_eq_some_iff.mp ht).1
      refine ⟨rfl, _, rfl, t, _, _, rfl, (k.kid i t cs[i] ht (List.getElem?_eq_getElem il)).same s1, fun H2 s2 => ⟨_, s2 _ _ e1, ?_, same_put nD (s1.trans s2), ?_⟩⟩
      · rw [List.length_map, List.length_replicate]
        exact Nat.lt_of_lt_of_le (show i < 5 by omega) (by decide)
      · rw [upd_same, List.replicate_succ', List.map_append]
        rfl
    · obtain ⟨s1, e1⟩ := h
      refine ⟨D, _, rfl, .inl (.inl e1), ?_⟩
      have ea : (List.replicate (ts.map V.ref).length true).all id = true := by
        rw [List.all_eq_true]
        intro b hb
        rw [(List.mem_replicate.mp hb).2]
        rfl
      rw [ea]
      exact q H1 s1
end
end K12
set_option Elab.async false
set_option linter.all false
set_option autoImplicit false
set_option maxRecDepth 100000
set_option maxHeartbeats 4000000
/-! Xk: own errors with an __init__ of their own over any built-in error, KeyError too: KeyError has no __new__ of its own, so what makes is named after its base. -/
namespace Xk
open PySem PySem.F PySem.PX Builtin Builtin.ObjectAttr
abbrev keTail : List Value := [.type "KeyError", .type "LookupError", .type "Exception", .type "BaseException", .type "object"]
theorem storeKE : StoreFacts "KeyError" keTail "object.__setattr__" "object" := by
  constructor
  case mro => kernel_rfl
  case slot =>
    refine .of (owner := "object") (n := "__setattr__") ?_ ?_ ?_ ?_ ?_ ?_
    · rw [typeLookup_type, builtinLookup_eq_fast]; kernel_rfl
    · decide +kernel
    · decide +kernel
    · decide +kernel
    · first
      | exact .inl (by decide +kernel)
      | exact .inr (by decide +kernel)
    · rw [isSubtype_type]; kernel_rfl
  case entry => exact entry_object_sa
  case kind => decide +kernel
  case split => decide +kernel
  case hasOwner => decide +kernel
  case args => intro a b c; unfold argsOk; kernel_rfl
  case passes => intro self; kernel_rfl
/-- what of the mro the making asks -/
structure Over (bm : List Value) (B : String) : Prop where
  base : bm.contains (.type B) = true
  attr : bm.contains (.type "AttributeError") = false
  name : bm.contains (.type "NameError") = false
section
variable {prog : Program} {w : World} {A : Around} {E : Value → Shared → Prop} {R : Result → Shared → Prop} {h : Heap} {g : Array GenState} {d : Drawn} {t : Nat} {os : OsState}
variable {nm q : Str} {C N : Addr} {bs bm bmB : List Value} {hdct : Bool} {sn : List Str} {sub : List Value} {ab : Bool} {col : Option Bool} {dd : Option Addr} {k0 k1 k2 k3 k5 : Option Value} {B newId initId : String}
theorem asks_new {M : Model} (F : ExcBaseFacts B newId initId bmB) (O : Over bm B) {us : List Value} {Q : Unit → Shared → Prop}
    (at_C : h.get? C = some (excClassObj nm q C N bs bm hdct sn sub ab col dd k0 k1 k2 k3 k5 newId)) (k : Q () ⟨h, g, d, t, os⟩) : wpAny M A (checkBuiltinCall newId ⟨.ref C :: us, []⟩) Q E ⟨h, g, d, t, os⟩ := by
  have inB : (Value.ref C :: bm).contains (.type B) = true := by rw [List.contains_cons, O.base, Bool.or_true]
  have st := F.noStar
  simp only [checkBuiltinCall, F.newKind, F.newSplit, F.newRow]
  repeat
    first
    | refine wpAny_loadPart_at at_C ?_
    | refine wpAny_isSubtype_exc at_C ?_; rw [inB]
    | refine wpAny_staticBase_exc at_C ?_
    | refine wpAny_madeBy_exc at_C ?_
    | simp only [bne_self_eq_false, Bool.false_eq_true, if_false]
    | wp_step
  exact k
theorem makes_new (F : ExcBaseFacts B newId initId bmB) (O : Over bm B) {us : List Value} (at_C : h.get? C = some (excClassObj nm q C N bs bm hdct sn sub ab col dd k0 k1 k2 k3 k5 newId)) (few : us.length ≤ sizeLine)
    (k : R (.ok (.ret (.ref (h.objs.size + 1)))) ⟨(h.push (W.kdv_tup us)).push (excO C h.objs.size), g, d, t, os⟩) : codeAny (model prog w) A (.builtin newId ⟨.ref C :: us, []⟩) R ⟨h, g, d, t, os⟩ := by
  have ends := F.ends
  have inB : (Value.ref C :: bm).contains (.type B) = true := by rw [List.contains_cons, O.base, Bool.or_true]
  have inA : (Value.ref C :: bm).contains (.type "AttributeError") = false := by rw [List.contains_cons, O.attr]; rfl
  have inN : (Value.ref C :: bm).contains (.type "NameError") = false := by rw [List.contains_cons, O.name]; rfl
  refine codeAny_builtinAt F.entry ?_
  unfold Builtin.«BaseException.__new__»
  refine wpAt_bind ?_
  show wpAt _ _ _ (stack >>= _) _ _ _
  refine wpAt_bind (wpAt_stack fun p below => wpAt_of_wpAny ?_)
  wp_walk
  refine wpAt_of_wpAny ?_
  rw [F.owner]
  repeat
    first
    | with_reducible refine wpAny_madeHere_exc F.canon at_C ?_
    | with_reducible refine wpAny_loadPart_at at_C ?_
    | (with_reducible refine wpAny_isSubtype_exc at_C ?_; first | rw [inB] | rw [inA] | rw [inN])
    | wp_step
  show R _ _
  rw [Heap.size_push]
  exact k
theorem type_makes (F : ExcBaseFacts B newId initId bmB) (O : Over bm B) {us : List Value} {fI : Addr} {Q : Fin → Shared → Prop} (at_C : h.get? C = some (excClassObj nm q C N bs bm hdct sn sub ab col dd k0 k1 k2 k3 k5 newId))
    (ini : W.Looks (model prog w) h (typeLookup (.ref C) "__init__") (some (.ref fI))) (bnd : ∀ x, W.Looks (model prog w) h (bindSpecial (.ref fI) x) (.ref fI, [x])) (few : us.length ≤ sizeLine)
    (k : codeAny (model prog w) A (.call (.ref fI) ⟨.ref (h.objs.size + 1) :: us, []⟩)
      (fun r s' => match r with
        | .ok (.ret v) => v = .none ∧ Q (.done (.ret (.ref (h.objs.size + 1)))) s'
        | .ok _ => False
        | .error e => E e s')
      ⟨(h.push (W.kdv_tup us)).push (excO C h.objs.size), g, d, t, os⟩) : wpAny (model prog w) A (Builtin.«type.__call__» ⟨.ref C :: us, []⟩) Q E ⟨h, g, d, t, os⟩ := by
  repeat
    first
    | with_reducible refine wpAny_loadPart_at at_C ?_
    | with_reducible refine wpAny_madeBy_exc at_C ?_
    | wp_step
  refine codeAny_call_builtin_code (Code.quiet_builtin _ F.quiet) (asks_new F O at_C ?_)
  refine makes_new F O at_C few ?_
  show wpAny _ _ _ _ _ _
  have keeps : ∀ b o, h.get? b = some o → ((h.push (W.kdv_tup us)).push (excO C h.objs.size)).get? b = some o := fun b o e =>
    Heap.get?_push_of_some _ (Heap.get?_push_of_some _ e)
  have at_C' := keeps _ _ at_C
  have at_x : ((h.push (W.kdv_tup us)).push (excO C h.objs.size)).get? (h.objs.size + 1) = some (excO C h.objs.size) := by heap_get
  have inC : (Value.ref C :: bm).contains (.ref C) = true := by simp
  have ini' := ini.keeps keeps
  have bnd' := (bnd (.ref (h.objs.size + 1))).keeps keeps
  unfold isInstance
  repeat
    first
    | with_reducible refine wpAny_loadPart_at at_x ?_
    | (with_reducible refine wpAny_isSubtype_exc at_C' ?_; rw [inC])
    | wp_step
  show wpAny _ _ (typeLookup (.ref C) _) _ _ _
  refine ini'.at (wpAny_holding (wpAny_bind (bnd'.at (wpAny_bind (wpAny_call (codeAny_mono k fun r s' z => ?_))))))
  rcases r with e | fl
  · exact z
  · cases fl
    case ret v =>
      obtain ⟨rfl, y⟩ := z
      first
      | exact wpAny_pure (wpAny_pure y)
      | (wp_walk; exact y)
    all_goals exact z.elim
theorem calls_own (F : ExcBaseFacts B newId initId bmB) (O : Over bm B) {us : List Value} {fI : Addr} (at_C : h.get? C = some (excClassObj nm q C N bs bm hdct sn sub ab col dd k0 k1 k2 k3 k5 newId))
    (ini : W.Looks (model prog w) h (typeLookup (.ref C) "__init__") (some (.ref fI))) (bnd : ∀ x, W.Looks (model prog w) h (bindSpecial (.ref fI) x) (.ref fI, [x])) (few : us.length ≤ sizeLine)
    (k : codeAny (model prog w) (A.under (.builtin "type.__call__" ⟨.ref C :: us, []⟩)) (.call (.ref fI) ⟨.ref (h.objs.size + 1) :: us, []⟩) (W.InitBack (h.objs.size + 1) R) ⟨(h.push (W.kdv_tup us)).push (excO C h.objs.size), g, d, t, os⟩) :
    codeAny (model prog w) A (.call (.ref C) ⟨us, []⟩) R ⟨h, g, d, t, os⟩ := by
  have l1 := tc_lookup
  have l2 := tc_bind (.ref C)
  have ty : (⟨h, g, d, t, os⟩ : Shared).TypeIs (.ref C) "type" := ⟨_, at_C, rfl⟩
  refine codeAny_of_tree ?_
  show wpAny _ _ (callAny (.ref C) _) _ _ _
  repeat
    any_goals
      first
      | assumption
      | with_reducible refine wpAny_loadPart_at at_C ?_
      | wp_step
  refine ⟨rfl, ?_⟩
  refine codeAny_call_builtin_at (Code.quiet_builtin _ (by decide +kernel)) entry_typeCall (wpAny_check_type_call_sub at_C (type_makes F O at_C ini bnd few ?_))
  refine codeAny_mono k fun r s' z => ?_
  rcases r with e | (v | _ | _ | _) <;> exact z
end
end Xk
set_option Elab.async false
set_option linter.all false
set_option autoImplicit false
set_option maxRecDepth 100000
set_option maxHeartbeats 4000000
/-! Xe: own errors as values: made, with an __init__ of their own or without, asked by isinstance, their fields read. -/
namespace Xe
open PySem PySem.Spec PyProof.Rows L2 Vb Wd
/-- what an own error class tells of its instances -/
structure EC (K : PySem.W.Frag) (C : Addr) : Prop where
  ga : PySem.W.findIn K (.ref C) "__getattribute__" = some (some (.builtin "BaseException.__getattribute__"))
  gt : PySem.W.findIn K (.ref C) "__getattr__" = some none
  sub : PySem.W.subIn K (.ref C) (.type "BaseException") = some true
  ca : PySem.W.findIn K (.ref C) "__class__" = some (some (.builtin "object.__class__"))
  sp : PySem.W.specialIn K (.builtin "object.__class__") "__get__" = some (some (.builtin "getset_descriptor.__get__"))
  tk : PySem.W.takesIn K (.builtin "object.__class__") = some true
  mo : PySem.W.mroIn K C (.type "object") = some true
  hd : PySem.W.hasDictIn K C = true
/-- the same as one question to the written part -/
def ecB (K : PySem.W.Frag) (C : Addr) : Bool :=
  decide (PySem.W.findIn K (.ref C) "__getattribute__" = some (some (.builtin "BaseException.__getattribute__"))) &&
  (decide (PySem.W.findIn K (.ref C) "__getattr__" = some none) &&
  (decide (PySem.W.subIn K (.ref C) (.type "BaseException") = some true) &&
  (decide (PySem.W.findIn K (.ref C) "__class__" = some (some (.builtin "object.__class__"))) &&
  (decide (PySem.W.specialIn K (.builtin "object.__class__") "__get__" = some (some (.builtin "getset_descriptor.__get__"))) &&
  (decide (PySem.W.takesIn K (.builtin "object.__class__") = some true) &&
  (decide (PySem.W.mroIn K C (.type "object") = some true) && PySem.W.hasDictIn K C))))))
theorem ec_of {K : PySem.W.Frag} {C : Addr} (h : ecB K C = true) : EC K C := by
  unfold ecB at h
  simp only [Bool.and_eq_true, decide_eq_true_eq] at h
  obtain ⟨h1, h2, h3, h4, h5, h6, h7, h8⟩ := h
  exact ⟨h1, h2, h3, h4, h5, h6, h7, h8⟩
/-- an own error of the class at C stands at a -/
def ErrAt (H : Hp) (a C : Addr) : Prop := H a = some (ExO (.ref C) a) ∨ ∃ d fs, H a = some (exo a C (some d)) ∧ H d = some (exd d fs)
theorem ErrAt.same {H H' : Hp} {a C : Addr} (s : Same H H') : ErrAt H a C → ErrAt H' a C
  | .inl e => .inl (s _ _ e)
  | .inr ⟨d, fs, e1, e2⟩ => .inr ⟨d, fs, s _ _ e1, s _ _ e2⟩
section
variable {X : Cx} {pins : List (Addr × Obj)} {σ : L2.St} {H : Hp} {s : Shared}
theorem err_inst {a C : Addr} (I : Inv X pins σ H s) (h : ErrAt H a C) : ∃ (oe : Obj) (od : Option Obj), PySem.W.InstAt s.heap a oe C od := by
  rcases h with h | ⟨d, fs, e1, e2⟩
  · obtain ⟨⟨oe, vs, ho, hz, hd, _⟩, _, _⟩ := I.hok a _ h
    exact ⟨oe, none, ho, hz.1, by unfold PySem.W.notCls; rw [hd], by rw [hz.2]; trivial⟩
  · obtain ⟨t1, ho⟩ := exo_at I.hok e1
    obtain ⟨mA, hns, _⟩ := exd_at I.hok e2
    obtain ⟨od, hod, _⟩ := lookIn_ns hns
    exact ⟨_, some od, ho, rfl, rfl, hod⟩
/-- isinstance(e, c), e an own error -/
def rIsE (K : PySem.W.Frag) : List V → Hp → VK → Prop := fun xs H Q => ∃ (a C : Addr) (c : V) (u : Value) (b : Bool), xs = [.ref a, c] ∧ ClsV c u ∧ EC K C ∧ ErrAt H a C ∧ PySem.W.kitOne K (.ref C) u = some b ∧ Q (.bl b) H
theorem cr_isE : CallR X (.builtin "isinstance") (rIsE X.K) := by
  intro pins s σ H xs us Q I r h
  obtain ⟨a, C, c, u, b, rfl, k, T, at_, e, q⟩ := h
  obtain ⟨u1, u2, rfl, r1, r2⟩ := vals2 r
  cases (show u1 = Value.ref a from r1)
  have e2 := k.eq r2
  subst e2
  obtain ⟨oe, od, J⟩ := err_inst I at_
  obtain ⟨cd, hc, _⟩ := PySem.W.any_some T.hd
  exact PySem.W.kia_one (PySem.W.kitx_exc (by rw [hc]; rfl) T.ga T.gt T.sub T.ca T.sp T.tk T.mo) I.kIn J e (fun z => nomatch z) fun tk => ⟨.bl b, H, I.tok tk, rfl, q⟩
/-- e.f, e an own error that bears f -/
def tEf (K : PySem.W.Frag) (f : Str) (te : TE) : TE := fun σ H Q => te σ H fun x H1 => ∃ (a C d : Addr) (fs : List (Str × V)) (v : V), x = .ref a ∧ EC K C ∧ PySem.W.findIn K (.ref C) f = some none ∧
  H1 a = some (exo a C (some d)) ∧ H1 d = some (exd d fs) ∧ fs.lookup f = some v ∧ Q v H1
theorem pe_ef {e : Expr} {te : TE} {pos : Pos} {f : Str} (he : PE X e te) (hb : attributeBase e f X.env (eval e X.env) = eval e X.env := by rfl) : PE X (.Attribute e f pos) (tEf X.K f te) := by
  refine ⟨fun pins s σ H Q I h => ?_⟩
  refine attr_of hb (thn (he.run pins s σ H _ I h) fun u s1 hh => ?_)
  obtain ⟨x, H1, I1, rx, a, C, d, fs, v, ex, T, no, e1, e2, l, q⟩ := hh
  subst ex
  obtain rfl : u = Value.ref a := rx
  obtain ⟨t1, ho⟩ := exo_at I1.hok e1
  obtain ⟨mA, hns, hr⟩ := exd_at I1.hok e2
  obtain ⟨od, hod, hl⟩ := lookIn_ns hns
  obtain ⟨u, hu, ru⟩ := RelO.some_of (v := v) (o := mA f) (by rw [← l]; exact hr f)
  exact HandSPX.exc_get I1.kIn ⟨ho, rfl, rfl, hod⟩ T.ga T.gt T.sub (PySem.W.findObj_own T.hd no rfl (by rw [hl, hu])) (handed_of ru) ⟨v, H1, I1.tok _, ru, q⟩
end
end Xe
set_option Elab.async false
set_option linter.all false
set_option autoImplicit false
set_option maxRecDepth 100000
set_option maxHeartbeats 4000000
/-! Xi: own errors whose __init__ keeps one field: the store, the making. -/
namespace Xi
open PySem PySem.Spec PyProof.Rows L2 Vb Wd Xe Xk Builtin Builtin.ObjectAttr
/-- an own error class at C with an __init__ of its own, the function at fI -/
structure EI (K : PySem.W.Frag) (C fI : Addr) : Prop extends EC K C where
  sa : PySem.W.findIn K (.ref C) "__setattr__" = some (some (.builtin "object.__setattr__"))
  iC : PySem.W.findIn K (.ref C) "__init__" = some (some (.ref fI))
  tI : PySem.W.typeIn K (.ref fI) = some (.type "function")
  kC : PySem.W.keepIn K (.ref C) = true
  ty : PySem.W.typeIn K (.ref C) = some (.type "type")
  st : ∃ (B : String) (bm : List Value), StoreFacts B bm "object.__setattr__" "object" ∧ PySem.W.excOver K C bm = true
  mak : ∃ (B newId initId : String) (bmB bm : List Value), ExcBaseFacts B newId initId bmB ∧ PySem.W.excInitIn K C bm newId = true ∧ Over bm B
def eiB (K : PySem.W.Frag) (C fI : Addr) (bm : List Value) (newId : String) : Bool :=
  ecB K C && (decide (PySem.W.findIn K (.ref C) "__setattr__" = some (some (.builtin "object.__setattr__"))) && (decide (PySem.W.findIn K (.ref C) "__init__" = some (some (.ref fI))) &&
  (decide (PySem.W.typeIn K (.ref fI) = some (.type "function")) && (PySem.W.keepIn K (.ref C) && (decide (PySem.W.typeIn K (.ref C) = some (.type "type")) && (PySem.W.excOver K C bm && PySem.W.excInitIn K C bm newId))))))
theorem ei_of {K : PySem.W.Frag} {C fI : Addr} {bm bmB : List Value} {B B' newId initId : String} (S : StoreFacts B' bm "object.__setattr__" "object") (F : ExcBaseFacts B newId initId bmB) (O : Over bm B) (h : eiB K C fI bm newId = true) : EI K C fI := by
  unfold eiB at h
  simp only [Bool.and_eq_true, decide_eq_true_eq] at h
  obtain ⟨h1, h2, h3, h4, h5, h8, h6, h7⟩ := h
  exact { toEC := ec_of h1, sa := h2, iC := h3, tI := h4, kC := h5, ty := h8, st := ⟨_, _, S, h6⟩, mak := ⟨_, _, _, _, _, F, h7, O⟩ }
section
variable {X : Cx} {pins : List (Addr × Obj)} {σ : L2.St} {H : Hp} {s : Shared} {a C fI : Addr} {f : Str} {y : V} {u : Value}
theorem store_first {A : Around} {Q : Unit → Shared → Prop} {E : Value → Shared → Prop} (T : EI X.K C fI) (no : PySem.W.findIn X.K (.ref C) f = some none) (I : Inv X pins σ H s) (e : H a = some (exo a C none)) (ry : RelV y u)
    (k : ∀ d s', H d = none → d ≠ a → Inv X pins σ (upd (upd H a (exo a C (some d))) d (exd d [(f, y)])) s' → Q () s') : wpAny (model X.prog X.w) A (setAttr (.ref a) f u) Q E s := by
  obtain ⟨t1, ho⟩ := exo_at I.hok e
  obtain ⟨B, bm, S, ov⟩ := T.st
  obtain ⟨cd, hc, hd⟩ := PySem.W.any_some T.hd
  obtain ⟨hp, g, dr, t, os⟩ := s
  have tkr : PySem.W.takerIn X.K C f = some none := by
    unfold PySem.W.takerIn
    rw [no]
    rfl
  have J : PySem.W.InstAt hp a { cls := .ref C, dict := none, data := .fields #[.ref t1, .none, .none, .none, .bool false, .none] } C none := ⟨ho, rfl, rfl, trivial⟩
  refine PySem.W.set_plain I.kIn J T.sa (PySem.W.osa_openX (s := ⟨hp, g, dr, t + 1, os⟩) S I.kIn J ov tkr fun b => ?_)
  refine wpAny_bind (wpAny_pure (wpAny_bind (PySem.W.instanceDict_exc ho (PySem.W.looks_clsIn I.kIn hc) hd ?_)))
  show wpAny _ _ (storeInDict hp.objs.size (.str f t) f u) _ _ _
  have ane : a ≠ hp.objs.size := Nat.ne_of_lt (Heap.lt_size ho)
  have nd : H hp.objs.size = none := I.hok.fresh (Nat.le_refl _)
  refine PX.store_in_new ?_ fun h' tk' hn' hs => ?_
  · exact ⟨_, #[], _, (Heap.get?_update_ne _ _ _ _ ane.symm).trans (Heap.get?_push_at rfl rfl), rfl, fun e he => absurd he (by simp), fun _ => rfl⟩
  -- the object with its dict's address
  have at_a : (hp.update a fun o => { o with dict := some hp.objs.size }).get? a = some { cls := .ref C, dict := some hp.objs.size, data := .fields #[.ref t1, .none, .none, .none, .bool false, .none] } := Heap.get?_update_self _ ho rfl
  have I1 := I.write (t' := t) (x := a) (e := a) (o := exo a C (some hp.objs.size)) (h' := hp.update a fun o => { o with dict := some hp.objs.size }) (by rw [e]; exact True.intro) (.inl rfl)
    (fun b o nb q => (Heap.get?_update_ne _ _ _ _ nb).trans q) ⟨_, at_a⟩ (exo_ok at_a)
  refine k hp.objs.size _ nd ane.symm (I1.laid (t' := tk') (h' := h') (fun b o q => ?_) (by rw [Heap.size_update]; exact Nat.le_refl _) (exd_ok hn' (relO_put (fs := []) ry fun _ => True.intro)))
  have lt : b ≠ hp.objs.size := by
    have l := Heap.lt_size q
    rw [Heap.size_update] at l
    exact Nat.ne_of_lt l
  refine (hs.2 b lt).trans ?_
  by_cases eb : b = a
  · subst eb
    rw [at_a] at q
    cases q
    exact Heap.get?_update_self _ (Heap.get?_push_of_some _ ho) rfl
  · rw [Heap.get?_update_ne _ _ _ _ eb] at q ⊢
    exact Heap.get?_push_of_some _ q
end
end Xi
set_option Elab.async false
set_option linter.all false
set_option autoImplicit false
set_option maxRecDepth 100000
set_option maxHeartbeats 4000000
/-! Xm: self.f = e in such an __init__, and the call of the class. -/
namespace Xm
open PySem PySem.Spec PyProof.Rows L2 Vb Wd Xe Xk Xi
/-- what the one-field __init__ of the class at C promises -/
def spSet (K : PySem.W.Frag) (C fI : Addr) (f : Str) : Sp := fun vs H Q _ => ∃ (a : Addr) (y : V), vs = [.ref a, y] ∧ EI K C fI ∧ PySem.W.findIn K (.ref C) f = some none ∧ H a = some (exo a C none) ∧
  ∀ d, H d = none → d ≠ a → Q .non (upd (upd H a (exo a C (some d))) d (exd d [(f, y)]))
/-- self.f = e -/
def tSetE (K : PySem.W.Frag) (f : Str) (to te : TE) : TS := fun D σ H => te σ H fun y H1 => to σ H1 fun x H2 => ∃ a C fI : Addr, x = .ref a ∧ EI K C fI ∧ PySem.W.findIn K (.ref C) f = some none ∧ H2 a = some (exo a C none) ∧
  ∀ d, H2 d = none → d ≠ a → D.nx σ (upd (upd H2 a (exo a C (some d))) d (exd d [(f, y)]))
/-- C(e): a new error that bears its one field -/
def tMkE (C : Addr) (f : Str) (ta : TA) : TE := fun σ H Q => ta σ H fun vs H1 => ∃ y, vs = [y] ∧ ∀ a d, H1 a = none → H1 d = none → d ≠ a → Q (.ref a) (upd (upd H1 a (exo a C (some d))) d (exd d [(f, y)]))
section
variable {X : Cx} {o e : Expr} {to te : TE} {ta : TA} {f : Str} {p p' pos : Pos}
theorem ps_setE (ho : PE X o to) (he : PE X e te) (hs : swapsWith e (some (.Attribute o f p')) pos.line X.env = pure false := by rfl) : PS X (.Assign [.Attribute o f p'] e pos) (tSetE X.K f to te) := by
  refine ⟨fun pins s σ H D I h => ?_⟩
  refine plainObj_wpAny_Assign_Attribute (thn (he.run pins s σ H _ I h) fun v s1 ⟨y, H1, I1, r1, q1⟩ => ?_) hs
  refine thn (ho.run pins s1 σ H1 _ I1 q1) fun u s2 ⟨x, H2, I2, r2, a, C, fI, ex, T, no, ea, q⟩ => ?_
  subst ex
  obtain rfl : u = Value.ref a := r2
  exact store_first T no I2 ea r1 fun d s' nd ne J => ⟨σ, _, J, q d nd ne⟩
theorem pe_mkE {x : Str} {C fI : Addr} {k : Nat} {fd : FuncData} {ps : List Str} (T : EI X.K C fI) (no : PySem.W.findIn X.K (.ref C) f = some none) (F1 : FnG X.prog X.w X.K X.mg X.base k fI fd ps (spSet X.K C fI f)) (hc : Calm X.A) (hr : Room (k + 1) X.A) (hb : Binds X.K fd ps [])
    (hg : Gl X x) (hm : X.mg x = some (.ref C)) (ha : PA X [e] ta) (hdb : (x == ("__debug__" : Str)) = false := by decide) (he : starEach [e] X.env = (false, eval e X.env) :: starEach [] X.env := by rfl) (hpl : (backTo pos (starEach ([] : List Expr) X.env)).any (·.1) = false := by rfl) :
    PE X (.Call (.Name x p) [e] [] pos) (tMkE C f ta) := by
  refine ⟨fun pins s σ H Q I h => ?_⟩
  obtain ⟨B, newId, initId, bmB, bm, FB, ini, O⟩ := T.mak
  refine wpAny_Call_Name_kw (ld_glob I hg hm ?_ hdb)
  refine PySem.W.callWith_K (h₀ := X.base) I.ok.mod.kin T.kC (thn (ha.run pos pins s σ H _ I h) fun us s1 ⟨vs, H1, I1, r1, y, ev, q1⟩ => ⟨I1.kIn, ?_⟩) he hpl
  subst ev
  show wpAny _ _ (call (.ref C) us) _ _ _
  obtain ⟨v, rfl, r2⟩ := vals1 r1
  obtain ⟨nm, N, qn, bs, bm', hdct, sn, sub, ab, col, dd, k0, k1, k2, k3, k5, hC, same⟩ := PySem.W.excInit_of I1.kIn ini
  have O' : Over bm' B := ⟨(same B).trans O.base, (same _).trans O.attr, (same _).trans O.name⟩
  obtain ⟨hp, g, dr, tk, os⟩ := s1
  have sz : hp.objs.size ≤ hp.objs.size + 1 := Nat.le_succ _
  have n1 : H1 (hp.objs.size + 1) = none := I1.hok.fresh sz
  have keeps : ∀ b o, hp.get? b = some o → ((hp.push (PySem.W.kdv_tup [v])).push (PX.excO C hp.objs.size)).get? b = some o := fun b o e => Heap.get?_push_of_some _ (Heap.get?_push_of_some _ e)
  have at_x : ((hp.push (PySem.W.kdv_tup [v])).push (PX.excO C hp.objs.size)).get? (hp.objs.size + 1) = some (PX.excO C hp.objs.size) := by heap_get
  have I2 : Inv X pins σ (upd H1 (hp.objs.size + 1) (exo (hp.objs.size + 1) C none)) ⟨(hp.push (PySem.W.kdv_tup [v])).push (PX.excO C hp.objs.size), g, dr, tk, os⟩ :=
    I1.laid (t' := tk) (a := hp.objs.size + 1) (h' := (hp.push (PySem.W.kdv_tup [v])).push (PX.excO C hp.objs.size)) keeps sz (exo_ok at_x)
  have r3 : Vals [V.ref (hp.objs.size + 1), y] ([Value.ref (hp.objs.size + 1), v]) := .cons rfl (.cons r2 .nil)
  have pr : spSet X.K C fI f [V.ref (hp.objs.size + 1), y] (upd H1 (hp.objs.size + 1) (exo (hp.objs.size + 1) C none)) (fun z H2 => z = .non ∧ Q (.ref (hp.objs.size + 1)) H2) (fun _ _ _ => False) := by
    refine ⟨_, y, rfl, T, no, upd_same, fun d nd ne => ⟨rfl, ?_⟩⟩
    rw [upd_upd]
    rw [upd_ne ne] at nd
    exact q1 _ d n1 nd ne
  have len : [Value.ref (hp.objs.size + 1), v].length = ps.length := F1.count _ _ _ _ pr
  refine wpAny_call (calls_own FB O' hC (PySem.W.looks_findIn I1.kIn T.iC) (fun self => PySem.W.bind_fn I1.kIn self T.tI) (by show 1 ≤ sizeLine; decide) ?_)
  refine codeAny_mono (F1.goes _ X.stack _ _ ⟨[Value.ref (hp.objs.size + 1), v], []⟩ [Value.ref (hp.objs.size + 1), v] _ _ (fun _ _ _ => False) hc (hr.make C [v] []) (I2.env0.make C [v] []) (by simpa using hb _ [Value.ref (hp.objs.size + 1), v] I2.kIn (by simpa using len)) r3 pr) fun r s' hq => ?_
  match r, hq with
  | .error er, hq => exact pass0 pins σ _ _ er s' I2 hq
  | .ok (.ret u), hq =>
    obtain ⟨z, H2, os2, bare2, un2, hok2, rz, ez, q2⟩ := hq
    subst ez
    have e0 : u = Value.none := rz
    subst e0
    have J := I2.after (Q := fun z H2 => z = V.non ∧ Q (.ref (hp.objs.size + 1)) H2) ⟨.non, H2, os2, bare2, un2, hok2, rz, rfl, q2⟩
    obtain ⟨z', H3, J3, _, _, q3⟩ := J
    exact ⟨rfl, .ref (hp.objs.size + 1), H3, J3, rfl, q3⟩
  | .ok .next, hq => exact hq.elim
  | .ok .brk, hq => exact hq.elim
  | .ok .cont, hq => exact hq.elim
end
end Xm
set_option Elab.async false
set_option linter.all false
set_option autoImplicit false
set_option maxRecDepth 100000
set_option maxHeartbeats 4000000
/-! Xr: such an error raised. -/
namespace Xr
open PySem PySem.Spec PyProof.Rows L2 Vb Wd Xe Xk Xi Xm
def tRaE (C : Addr) (f : Str) (ta : TA) : L2.St → Hp → XK → Prop := fun σ H Q => ta σ H fun vs H1 => ∃ y, vs = [y] ∧ ∀ d, H1 d = none → Q (.ref C) (some d) (upd H1 d (.xd [(f, y)]))
section
variable {X : Cx} {e : Expr} {ta : TA} {f : Str} {p pos : Pos}
theorem pmk_E {x : Str} {C fI : Addr} {k : Nat} {fd : FuncData} {ps : List Str} (T : EI X.K C fI) (no : PySem.W.findIn X.K (.ref C) f = some none) (F1 : FnG X.prog X.w X.K X.mg X.base k fI fd ps (spSet X.K C fI f)) (hc : Calm X.A) (hr : Room (k + 1) X.A) (hb : Binds X.K fd ps [])
    (hg : Gl X x) (hm : X.mg x = some (.ref C)) (ha : PA X [e] ta) (hdb : (x == ("__debug__" : Str)) = false := by decide) (he : starEach [e] X.env = (false, eval e X.env) :: starEach [] X.env := by rfl) (hpl : (backTo pos (starEach ([] : List Expr) X.env)).any (·.1) = false := by rfl) :
    L2.PMk X (.Call (.Name x p) [e] [] pos) (tRaE C f ta) := by
  intro pins s σ H Q I h
  obtain ⟨B, newId, initId, bmB, bm, FB, ini, O⟩ := T.mak
  refine wpAny_Call_Name_kw (ld_glob I hg hm ?_ hdb)
  refine PySem.W.callWith_K (h₀ := X.base) I.ok.mod.kin T.kC (thn (ha.run pos pins s σ H _ I h) fun us s1 ⟨vs, H1, I1, r1, y, ev, q1⟩ => ⟨I1.kIn, ?_⟩) he hpl
  subst ev
  show wpAny _ _ (call (.ref C) us) _ _ _
  obtain ⟨v, rfl, r2⟩ := vals1 r1
  obtain ⟨nm, N, qn, bs, bm', hdct, sn, sub, ab, col, dd, k0, k1, k2, k3, k5, hC, same⟩ := PySem.W.excInit_of I1.kIn ini
  have O' : Over bm' B := ⟨(same B).trans O.base, (same _).trans O.attr, (same _).trans O.name⟩
  obtain ⟨hp, g, dr, tk, os⟩ := s1
  have sz : hp.objs.size ≤ hp.objs.size + 1 := Nat.le_succ _
  have n1 : H1 (hp.objs.size + 1) = none := I1.hok.fresh sz
  have keeps : ∀ b o, hp.get? b = some o → ((hp.push (PySem.W.kdv_tup [v])).push (PX.excO C hp.objs.size)).get? b = some o := fun b o e => Heap.get?_push_of_some _ (Heap.get?_push_of_some _ e)
  have at_x : ((hp.push (PySem.W.kdv_tup [v])).push (PX.excO C hp.objs.size)).get? (hp.objs.size + 1) = some (PX.excO C hp.objs.size) := by heap_get
  have I2 : Inv X pins σ (upd H1 (hp.objs.size + 1) (exo (hp.objs.size + 1) C none)) ⟨(hp.push (PySem.W.kdv_tup [v])).push (PX.excO C hp.objs.size), g, dr, tk, os⟩ :=
    I1.laid (t' := tk) (a := hp.objs.size + 1) (h' := (hp.push (PySem.W.kdv_tup [v])).push (PX.excO C hp.objs.size)) keeps sz (exo_ok at_x)
  have r3 : Vals [V.ref (hp.objs.size + 1), y] ([Value.ref (hp.objs.size + 1), v]) := .cons rfl (.cons r2 .nil)
  have pr : spSet X.K C fI f [V.ref (hp.objs.size + 1), y] (upd H1 (hp.objs.size + 1) (exo (hp.objs.size + 1) C none))
      (fun z H2 => z = .non ∧ ∃ d, H2 = upd (upd H1 (hp.objs.size + 1) (exo (hp.objs.size + 1) C (some d))) d (exd d [(f, y)]) ∧ H1 d = none ∧ d ≠ hp.objs.size + 1) (fun _ _ _ => False) := by
    refine ⟨_, y, rfl, T, no, upd_same, fun d nd ne => ⟨rfl, d, by rw [upd_upd], ?_, ne⟩⟩
    rw [upd_ne ne] at nd
    exact nd
  have len : [Value.ref (hp.objs.size + 1), v].length = ps.length := F1.count _ _ _ _ pr
  refine wpAny_call (calls_own FB O' hC (PySem.W.looks_findIn I1.kIn T.iC) (fun self => PySem.W.bind_fn I1.kIn self T.tI) (by show 1 ≤ sizeLine; decide) ?_)
  refine codeAny_mono (F1.goes _ X.stack _ _ ⟨[Value.ref (hp.objs.size + 1), v], []⟩ [Value.ref (hp.objs.size + 1), v] _ _ (fun _ _ _ => False) hc (hr.make C [v] []) (I2.env0.make C [v] []) (by simpa using hb _ [Value.ref (hp.objs.size + 1), v] I2.kIn (by simpa using len)) r3 pr) fun r s' hq => ?_
  match r, hq with
  | .error er, hq => exact pass0 pins σ _ _ er s' I2 hq
  | .ok (.ret u), hq =>
    obtain ⟨z, H2, os2, bare2, un2, hok2, rz, ez, d, e2, nd, ne⟩ := hq
    subst ez
    have e0 : u = Value.none := rz
    subst e0
    have ea : H2 (hp.objs.size + 1) = some (exo (hp.objs.size + 1) C (some d)) := by rw [e2, upd_ne ne.symm, upd_same]
    have ed : H2 d = some (exd d [(f, y)]) := by rw [e2, upd_same]
    have eq : upd (L2.del H2 (hp.objs.size + 1)) d (.xd [(f, y)]) = upd H1 d (.xd [(f, y)]) := by
      funext b
      by_cases h1 : b = d
      · subst h1
        rw [upd_same, upd_same]
      · rw [upd_ne h1, upd_ne h1]
        by_cases h2 : b = hp.objs.size + 1
        · subst h2
          rw [L2.del_same, n1]
        · rw [L2.del_ne h2, e2, upd_ne h1, upd_ne h2]
    obtain ⟨h2, g2, d2, t2, os'⟩ := s'
    exact ⟨rfl, mk_end (raises_own T.sub T.ty) I1 sz keeps un2 hok2 os2 bare2 ea ed nd (eq ▸ q1 d nd)⟩
  | .ok .next, hq => exact hq.elim
  | .ok .brk, hq => exact hq.elim
  | .ok .cont, hq => exact hq.elim
end
end Xr
set_option Elab.async false
set_option linter.all false
set_option autoImplicit false
set_option maxRecDepth 100000
set_option maxHeartbeats 4000000
/-! Xt: try: .. except C1 as n1: .. except C2 as n2: .. -/
namespace Xt
open PySem PySem.Spec PyProof.Rows L2 Vb
/-- one clause: its class, its name's place, what its suite reads -/
structure Cl where
  cls : Value
  at_ : Nat
  ts : Addr → Value → Option Addr → TS
/-- behind a suite its name is gone -/
def gone (i : Nat) (D : Ends) : Ends := { nx := fun σ H => D.nx (σ.set i none) H, rt := D.rt, bk := fun σ H => D.bk (σ.set i none) H, ct := fun σ H => D.ct (σ.set i none) H }
/-- what the clauses wish of what the body raised -/
def wCl (K : PySem.W.Frag) (out : WX) (D : Ends) : List Cl → WX
  | [] => out
  | c :: r => fun cls d σ H => ∃ b, PySem.W.exmOne K cls c.cls = some b ∧ (b = true → ∀ a, H a = none → c.ts a cls d (gone c.at_ D) (σ.set c.at_ (some (.ref a))) H) ∧ (b = false → wCl K out D r cls d σ H)
inductive Cls (X : Cx) : List ExceptHandler → List Cl → Prop
  | nil : Cls X [] []
  | cons {x n : Str} {c : Value} {i : Nat} {ts : Addr → Value → Option Addr → TS} {b₀ : Stmt} {suite : List Stmt} {p1 p2 : Pos} {hs : List ExceptHandler} {l : List Cl} (nc : Names X x c) (ni : X.N[i]? = some n) (ln : X.env.kindOf n = some .local)
      (su : ∀ (a : Addr) (oe : Obj) (cls : Value) (d : Option Addr) (pn : List (Addr × Obj)), Zc cls d oe → (∃ vs, oe.data = .fields vs) → PSs (X.suite a ((a, oe) :: pn)) (b₀ :: suite) (ts a cls d)) (r : Cls X hs l) :
      Cls X (.ExceptHandler (some (.Name x p1)) (some n) (b₀ :: suite) p2 :: hs) (⟨c, i, ts⟩ :: l)
section
variable {X : Cx} {body : List Stmt} {h0 : ExceptHandler} {hds : List ExceptHandler} {l : List Cl} {pos : Pos} {tb : WX → TS} {out : WX}
theorem ps_tries (hs : X.stack = X.env :: X.outer) (hf : X.env.frame = some X.env.locals) (hN : X.N.Nodup) (tk : Takes X out)
    (hb : ∀ (W : WX) (pn : List (Addr × Obj)) (xe : Value → Shared → Prop), Takes (X.tr pn xe) W → PassesOwn (model X.prog X.w) X.A X.env xe → PSs (X.tr pn xe) body (tb W)) (cl : Cls X (h0 :: hds) l) :
    PS X (.Try body (h0 :: hds) [] [] pos) (fun D σ H => tb (wCl X.K out D l) D σ H) := by
  refine ⟨fun pins s σ H D I h => ?_⟩
  have ok := I.ok
  have frames : X.A.frames = some (X.env :: X.outer) := by rw [ok.frames, hs]
  let caught : Value → Shared → Prop := fun e s₁ => wpAny (model X.prog X.w) X.A (noteFrame e X.env)
    (fun _ s₂ => wpAny (model X.prog X.w) X.A (setFlight e none) (fun _ s₃ => wpAny (model X.prog X.w) X.A (handleBy e X.env (h0 :: hds)) (SP X pins D) X.xe s₃) X.xe s₂) X.xe s₁
  refine wpAny_Try_except (wpAny_mono ((hb (wCl X.K out D l) (X.pn ++ pins) caught (fun u s' xx => ?_) PassesOwn.looking).run [] s σ H D (I.toTry _) h) (fun f s1 hsp => ?_) (fun e s1 he => he))
  · obtain ⟨a, B, sI, pins', σ', H', cls, d, rfl, J', nb, up, sky, na, os, ag, w⟩ := xx
    have J : Inv X pins σ' H' sI := J'.ofTry ok
    have sky' : Sky B (X.env :: X.outer) a (Zc cls d) X.env.locals s'.heap := hs ▸ sky
    show wpAny (model X.prog X.w) X.A (noteFrame (.ref a) X.env) _ _ _
    refine Sky.land Zc.steady frames hf sky' fun h3 fl3 up3 => ?_
    have J3 : Inv X pins σ' H' { s' with heap := h3 } := J.landed nb fl3.1 (up.trans up3) os ag
    obtain ⟨oe3, vs3, he3, hz3, hd3⟩ := fl3.there
    have off : a ∉ frs (X.env :: X.outer) := fun hm => by
      obtain ⟨_, o', e', hnf⟩ := fl3.2.2.1.mem hm
      rw [he3] at e'
      cases e'
      exact hnf _ hd3
    have nL : a ≠ X.env.locals := fun z => off (List.mem_filterMap.mpr ⟨X.env, List.mem_cons_self, by rw [hf, z]⟩)
    have nF : a ∉ X.fs := fun hm => by
      obtain ⟨e, he, q⟩ := List.mem_filterMap.mp hm
      exact off (List.mem_filterMap.mpr ⟨e, List.mem_cons_of_mem _ he, q⟩)
    have S3 := J3.suite he3 hd3 na nL nF
    have go : ∀ {hds' : List ExceptHandler} {l' : List Cl}, Cls X hds' l' → wCl X.K out D l' cls d σ' H' → wpAny (model X.prog X.w) X.A (handleBy (.ref a) X.env hds') (SP X pins D) X.xe { s' with heap := h3 } := by
      intro hds' l' hk
      induction hk with
      | nil =>
        intro w
        obtain ⟨k1, k2, k3, oe, vs, T, oT, ts', he, hz, hd, h1, hr⟩ := id fl3
        refine wpAny_handleBy_nil ?_
        unfold PySem.passOn
        refine wpAny_bind (wpAny_field he hd h1 ?_)
        rw [if_neg (by simp : ¬ ((Value.ref T == Value.none) = true))]
        have fin : wpAny (model X.prog X.w) X.A (setFlight (.ref a) X.env.frame) (fun _ s4 => wpAny (model X.prog X.w) X.A (throw (.ref a) : Sem Flow) (SP X pins D) X.xe s4) X.xe { s' with heap := h3 } := by
          rw [hf]
          refine HandSPX.setFlight_upZ fl3 fun h4 hh4 up4 => wpAny_throw (tk _ _ ?_)
          exact ⟨a, B, sI, pins, σ', H', cls, d, rfl, J, nb, (up.trans up3).trans up4, .inr (.inr (hs.symm ▸ hh4)), na, os, ag, w⟩
        first
        | exact wpAny_bind (wpAny_pure (wpAny_bind fin))
        | exact wpAny_bind fin
      | @cons x n c i ts b₀ suite p1 p2 hds2 l2 nc ni ln su r ih =>
        intro w
        obtain ⟨b, hb1, yes, no⟩ := w
        refine wpAny_handleBy_cons (codeAny_handlers_test ?_) (by intro q; cases q)
        have tyA : PySem.W.Looks (model X.prog X.w) h3 (typeOf (.ref a)) cls := fun A Q E s k q => wpAny_typeOf_ref (k _ _ he3) (by rw [hz3.1]; exact q)
        have mt := PySem.W.exm_one (M := model X.prog X.w) J3.kIn tyA hb1
        have test : ∀ {Q : Value → Shared → Prop} {E : Value → Shared → Prop}, Q c { s' with heap := h3 } → wpAny (model X.prog X.w) (X.A.mark (some (.ref a))) (eval (.Name x p1) X.env) Q E { s' with heap := h3 } := fun {Q E} q => by
          obtain ⟨hg, hdbg, hm | ⟨hm, hv, hnn⟩⟩ := nc
          · exact ld_glob (X := X.suite a ((a, oe3) :: (X.pn ++ pins))) S3 hg hm q hdbg
          · exact ld_blt (X := X.suite a ((a, oe3) :: (X.pn ++ pins))) S3 hg hm hv q hnn hdbg
        refine test (mt.here ?_)
        cases b with
        | false =>
          show wpAny _ X.A (handleBy (.ref a) X.env hds2) _ _ _
          exact ih (no rfl)
        | true =>
          refine codeAny_handlers_suite_as (HandSPX.lands_againZ fl3 fun h4 fl4 up4 => ?_)
          have J4 : Inv X pins σ' H' { s' with heap := h4 } := J.landed nb fl4.1 ((up.trans up3).trans up4) os ag
          obtain ⟨oe4, vs4, he4, hz4, hd4⟩ := fl4.there
          have S4 := J4.suite he4 hd4 na nL nF
          refine store_ok (X := X.suite a ((a, oe4) :: (X.pn ++ pins))) (v := .ref a) S4 hN ni (.inl ln) rfl (fun s5 S5 => ?_) (.inr ln)
          refine wpAny_mono ((su a oe4 cls d (X.pn ++ pins) hz4 ⟨_, hd4⟩).run [] s5 _ H' _ S5 (yes rfl a na)) (fun f s6 hsp => ?_) (fun _ _ z => z.elim)
          have away : ∀ {σ6 : L2.St} {H6 : Hp} {Q : Shared → Prop}, Inv (X.suite a ((a, oe4) :: (X.pn ++ pins))) [] σ6 H6 s6 → (∀ s7, Inv X pins (σ6.set i none) H6 s7 → Q s7) →
              wpAny (model X.prog X.w) X.A (do bindName X.env n .none; unbindBehindTheSuite X.env n p2) (fun _ s7 => Q s7) X.xe s6 := fun {σ6 H6 Q} S6 hq => gone_ok (S6.unsuite ok) hN ni ln hq
          cases f with
          | ret u =>
            obtain ⟨v6, σ6, H6, S6, r6, q6⟩ := hsp
            exact away S6 fun s7 J7 => ⟨_, _, _, J7, r6, q6⟩
          | next =>
            obtain ⟨σ6, H6, S6, q6⟩ := hsp
            exact away S6 fun s7 J7 => ⟨_, _, J7, q6⟩
          | brk =>
            obtain ⟨σ6, H6, S6, q6⟩ := hsp
            exact away S6 fun s7 J7 => ⟨_, _, J7, q6⟩
          | cont =>
            obtain ⟨σ6, H6, S6, q6⟩ := hsp
            exact away S6 fun s7 J7 => ⟨_, _, J7, q6⟩
    exact go cl w
  · cases f with
    | ret u =>
      obtain ⟨v, σ', H', J', r, q⟩ := hsp
      exact ⟨v, σ', H', J'.ofTry ok, r, q⟩
    | next =>
      obtain ⟨σ', H', J', q⟩ := hsp
      exact wpAny_execs_nil ⟨σ', H', J'.ofTry ok, q⟩
    | brk =>
      obtain ⟨σ', H', J', q⟩ := hsp
      exact ⟨σ', H', J'.ofTry ok, q⟩
    | cont =>
      obtain ⟨σ', H', J', q⟩ := hsp
      exact ⟨σ', H', J'.ofTry ok, q⟩
end
end Xt
set_option Elab.async false
set_option linter.all false
set_option autoImplicit false
set_option maxRecDepth 100000
set_option maxHeartbeats 4000000
/-! Xp: defs that are asked of the error in hand, within an except suite. -/
namespace Xp
open PySem PySem.Spec PyProof.Rows L2 Vb Xe L2H
/-- a promise about the error in hand -/
structure FnP (P : Program) (w : World) (K : PySem.W.Frag) (mg : Str → Option Value) (base : Heap) (k : Nat) (f : Addr) (fd : FuncData) (ps : List Str) (sp : Addr × Obj → Sp) : Prop where
  count : ∀ p vs H Q E, sp p vs H Q E → vs.length = ps.length
  goes : ∀ (A : Around) (outer : List Env) (s : Shared) (H : Hp) (args : Args) (us : List Value) (vs : List V) (Q : VK) (E : XK) (p : Addr × Obj), Calm A → RoomH k A → PinOk outer H s p → Env0 P w K mg base A outer s H → BindsTo s fd args (ps.zip us) →
    Vals vs us → sp p vs H Q E → codeAny (model P w) A (.call (.ref f) args) (CR CX0 outer P w H s Q E) s
section
variable {P : Program} {w : World} {K : PySem.W.Frag} {mg : Str → Option Value} {base : Heap}
theorem goes_hot {x qual : Str} {st : Stmt} {f : Addr} {fd : FuncData} {N ps : List Str} {k : Nat} {sp : Addr × Obj → Sp} (F : Fun K x qual st f fd) (S : FnScope N ps (defScope st)) (len : ∀ p vs H Q E, sp p vs H Q E → vs.length = ps.length)
    (body : ∀ (cdv : Value) (A : Around) (outer : List Env) (s : Shared) (H : Hp) (vs : List V) (Q : VK) (E : XK) (p : Addr × Obj), Calm (A.deeper (envOfC qual (defScope st) s.heap.objs.size f cdv)) → RoomH k (A.deeper (envOfC qual (defScope st) s.heap.objs.size f cdv)) → sp p vs H Q E →
      ∃ t, PSs (cxH CX0 P w K mg base N qual (defScope st) f cdv A outer s H E p).nox (defBody st) t ∧ t { nx := fun _ H' => Q .non H', rt := Q } (start N vs) H) : FnP P w K mg base (k + 1) f fd ps sp := by
  obtain ⟨oc, od, kV, doc, pm, an, cdv, ct, osl, rfl, lk, hcd⟩ := F.ex
  refine ⟨len, fun A outer s H args us vs Q E p hc hr hp e0 hb r hsp => ?_⟩
  have hl := len _ _ _ _ _ hsp
  have KX : K.In s.heap := e0.mod.kin.keeps fun b o e => (e0.bs b o e).1
  have lim : s.heap.NoLimit := e0.mod.nolimit.keeps fun b o e => (e0.bs b o e).1
  have kinds : ∀ y ∈ ps.zip us, (defScope st).names.lookup y.1 = some .local ∨ ((defScope st).names.lookup y.1 = some .cell ∧ ((cellsFrom (s.heap.objs.size + 1) (defScope st).names []).lookup y.1).isSome = true) := by
    intro y hy
    obtain ⟨n, v⟩ := y
    exact (S.par n (List.of_mem_zip hy).1).imp id fun q => ⟨q, PySem.W.cellsFrom_some _ _ _ (Or.inl q)⟩
  refine codeAny_call_function hr.depth (KX _ _ lk) rfl S.co S.gen rfl (PySem.W.codeRec_of KX hcd) (hb _ _ _ _ ?_)
  refine wpAny_newFunctionEnv_cells S.kind kinds fun env he s1 x => ?_
  cases he
  refine ⟨lim.keeps x.toInCall.keep, codeAny_func ?_⟩
  obtain ⟨t, ht, hq⟩ := body cdv A outer s H vs Q E p (hc.deep _) (hr.deeper _) hsp
  have I := inv_startH (CX := CX0) (E := E) S hp e0 hl r x
  refine wpAny_mono (ht.nox.run [] s1 (start N vs) H _ I hq) (fun fl s' hs => ?_) (fun _ _ z => z)
  cases fl with
  | brk => exact hs.elim fun _ z => z.elim fun _ z => z.2.elim
  | cont => exact hs.elim fun _ z => z.elim fun _ z => z.2.elim
  | ret u =>
    obtain ⟨v, σ', H', J, rv, q⟩ := hs
    exact ⟨v, H', J.os, J.bare, J.base, J.hok, rv, q⟩
  | next =>
    obtain ⟨σ', H', J, q⟩ := hs
    exact ⟨V.non, H', J.os, J.bare, J.base, J.hok, rfl, q⟩
end
section
variable {X : Cx} {k : Nat} {f : Addr} {fd : FuncData} {ps : List Str} {sp : Addr × Obj → Sp} {x : Str} {p pos : Pos} {e : Expr} {es : List Expr} {t : TA} {h : Addr × Obj}
/-- f(e, ..) of the error in hand -/
theorem pe_callP (F : FnP X.prog X.w X.K X.mg X.base k f fd ps sp) (hh : h ∈ X.pn) (hc : Calm X.A) (hr : RoomH k X.A) (hg : Gl X x) (hm : X.mg x = some (.ref f)) (hk : PySem.W.keepIn X.K (.ref f) = true) (hb : Binds X.K fd ps []) (ha : PA X (e :: es) t)
    (hdb : (x == ("__debug__" : Str)) = false := by decide) (he : starEach (e :: es) X.env = (false, eval e X.env) :: starEach es X.env := by rfl) (hpl : (backTo pos (starEach es X.env)).any (·.1) = false := by rfl) :
    PE X (.Call (.Name x p) (e :: es) [] pos) (tCall (sp h) [] E0 t) := by
  refine ⟨fun pins s σ H Q I hw => wpAny_Call_Name_kw (ld_glob I hg hm ?_ hdb)⟩
  refine PySem.W.callWith_K (h₀ := X.base) I.ok.mod.kin hk (thn (ha.run pos pins s σ H _ I hw) fun us s1 ⟨vs, H1, I1, r, q⟩ => ⟨I1.kIn, ?_⟩) he hpl
  have q : sp h vs H1 Q E0 := by
    have q' : sp h (vs ++ []) H1 Q E0 := q
    rw [List.append_nil] at q'
    exact q'
  have hl : us.length = ps.length := r.length ▸ F.count _ _ _ _ _ q
  have b := hb s1 us I1.kIn (by rw [List.append_nil]; exact hl)
  rw [List.append_nil] at b
  have P1 := I1.pin h (List.mem_append_left _ hh)
  have pin : PinOk X.stack H1 s1 h := ⟨P1.1, P1.2.1, fun hm => (List.mem_cons.mp (I1.stkSub h.1 hm)).elim P1.2.2.1 P1.2.2.2.1, P1.2.2.2.2⟩
  refine wpAny_call (codeAny_mono (F.goes X.A X.stack s1 H1 ⟨us, []⟩ us vs Q E0 h hc hr pin I1.env0 b r q) fun r s' hq => ?_)
  match r, hq with
  | .error er, hq => exact pass0 pins σ H1 s1 er s' I1 hq
  | .ok (.ret u), hq => exact I1.after hq
  | .ok .next, hq => exact hq.elim
  | .ok .brk, hq => exact hq.elim
  | .ok .cont, hq => exact hq.elim
/-- isinstance(e, c), e the error in hand -/
def rIsP (K : PySem.W.Frag) (h : Addr × Obj) (d : Option Addr) : List V → Hp → VK → Prop := fun xs H Q => ∃ (C : Addr) (c : V) (u : Value) (b : Bool), xs = [.ref h.1, c] ∧ ClsV c u ∧ EC K C ∧ Zc (.ref C) d h.2 ∧ (∀ dd, d = some dd → ∃ fs, H dd = some (.xd fs)) ∧
  PySem.W.kitOne K (.ref C) u = some b ∧ Q (.bl b) H
theorem cr_isP {d : Option Addr} (hh : h ∈ X.pn) (hf : ∃ vs, h.2.data = .fields vs) : CallR X (.builtin "isinstance") (rIsP X.K h d) := by
  intro pins s σ H xs us Q I r hw
  obtain ⟨C, c, u, b, rfl, k, T, hz, hd, e, q⟩ := hw
  obtain ⟨u1, u2, rfl, r1, r2⟩ := vals2 r
  cases (show u1 = Value.ref h.1 from r1)
  have e2 := k.eq r2
  subst e2
  obtain ⟨cd, hcl, _⟩ := PySem.W.any_some T.hd
  obtain ⟨at_, _⟩ := I.pin h (List.mem_append_left _ hh)
  obtain ⟨vs, hv⟩ := hf
  have J : ∃ od, PySem.W.InstAt s.heap h.1 h.2 C od := by
    have no : PySem.W.notCls h.2 = true := by unfold PySem.W.notCls; rw [hv]
    cases d with
    | none => exact ⟨none, at_, hz.1, no, by rw [hz.2]; trivial⟩
    | some dd =>
      obtain ⟨fs, ea⟩ := hd dd rfl
      obtain ⟨mA, hns, _⟩ := (show ObjOk X.prog X.w H s.heap dd (.xd fs) from I.hok dd _ ea)
      obtain ⟨od, ho, _⟩ := lookIn_ns hns
      exact ⟨some od, at_, hz.1, no, by rw [hz.2]; exact ho⟩
  obtain ⟨od, J⟩ := J
  exact PySem.W.kia_one (PySem.W.kitx_exc (by rw [hcl]; rfl) T.ga T.gt T.sub T.ca T.sp T.tk T.mo) I.kIn J e (fun z => nomatch z) fun tk => ⟨.bl b, H, I.tok tk, rfl, q⟩
end
end Xp
set_option Elab.async false
set_option linter.all false
set_option autoImplicit false
set_option maxRecDepth 100000
set_option maxHeartbeats 4000000
/-! Xd: defs that may let an error out, entered in calm room. -/
namespace Xd
open PySem PySem.Spec PyProof.Rows L2 Vb
structure FnE (P : Program) (w : World) (K : PySem.W.Frag) (mg : Str → Option Value) (base : Heap) (k : Nat) (f : Addr) (fd : FuncData) (ps : List Str) (sp : Sp) : Prop where
  count : ∀ vs H Q E, sp vs H Q E → vs.length = ps.length
  goes : ∀ (A : Around) (outer : List Env) (s : Shared) (H : Hp) (args : Args) (us : List Value) (vs : List V) (Q : VK) (E : XK), Calm A → Room k A → Env0 P w K mg base A outer s H → BindsTo s fd args (ps.zip us) → Vals vs us → sp vs H Q E →
    codeAny (model P w) A (.call (.ref f) args) (CR (L2.CX P w) outer P w H s Q E) s
section
variable {P : Program} {w : World} {K : PySem.W.Frag} {mg : Str → Option Value} {base : Heap}
theorem FnE.mono {j k : Nat} {f : Addr} {fd : FuncData} {ps : List Str} {sp : Sp} (F : FnE P w K mg base j f fd ps sp) (h : j ≤ k) : FnE P w K mg base k f fd ps sp :=
  ⟨F.count, fun A outer s H args us vs Q E hc hr => F.goes A outer s H args us vs Q E hc (hr.mono h)⟩
theorem goes_exc {x qual : Str} {st : Stmt} {f : Addr} {fd : FuncData} {N ps : List Str} {k : Nat} {sp : Sp} (F : Fun K x qual st f fd) (S : FnScope N ps (defScope st)) (len : ∀ vs H Q E, sp vs H Q E → vs.length = ps.length)
    (body : ∀ (cdv : Value) (A : Around) (outer : List Env) (s : Shared) (H : Hp) (vs : List V) (Q : VK) (E : XK), Calm (A.deeper (envOfC qual (defScope st) s.heap.objs.size f cdv)) → Room k (A.deeper (envOfC qual (defScope st) s.heap.objs.size f cdv)) →
      Takes (cxOf (L2.CX P w) P w K mg base N qual (defScope st) f cdv A outer s H E) (fun cls d _ H' => E cls d H') → sp vs H Q E →
      ∃ t, PSs (cxOf (L2.CX P w) P w K mg base N qual (defScope st) f cdv A outer s H E) (defBody st) t ∧ t { nx := fun _ H' => Q .non H', rt := Q } (start N vs) H) : FnE P w K mg base (k + 1) f fd ps sp := by
  obtain ⟨oc, od, kV, doc, pm, an, cdv, ct, osl, rfl, lk, hcd⟩ := F.ex
  refine ⟨len, fun A outer s H args us vs Q E hc hr e0 hb r hsp => ?_⟩
  have hl := len _ _ _ _ hsp
  have KX : K.In s.heap := e0.mod.kin.keeps fun b o e => (e0.bs b o e).1
  have lim : s.heap.NoLimit := e0.mod.nolimit.keeps fun b o e => (e0.bs b o e).1
  have kinds : ∀ y ∈ ps.zip us, (defScope st).names.lookup y.1 = some .local ∨ ((defScope st).names.lookup y.1 = some .cell ∧ ((cellsFrom (s.heap.objs.size + 1) (defScope st).names []).lookup y.1).isSome = true) := by
    intro y hy
    obtain ⟨n, v⟩ := y
    exact (S.par n (List.of_mem_zip hy).1).imp id fun q => ⟨q, PySem.W.cellsFrom_some _ _ _ (Or.inl q)⟩
  refine codeAny_call_function hr.depth (KX _ _ lk) rfl S.co S.gen rfl (PySem.W.codeRec_of KX hcd) (hb _ _ _ _ ?_)
  refine wpAny_newFunctionEnv_cells S.kind kinds fun env he s1 x => ?_
  cases he
  refine ⟨lim.keeps x.toInCall.keep, codeAny_func ?_⟩
  obtain ⟨t, ht, hq⟩ := body cdv A outer s H vs Q E (hc.deep _) (hr.deeper _) (takes_of rfl rfl rfl rfl) hsp
  have I := inv_start (CX := L2.CX P w) (E := E) S hr.hd e0 hl r x
  refine wpAny_mono (ht.run [] s1 (start N vs) H _ I hq) (fun fl s' hs => ?_) (fun _ _ z => z)
  cases fl with
  | brk => exact hs.elim fun _ z => z.elim fun _ z => z.2.elim
  | cont => exact hs.elim fun _ z => z.elim fun _ z => z.2.elim
  | ret u =>
    obtain ⟨v, σ', H', J, rv, q⟩ := hs
    exact ⟨v, H', J.os, J.bare, J.base, J.hok, rv, q⟩
  | next =>
    obtain ⟨σ', H', J, q⟩ := hs
    exact ⟨V.non, H', J.os, J.bare, J.base, J.hok, rfl, q⟩
/-- what lets nothing out may be taken for what may -/
theorem FnE.of {k : Nat} {f : Addr} {fd : FuncData} {ps : List Str} {sp : Sp} (F : FnG P w K mg base k f fd ps sp) : FnE P w K mg base k f fd ps sp := by
  refine ⟨F.count, fun A outer s H args us vs Q E hc hr e0 hb r h => codeAny_mono (F.goes A outer s H args us vs Q E hc hr e0 hb r h) fun x s' hx => ?_⟩
  match x, hx with
  | .error e, hx => exact False.elim hx
  | .ok (.ret u), hx => exact hx
  | .ok .next, hx => exact hx
  | .ok .brk, hx => exact hx
  | .ok .cont, hx => exact hx
end
section
variable {X : Cx} {k : Nat} {f : Addr} {fd : FuncData} {ps : List Str} {sp : Sp} {W : WX} {E : XK} {x : Str} {p pos : Pos} {e : Expr} {es : List Expr} {t : TA}
theorem goes_inE {pins : List (Addr × Obj)} {σ : L2.St} {H : Hp} {s : Shared} {Q : VK} {us : List Value} {vs : List V} (F : FnE X.prog X.w X.K X.mg X.base k f fd ps sp) (hc : Calm X.A) (hr : Room k X.A) (hb : Binds X.K fd ps []) (tk : Takes X W) (hW : ∀ cls d σ H, E cls d H → W cls d σ H)
    (I : Inv X pins σ H s) (r : Vals vs us) (h : sp vs H Q E) : wpAny (model X.prog X.w) X.A (call (.ref f) us) (EP X pins σ Q) X.xe s := by
  have hl : us.length = ps.length := r.length ▸ F.count _ _ _ _ h
  have b := hb s us I.kIn (by rw [List.append_nil]; exact hl)
  rw [List.append_nil] at b
  refine wpAny_call (codeAny_mono (F.goes X.A X.stack s H ⟨us, []⟩ us vs Q E hc hr I.env0 b r h) fun y s' hq => ?_)
  match y, hq with
  | .error er, hq => exact passes_call tk hW pins σ H s er s' I hq
  | .ok (.ret u), hq => exact I.after hq
  | .ok .next, hq => exact hq.elim
  | .ok .brk, hq => exact hq.elim
  | .ok .cont, hq => exact hq.elim
/-- f(e, ..), what it lets out is taken -/
theorem pe_callE (F : FnE X.prog X.w X.K X.mg X.base k f fd ps sp) (hc : Calm X.A) (hr : Room k X.A) (hg : Gl X x) (hm : X.mg x = some (.ref f)) (hk : PySem.W.keepIn X.K (.ref f) = true) (hb : Binds X.K fd ps []) (tk : Takes X W) (hW : ∀ cls d σ H, E cls d H → W cls d σ H) (ha : PA X (e :: es) t)
    (hdb : (x == ("__debug__" : Str)) = false := by decide) (he : starEach (e :: es) X.env = (false, eval e X.env) :: starEach es X.env := by rfl) (hpl : (backTo pos (starEach es X.env)).any (·.1) = false := by rfl) :
    PE X (.Call (.Name x p) (e :: es) [] pos) (fun σ H Q => t σ H fun vs H1 => sp vs H1 Q E) :=
  ⟨fun pins s σ H Q I h => wpAny_Call_Name_kw (ld_glob I hg hm
    (PySem.W.callWith_K (h₀ := X.base) I.ok.mod.kin hk (thn (ha.run pos pins s σ H _ I h) fun us s1 ⟨vs, H1, I1, r, q⟩ => ⟨I1.kIn, goes_inE F hc hr hb tk hW I1 r q⟩) he hpl) hdb)⟩
end
end Xd
set_option Elab.async false
set_option linter.all false
set_option autoImplicit false
set_option maxRecDepth 100000
set_option maxHeartbeats 4000000
/-! Xo: objects of own classes in calm room: made, their methods called, their properties read. -/
namespace Xo
open PySem PySem.Spec PyProof.Rows L2 Vb Xd
section
variable {X : Cx} {k : Nat} {f C p g : Addr} {fd : FuncData} {ps : List Str} {sp : Sp} {W : WX} {E : XK} {x m : Str} {q pos apos : Pos} {o e : Expr} {es : List Expr} {ta : TE} {t : TA}
/-- o.m(e, ..) -/
def tMeE (C : Addr) (m : Str) (sp : Sp) (E : XK) (ta : TE) (t : TA) : TE := fun σ H Q => ta σ H fun x H1 => ∃ a dx fs, x = .ref a ∧ H1 a = some (.ins C dx fs) ∧ fs.lookup m = none ∧ t σ H1 fun vs H2 => sp (x :: vs) H2 Q E
theorem pe_methE {pl : Sem Bool} (he : PE X o ta) (c : Cls X.K C) (hm : Meth X.K C m f) (F : FnE X.prog X.w X.K X.mg X.base k f fd ps sp) (hc : Calm X.A) (hr : Room k X.A) (hb : Binds X.K fd ps []) (tk : Takes X W) (hW : ∀ cls d σ H, E cls d H → W cls d σ H) (ha : PA X (e :: es) t)
    (hst : starEach (e :: es) X.env = (false, eval e X.env) :: starEach es X.env := by rfl) (hpl : (backTo pos (starEach es X.env)).any (·.1) = false := by rfl)
    (ht : eval (.Call (.Attribute o m apos) (e :: es) [] pos) X.env = (do let ov ← eval o X.env; standAt apos.atName; let (f, first) ← holding [ov] (getMethod ov m pl); callWith pos f first (backTo pos (starEach (e :: es) X.env)) (backToKw pos (keywordEach [] X.env))) := by rfl) :
    PE X (.Call (.Attribute o m apos) (e :: es) [] pos) (tMeE C m sp E ta t) := by
  refine ⟨fun pins s σ H Q I h => PySem.W.methodCall_KW (pl := pl) (thn (he.run pins s σ H _ I h) fun u s1 ⟨x, H1, I1, rx, a, dx, fs, ex, ea, l, q⟩ => ?_) ht⟩
  subst ex
  obtain rfl : u = Value.ref a := rx
  refine getmeth_ok I1 ea c hm l (PySem.W.callWith_K (first := [.ref a]) (h₀ := X.base) I.ok.mod.kin hm.kp (thn (ha.run pos pins s1 σ H1 _ I1 q) fun us s2 ⟨vs, H2, I2, r, q2⟩ => ⟨I2.kIn, ?_⟩) hst hpl)
  exact goes_inE (us := .ref a :: us) (vs := .ref a :: vs) F hc hr hb tk hW I2 (.cons rfl r) q2
theorem pe_methE0 {pl : Sem Bool} (he : PE X o ta) (c : Cls X.K C) (hm : Meth X.K C m f) (F : FnE X.prog X.w X.K X.mg X.base k f fd ps sp) (hc : Calm X.A) (hr : Room k X.A) (hb : Binds X.K fd ps []) (tk : Takes X W) (hW : ∀ cls d σ H, E cls d H → W cls d σ H)
    (ht : eval (.Call (.Attribute o m apos) [] [] pos) X.env = (do let ov ← eval o X.env; standAt apos.atName; let (f, first) ← holding [ov] (getMethod ov m pl); callWith pos f first (backTo pos (starEach [] X.env)) (backToKw pos (keywordEach [] X.env))) := by rfl) :
    PE X (.Call (.Attribute o m apos) [] [] pos) (tMeE C m sp E ta tNil) := by
  refine ⟨fun pins s σ H Q I h => PySem.W.methodCall_KW (pl := pl) (thn (he.run pins s σ H _ I h) fun u s1 ⟨x, H1, I1, rx, a, dx, fs, ex, ea, l, q⟩ => ?_) ht⟩
  subst ex
  obtain rfl : u = Value.ref a := rx
  exact getmeth_ok I1 ea c hm l (PySem.W.callWith_K0 (first := [.ref a]) I1.kIn hm.kp (goes_inE (us := [.ref a]) (vs := [.ref a]) F hc hr hb tk hW I1 (.cons rfl .nil) q))
/-- C(e, ..) -/
def tMaE (C : Addr) (sp : Sp) (E : XK) (t : TA) : TE := fun σ H Q => t σ H fun vs H1 => ∀ x dx, H1 x = none → H1 dx = none → dx ≠ x → sp (.ref x :: vs) (upd (upd H1 dx (.own x)) x (.ins C dx [])) (fun v H2 => v = .non ∧ Q (.ref x) H2) E
theorem makes_inE {pins : List (Addr × Obj)} {σ : L2.St} {H : Hp} {s : Shared} {Q : VK} {us : List Value} {vs : List V} (M : L2.Mk X.K C f) (F : FnE X.prog X.w X.K X.mg X.base k f fd ps sp) (hc : Calm X.A) (hr : Room (k + 1) X.A) (hb : Binds X.K fd ps []) (tk : Takes X W) (hW : ∀ cls d σ H, E cls d H → W cls d σ H)
    (I : Inv X pins σ H s) (r : Vals vs us) (h : ∀ x dx, H x = none → H dx = none → dx ≠ x → sp (.ref x :: vs) (upd (upd H dx (.own x)) x (.ins C dx [])) (fun v H2 => v = .non ∧ Q (.ref x) H2) E) : wpAny (model X.prog X.w) X.A (call (.ref C) us) (EP X pins σ Q) X.xe s := by
  have hq := h (s.heap.objs.size + 1) s.heap.objs.size (I.hok.fresh (Nat.le_succ _)) (I.hok.fresh (Nat.le_refl _)) (Nat.ne_of_lt (Nat.lt_succ_self _))
  have I2 := Inv.made (C := C) I
  have r2 : Vals (V.ref (s.heap.objs.size + 1) :: vs) (Value.ref (s.heap.objs.size + 1) :: us) := .cons rfl r
  have hl : (Value.ref (s.heap.objs.size + 1) :: us).length = ps.length := r2.length ▸ F.count _ _ _ _ hq
  have b := hb _ (Value.ref (s.heap.objs.size + 1) :: us) I2.kIn (by rw [List.append_nil]; exact hl)
  rw [List.append_nil] at b
  refine wpAny_call (make_map (f := f) I.kIn M.makes M.init (beq_iff_eq.mp M.fn) (codeAny_mono (F.goes _ X.stack _ _ ⟨Value.ref (s.heap.objs.size + 1) :: us, []⟩ _ _ _ E hc (hr.make C us []) (I2.env0.make C us []) b r2 hq) fun y s' hq' => ?_))
  match y, hq' with
  | .error er, hq' => exact passes_call tk hW pins σ _ _ er s' I2 hq'
  | .ok (.ret u), hq' =>
    obtain ⟨v, H', I3, rv, ev, q3⟩ := I2.after hq'
    subst ev
    exact ⟨rv, ⟨V.ref (s.heap.objs.size + 1), H', I3, rfl, q3⟩⟩
  | .ok .next, hq' => exact hq'.elim
  | .ok .brk, hq' => exact hq'.elim
  | .ok .cont, hq' => exact hq'.elim
theorem pe_makeE (M : L2.Mk X.K C f) (F : FnE X.prog X.w X.K X.mg X.base k f fd ps sp) (hc : Calm X.A) (hr : Room (k + 1) X.A) (hg : Gl X x) (hm : X.mg x = some (.ref C)) (hb : Binds X.K fd ps []) (tk : Takes X W) (hW : ∀ cls d σ H, E cls d H → W cls d σ H) (ha : PA X (e :: es) t)
    (hdb : (x == ("__debug__" : Str)) = false := by decide) (he : starEach (e :: es) X.env = (false, eval e X.env) :: starEach es X.env := by rfl) (hpl : (backTo pos (starEach es X.env)).any (·.1) = false := by rfl) : PE X (.Call (.Name x q) (e :: es) [] pos) (tMaE C sp E t) :=
  ⟨fun pins s σ H Q I h => wpAny_Call_Name_kw (ld_glob I hg hm (PySem.W.callWith_K (h₀ := X.base) I.ok.mod.kin M.kp (thn (ha.run pos pins s σ H _ I h) fun us s1 ⟨vs, H1, I1, r, q⟩ => ⟨I1.kIn, makes_inE M F hc hr hb tk hW I1 r q⟩) he hpl) hdb)⟩
/-- e.f, a property whose getter lets nothing out -/
def tPrE (C : Addr) (sp : Sp) (ta : TE) : TE := fun σ H Q => ta σ H fun x H1 => ∃ a dx fs, x = .ref a ∧ H1 a = some (.ins C dx fs) ∧ sp [.ref a] H1 Q E0
theorem pe_propG {n : Str} (he : PE X e ta) (c : Cls X.K C) (hp : PropOf X.K C n p g) (F : FnG X.prog X.w X.K X.mg X.base k g fd ps sp) (hc : Calm X.A) (hr : Room (k + 1) X.A) (hb : Binds X.K fd ps []) (hab : attributeBase e n X.env (eval e X.env) = eval e X.env := by rfl) : PE X (.Attribute e n pos) (tPrE C sp ta) := by
  refine ⟨fun pins s σ H Q I h => attr_of hab (thn (he.run pins s σ H _ I h) fun u s1 ⟨x, H1, I1, rx, a, dx, fs, ex, ea, q⟩ => ?_)⟩
  subst ex
  obtain rfl : u = Value.ref a := rx
  obtain ⟨mA, O, _, _, _, _⟩ := ins_get I1.hok ea
  obtain ⟨od, J, _⟩ := O.look
  obtain ⟨rest, hrec⟩ := hp.rec_
  obtain ⟨cd, hcl, _⟩ := PySem.W.any_some c.hd
  have I2 := I1.tok (s1.toks + 1)
  have hl : [Value.ref a].length = ps.length := F.count _ _ _ _ q
  have b := hb { s1 with toks := s1.toks + 1 } [.ref a] I2.kIn (by rw [List.append_nil]; exact hl)
  rw [List.append_nil] at b
  refine PySem.W.get_bind I1.kIn J (PySem.W.plainGet_of (c.get n)).1 (PySem.W.findObj_data (by rw [hcl]; rfl) hp.at_ hp.get hp.tak) (PySem.W.plainGet_of (c.get n)).2 (wpAny_call (PySem.W.prop_get (s := { s1 with toks := s1.toks + 1 }) I1.kIn hrec ?_))
  refine codeAny_mono (F.goes X.A.in1 X.stack { s1 with toks := s1.toks + 1 } H1 ⟨[.ref a], []⟩ [.ref a] [.ref a] Q E0 hc hr.in1 I2.env0.in1 b (.cons rfl .nil) q) fun y s' hq => ?_
  match y, hq with
  | .error er, hq => exact False.elim hq
  | .ok (.ret u), hq =>
    obtain ⟨v, H', I3, rv, q3⟩ := I2.after hq
    show wpAny _ _ (handedOut u) _ _ _
    rw [PySem.W.handedOut_of (handed_of rv)]
    exact wpAny_pure ⟨v, H', I3, rv, q3⟩
  | .ok .next, hq => exact hq.elim
  | .ok .brk, hq => exact hq.elim
  | .ok .cont, hq => exact hq.elim
end
end Xo
set_option Elab.async false
set_option linter.all false
set_option autoImplicit false
set_option maxRecDepth 100000
set_option maxHeartbeats 4000000
namespace K12
open PySem PySem.Spec PyProof.Rows L2 Vb Wd Xd Xo
/-- the i-th statement of a class -/
def inB (st : Stmt) (i : Nat) : Stmt := match st with
  | .ClassDef _ _ _ b _ _ _ _ _ _ _ => b.getD i (.Pass ⟨0, 0, 0, 0⟩)
  | _ => .Pass ⟨0, 0, 0, 0⟩
abbrev s_init : Stmt := inB (topS 24) 0
theorem sc_init : FnScope ["self", "called", "sort", "children"] ["self", "called", "sort", "children"] (defScope s_init) := ⟨rfl, rfl, rfl, by decide +kernel, rfl, by decide +kernel, by decide +kernel⟩
abbrev s_called : Stmt := inB (topS 24) 2
theorem sc_called : FnScope ["self"] ["self"] (defScope s_called) := ⟨rfl, rfl, rfl, by decide +kernel, rfl, by decide +kernel, by decide +kernel⟩
abbrev s_sort_name : Stmt := inB (topS 24) 3
theorem sc_sort_name : FnScope ["self"] ["self"] (defScope s_sort_name) := ⟨rfl, rfl, rfl, by decide +kernel, rfl, by decide +kernel, by decide +kernel⟩
abbrev s_children : Stmt := inB (topS 24) 4
theorem sc_children : FnScope ["self"] ["self"] (defScope s_children) := ⟨rfl, rfl, rfl, by decide +kernel, rfl, by decide +kernel, by decide +kernel⟩
def flds (n so : Str) (ch : Addr) : List (Str × V) := [("_called", .str n), ("_sort_name", .str so), ("_children", .ref ch)]
/-- what the written part tells of the class Form -/
structure FormC (K : PySem.W.Frag) (C : Addr) : Prop where
  c : Cls K C
  n1 : NoAttr K C "_called"
  n2 : NoAttr K C "_sort_name"
  n3 : NoAttr K C "_children"
def spInit (K : PySem.W.Frag) (C : Addr) : Sp := fun vs H Q _ => ∃ (a dx ch : Addr) (n so : Str) (ts : List Addr) (cs : List (Str × Int)), vs = [.ref a, .str n, .str so, .ref ch] ∧ H a = some (.ins C dx []) ∧ (isNam (.str n) = true ∧ n.length ≤ 1000 ∧ Asc n) ∧ (isNam (.str so) = true ∧ so.length ≤ 1000 ∧ Asc so) ∧ Kids H ch ts cs ∧
  ∀ H', Same H H' → Q .non (upd H' a (.ins C dx (flds n so ch)))
/-- a form -/
structure FormAt (H : Hp) (C a ch : Addr) (n so : Str) (ts : List Addr) (cs : List (Str × Int)) : Prop where
  at_ : ∃ dx, H a = some (.ins C dx (flds n so ch))
  kids : Kids H ch ts cs
def spGet (C : Addr) (f : Str) : Sp := fun vs H Q _ => ∃ (a ch dx : Addr) (n so : Str) (v : V), vs = [.ref a] ∧ H a = some (.ins C dx (flds n so ch)) ∧ (flds n so ch).lookup f = some v ∧ Q v H
section
variable {P : Program} {w : World} {K : PySem.W.Frag} {mg : Str → Option Value} {base : Heap} {C : Addr}
theorem ok_init {f : Addr} {fd : FuncData} (F : Fun K "__init__" "Form.__init__" s_init f fd) (T : FormC K C) (G_is_name : Cg P w K mg base 1 "is_name" (spOf isNam)) (G_is_children : Cg P w K mg base 5 "_is_children" spChildren) : FnG P w K mg base 6 f fd ["self", "called", "sort", "children"] (spInit K C) := by
  refine goes_by F sc_init (fun vs H Q E h => ?_) (fun cdv A outer s H vs Q E hc hr h => ?_)
  · obtain ⟨a, dx, ch, n, so, ts, cs, rfl, _⟩ := h
    rfl
  · obtain ⟨a, dx, ch, n, so, ts, cs, rfl, ha, ⟨e1, p1⟩, ⟨e2, p2⟩, k, q⟩ := h
    refine ⟨_, (pss_cons (ps_if (pt_not (pt_val (pe_cg G_is_name hc hr (by rfl) (pa_cons (pv 1) pa_nil)))) pss_never pss_nil)
      (pss_cons (ps_if (pt_not (pt_val (pe_cg G_is_name hc hr (by rfl) (pa_cons (pv 2) pa_nil)))) pss_never pss_nil)
      (pss_cons (ps_if (pt_not (pt_val (pe_cg G_is_children hc hr (by rfl) (pa_cons (pv 3) pa_nil)))) pss_never pss_nil)
      (pss_cons (ps_fld (f := "_called") (pv 0) (pv 1) (by rfl))
      (pss_cons (ps_fld (f := "_sort_name") (pv 0) (pv 2) (by rfl))
      (pss_one (ps_fld (f := "_children") (pv 0) (pv 3) (by rfl)))))))), ?_⟩
    refine ⟨_, rfl, .str n, rfl, p1, fun H1 s1 => ⟨_, rfl, ?_⟩⟩
    rw [e1]
    refine iteF ⟨_, rfl, .str so, rfl, p2, fun H2 s2 => ⟨_, rfl, ?_⟩⟩
    rw [e2]
    refine iteF ⟨_, rfl, ch, ts, cs, rfl, k.same (s1.trans s2), fun H3 s3 => ⟨_, rfl, iteF ?_⟩⟩
    have s13 := (s1.trans s2).trans s3
    refine ⟨_, rfl, _, rfl, a, C, dx, _, rfl, s13 _ _ ha, T.c, T.n1, by decide, _, rfl, _, rfl, a, C, dx, _, rfl, upd_same, T.c, T.n2, by show 1 < 1000; decide, _, rfl, _, rfl, a, C, dx, _, rfl, upd_same, T.c, T.n3, by show 2 < 1000; decide, ?_⟩
    rw [upd_upd, upd_upd]
    exact q H3 s13
theorem ok_called {f : Addr} {fd : FuncData} (F : Fun K "called" "Form.called" s_called f fd) (T : FormC K C) : FnG P w K mg base 1 f fd ["self"] (spGet C "_called") := by
  refine goes_by F sc_called (fun vs H Q E h => ?_) (fun cdv A outer s H vs Q E hc hr h => ?_)
  · obtain ⟨a, ch, dx, n, so, v, rfl, _⟩ := h
    rfl
  · obtain ⟨a, ch, dx, n, so, v, rfl, ha, l, q⟩ := h
    exact ⟨_, pss_one (ps_ret (pe_fld (f := "_called") (pv 0) (by rfl))), _, rfl, a, C, dx, _, v, rfl, ha, T.c, T.n1, l, q⟩
theorem ok_sort_name {f : Addr} {fd : FuncData} (F : Fun K "sort_name" "Form.sort_name" s_sort_name f fd) (T : FormC K C) : FnG P w K mg base 1 f fd ["self"] (spGet C "_sort_name") := by
  refine goes_by F sc_sort_name (fun vs H Q E h => ?_) (fun cdv A outer s H vs Q E hc hr h => ?_)
  · obtain ⟨a, ch, dx, n, so, v, rfl, _⟩ := h
    rfl
  · obtain ⟨a, ch, dx, n, so, v, rfl, ha, l, q⟩ := h
    exact ⟨_, pss_one (ps_ret (pe_fld (f := "_sort_name") (pv 0) (by rfl))), _, rfl, a, C, dx, _, v, rfl, ha, T.c, T.n2, l, q⟩
theorem ok_children {f : Addr} {fd : FuncData} (F : Fun K "children" "Form.children" s_children f fd) (T : FormC K C) : FnG P w K mg base 1 f fd ["self"] (spGet C "_children") := by
  refine goes_by F sc_children (fun vs H Q E h => ?_) (fun cdv A outer s H vs Q E hc hr h => ?_)
  · obtain ⟨a, ch, dx, n, so, v, rfl, _⟩ := h
    rfl
  · obtain ⟨a, ch, dx, n, so, v, rfl, ha, l, q⟩ := h
    exact ⟨_, pss_one (ps_ret (pe_fld (f := "_children") (pv 0) (by rfl))), _, rfl, a, C, dx, _, v, rfl, ha, T.c, T.n3, l, q⟩
end
end K12
set_option Elab.async false
set_option linter.all false
set_option autoImplicit false
set_option maxRecDepth 100000
set_option maxHeartbeats 4000000
/-! Pc: pictures as data: their signs, how deep they are, how a text is cut at its top. -/
namespace Pc
open PySem SX
/-- a picture: a hole, or a name with its parts -/
inductive Pic where
  | hole
  | node (n : List Nat) (ps : List Pic)
theorem Pic.ind {P : Pic → Prop} (h0 : P .hole) (h1 : ∀ n ps, (∀ p ∈ ps, P p) → P (.node n ps)) : ∀ p, P p
  | .hole => h0
  | .node n ps => h1 n ps fun p hp => Pic.ind h0 h1 p
mutual
/-- the signs of a picture -/
def Pic.cs : Pic → List Nat
  | .hole => [46]
  | .node n ps => n ++ 40 :: (csJ ps ++ [41])
def csJ : List Pic → List Nat
  | [] => []
  | p :: ps => p.cs ++ csT ps
def csT : List Pic → List Nat
  | [] => []
  | p :: ps => 32 :: (p.cs ++ csT ps)
end
mutual
def Pic.holes : Pic → Nat
  | .hole => 1
  | .node _ ps => holesL ps
def holesL : List Pic → Nat
  | [] => 0
  | p :: ps => p.holes + holesL ps
end
mutual
def Pic.lev : Pic → Nat
  | .hole => 0
  | .node _ ps => 1 + levL ps
def levL : List Pic → Nat
  | [] => 0
  | p :: ps => max p.lev (levL ps)
end
mutual
def Pic.nms : Pic → List (List Nat)
  | .hole => []
  | .node n ps => n :: nmsL ps
def nmsL : List Pic → List (List Nat)
  | [] => []
  | p :: ps => p.nms ++ nmsL ps
end
def Pic.parts : Pic → List Pic
  | .hole => []
  | .node _ ps => ps
/-- small letters, one to eight -/
def word (n : List Nat) : Prop := 1 ≤ n.length ∧ n.length ≤ 8 ∧ ∀ c ∈ n, 97 ≤ c ∧ c ≤ 122
mutual
def Pic.Ok : Pic → Prop
  | .hole => True
  | .node n ps => word n ∧ 2 ≤ ps.length ∧ ps.length ≤ 4 ∧ OkL ps
def OkL : List Pic → Prop
  | [] => True
  | p :: ps => p.Ok ∧ OkL ps
end
theorem okL_iff : ∀ {ps : List Pic}, OkL ps ↔ ∀ p ∈ ps, p.Ok
  | [] => ⟨fun _ p hp => (nomatch hp), fun _ => trivial⟩
  | p :: ps => by
    constructor
    · intro h q hq
      obtain ⟨h1, h2⟩ : p.Ok ∧ OkL ps := h
      rcases List.mem_cons.mp hq with e | e
      · exact e ▸ h1
      · exact okL_iff.mp h2 q e
    · intro h
      exact (⟨h p (List.mem_cons_self ..), okL_iff.mpr fun q hq => h q (List.mem_cons_of_mem _ hq)⟩ : p.Ok ∧ OkL ps)
theorem ok_node {n : List Nat} {ps : List Pic} (h : Pic.Ok (.node n ps)) : word n ∧ 2 ≤ ps.length ∧ ps.length ≤ 4 ∧ ∀ p ∈ ps, p.Ok := by
  obtain ⟨a, b, c, d⟩ : word n ∧ 2 ≤ ps.length ∧ ps.length ≤ 4 ∧ OkL ps := h
  exact ⟨a, b, c, okL_iff.mp d⟩
theorem ok_mk {n : List Nat} {ps : List Pic} (a : word n) (b : 2 ≤ ps.length) (c : ps.length ≤ 4) (d : ∀ p ∈ ps, p.Ok) : Pic.Ok (.node n ps) :=
  (⟨a, b, c, okL_iff.mpr d⟩ : word n ∧ 2 ≤ ps.length ∧ ps.length ≤ 4 ∧ OkL ps)
theorem ok_part {p q : Pic} (h : p.Ok) (hq : q ∈ p.parts) : q.Ok := by
  cases p with
  | hole => cases hq
  | node n ps => exact (ok_node h).2.2.2 q hq
theorem lev_le : ∀ {ps : List Pic} {p : Pic}, p ∈ ps → p.lev ≤ levL ps
  | [], _, h => nomatch h
  | q :: ps, p, h => by
    show p.lev ≤ max q.lev (levL ps)
    rcases List.mem_cons.mp h with e | e
    · rw [e]; omega
    · have := lev_le e; omega
theorem lev_part {p q : Pic} (hq : q ∈ p.parts) : q.lev < p.lev := by
  cases p with
  | hole => cases hq
  | node n ps =>
    have := lev_le (show q ∈ ps from hq)
    show q.lev < 1 + levL ps
    omega
theorem holes_sum : ∀ ps : List Pic, holesL ps = (ps.map Pic.holes).sum
  | [] => rfl
  | p :: ps => by
    show p.holes + holesL ps = _
    rw [holes_sum ps]
    simp
theorem nms_flat : ∀ ps : List Pic, nmsL ps = ps.flatMap Pic.nms
  | [] => rfl
  | p :: ps => by
    show p.nms ++ nmsL ps = _
    rw [nms_flat ps]
    simp
theorem csJ_join : ∀ ps : List Pic, csJ ps = TL.joinL [32] (ps.map Pic.cs)
  | [] => rfl
  | [p] => by simp [csJ, csT, TL.joinL]
  | p :: q :: ps => by
    have e := csJ_join (q :: ps)
    have e2 : csJ (q :: ps) = q.cs ++ csT ps := rfl
    show p.cs ++ 32 :: (q.cs ++ csT ps) = _
    rw [← e2, e]
    simp [TL.joinL]
/-! ### how deep a text is -/
def dstep (s : Int × Int) (c : Nat) : Int × Int := if c = 40 then (s.1 + 1, max s.2 (s.1 + 1)) else if c = 41 then (s.1 - 1, s.2) else s
def dep (cs : List Nat) : Int := (cs.foldl dstep (0, 0)).2
theorem dstep_plain {s : Int × Int} {c : Nat} (h1 : c ≠ 40) (h2 : c ≠ 41) : dstep s c = s := by
  unfold dstep
  rw [if_neg h1, if_neg h2]
theorem dfold_word : ∀ {n : List Nat} {s : Int × Int}, (∀ c ∈ n, 97 ≤ c ∧ c ≤ 122) → n.foldl dstep s = s
  | [], _, _ => rfl
  | c :: n, s, h => by
    have hc := h c (List.mem_cons_self ..)
    rw [List.foldl_cons, dstep_plain (by omega) (by omega)]
    exact dfold_word fun x hx => h x (List.mem_cons_of_mem _ hx)
theorem dfold_T {d : Int} : ∀ {ps : List Pic} {m : Int}, d ≤ m → (∀ p ∈ ps, ∀ m, d ≤ m → p.cs.foldl dstep (d, m) = (d, max m (d + p.lev))) → (csT ps).foldl dstep (d, m) = (d, max m (d + levL ps))
  | [], m, hm, _ => by
    show (d, m) = (d, max m (d + (0 : Nat)))
    have : max m (d + ((0 : Nat) : Int)) = m := by omega
    rw [this]
  | p :: ps, m, hm, h => by
    show ((32 :: (p.cs ++ csT ps)).foldl dstep (d, m)) = _
    rw [List.foldl_cons, dstep_plain (by decide) (by decide), List.foldl_append, h p (List.mem_cons_self ..) m hm, dfold_T (by omega) fun q hq => h q (List.mem_cons_of_mem _ hq)]
    show (d, _) = (d, max m (d + ((max p.lev (levL ps) : Nat) : Int)))
    congr 1
    omega
theorem dfold_pic (p : Pic) : p.Ok → ∀ d m : Int, d ≤ m → p.cs.foldl dstep (d, m) = (d, max m (d + p.lev)) := by
  refine Pic.ind (P := fun p => p.Ok → ∀ d m : Int, d ≤ m → p.cs.foldl dstep (d, m) = (d, max m (d + p.lev))) (fun _ d m hm => ?_) (fun n ps ih ok d m hm => ?_) p
  · show ([46] : List Nat).foldl dstep (d, m) = (d, max m (d + (0 : Nat)))
    rw [List.foldl_cons, dstep_plain (by decide) (by decide)]
    show (d, m) = _
    congr 1
    omega
  · obtain ⟨w, l2, l4, oks⟩ := ok_node ok
    show (n ++ 40 :: (csJ ps ++ [41])).foldl dstep (d, m) = _
    rw [List.foldl_append, dfold_word w.2.2, List.foldl_cons]
    have e1 : dstep (d, m) 40 = (d + 1, max m (d + 1)) := rfl
    rw [e1, List.foldl_append]
    have e2 : (csJ ps).foldl dstep (d + 1, max m (d + 1)) = (d + 1, max (max m (d + 1)) (d + 1 + levL ps)) := by
      cases ps with
      | nil => simp at l2
      | cons p ps =>
        show (p.cs ++ csT ps).foldl dstep _ = _
        rw [List.foldl_append, ih p (List.mem_cons_self ..) (oks p (List.mem_cons_self ..)) _ _ (by omega), dfold_T (by omega) fun q hq m hm => ih q (List.mem_cons_of_mem _ hq) (oks q (List.mem_cons_of_mem _ hq)) _ _ hm]
        show (d + 1, _) = (d + 1, max _ (d + 1 + ((max p.lev (levL ps) : Nat) : Int)))
        congr 1
        omega
    rw [e2]
    show dstep (d + 1, _) 41 = _
    have e3 : ∀ x : Int, dstep (d + 1, x) 41 = (d + 1 - 1, x) := fun x => rfl
    rw [e3]
    show (d + 1 - 1, _) = (d, max m (d + ((1 + levL ps : Nat) : Int)))
    congr 1 <;> omega
theorem dep_pic {p : Pic} (h : p.Ok) : dep p.cs = p.lev := by
  unfold dep
  rw [dfold_pic p h 0 0 (Int.le_refl 0)]
  show max 0 (0 + (p.lev : Int)) = _
  omega
/-! ### cut at blanks outside of brackets -/
def spl : List Nat → Int → List Nat → List (List Nat) → Option (List (List Nat))
  | [], d, w, ts => if d = 0 then some (ts ++ [w]) else none
  | c :: r, d, w, ts =>
    if c = 40 then spl r (d + 1) (w ++ [c]) ts
    else if c = 41 then (if d - 1 < 0 then none else spl r (d - 1) (w ++ [c]) ts)
    else if c = 32 ∧ d = 0 then spl r d [] (ts ++ [w])
    else spl r d (w ++ [c]) ts
theorem spl_word : ∀ {n : List Nat} {r : List Nat} {d : Int} {w : List Nat} {ts : List (List Nat)}, (∀ c ∈ n, 97 ≤ c ∧ c ≤ 122) → spl (n ++ r) d w ts = spl r d (w ++ n) ts
  | [], r, d, w, ts, _ => by simp
  | c :: n, r, d, w, ts, h => by
    have hc := h c (List.mem_cons_self ..)
    show spl (c :: (n ++ r)) d w ts = _
    rw [spl, if_neg (by omega), if_neg (by omega), if_neg (by omega), spl_word fun x hx => h x (List.mem_cons_of_mem _ hx)]
    simp
theorem spl_T {d : Int} (hd : 0 < d) : ∀ {ps : List Pic} {r w : List Nat} {ts : List (List Nat)}, (∀ p ∈ ps, ∀ r w ts, spl (p.cs ++ r) d w ts = spl r d (w ++ p.cs) ts) → spl (csT ps ++ r) d w ts = spl r d (w ++ csT ps) ts
  | [], r, w, ts, _ => by simp [csT]
  | p :: ps, r, w, ts, h => by
    show spl (32 :: ((p.cs ++ csT ps) ++ r)) d w ts = spl r d (w ++ 32 :: (p.cs ++ csT ps)) ts
    rw [spl, if_neg (by decide), if_neg (by decide), if_neg (by omega), List.append_assoc, h p (List.mem_cons_self ..), spl_T hd fun q hq => h q (List.mem_cons_of_mem _ hq)]
    simp
theorem spl_pic (p : Pic) : p.Ok → ∀ (d : Int), 0 ≤ d → ∀ r w ts, spl (p.cs ++ r) d w ts = spl r d (w ++ p.cs) ts := by
  refine Pic.ind (P := fun p => p.Ok → ∀ (d : Int), 0 ≤ d → ∀ r w ts, spl (p.cs ++ r) d w ts = spl r d (w ++ p.cs) ts) (fun _ d hd r w ts => ?_) (fun n ps ih ok d hd r w ts => ?_) p
  · show spl (46 :: r) d w ts = _
    rw [spl, if_neg (by decide), if_neg (by decide), if_neg (by omega)]
    rfl
  · obtain ⟨wn, l2, l4, oks⟩ := ok_node ok
    have e0 : (Pic.node n ps).cs = n ++ 40 :: (csJ ps ++ [41]) := rfl
    rw [e0]
    have e1 : n ++ 40 :: (csJ ps ++ [41]) ++ r = n ++ (40 :: (csJ ps ++ (41 :: r))) := by simp
    rw [e1, spl_word wn.2.2, spl, if_pos rfl]
    have e2 : spl (csJ ps ++ (41 :: r)) (d + 1) (w ++ n ++ [40]) ts = spl (41 :: r) (d + 1) (w ++ n ++ [40] ++ csJ ps) ts := by
      cases ps with
      | nil => simp at l2
      | cons p ps =>
        show spl ((p.cs ++ csT ps) ++ (41 :: r)) _ _ _ = _
        rw [List.append_assoc, ih p (List.mem_cons_self ..) (oks p (List.mem_cons_self ..)) _ (by omega), spl_T (by omega) fun q hq r w ts => ih q (List.mem_cons_of_mem _ hq) (oks q (List.mem_cons_of_mem _ hq)) _ (by omega) r w ts]
        congr 1
        show _ = w ++ n ++ [40] ++ (p.cs ++ csT ps)
        simp
    rw [e2, spl, if_neg (by decide), if_pos rfl, if_neg (by omega)]
    have e3 : d + 1 - 1 = d := by omega
    rw [e3]
    congr 1
    simp
theorem spl_tops : ∀ {ps : List Pic} {p : Pic} {ts : List (List Nat)}, p.Ok → (∀ q ∈ ps, q.Ok) → spl (p.cs ++ csT ps) 0 [] ts = some (ts ++ p.cs :: ps.map Pic.cs)
  | [], p, ts, h, _ => by
    show spl (p.cs ++ []) 0 [] ts = _
    rw [spl_pic p h 0 (Int.le_refl 0)]
    show (if (0 : Int) = 0 then some (ts ++ [[] ++ p.cs]) else none) = _
    rw [if_pos rfl]
    rfl
  | q :: ps, p, ts, h, hs => by
    show spl (p.cs ++ (32 :: (q.cs ++ csT ps))) 0 [] ts = _
    rw [spl_pic p h 0 (Int.le_refl 0), spl, if_neg (by decide), if_neg (by decide), if_pos ⟨rfl, rfl⟩, spl_tops (hs q (List.mem_cons_self ..)) fun x hx => hs x (List.mem_cons_of_mem _ hx)]
    simp
theorem spl_parts {ps : List Pic} (l : 2 ≤ ps.length) (h : ∀ q ∈ ps, q.Ok) : spl (csJ ps) 0 [] [] = some (ps.map Pic.cs) := by
  cases ps with
  | nil => simp at l
  | cons p ps =>
    show spl (p.cs ++ csT ps) 0 [] [] = _
    rw [spl_tops (h p (List.mem_cons_self ..)) fun q hq => h q (List.mem_cons_of_mem _ hq)]
    rfl
/-! ### lengths and signs -/
theorem csJ_len {b : Nat} : ∀ {ps : List Pic}, (∀ p ∈ ps, p.cs.length ≤ b) → (csT ps).length ≤ ps.length * (b + 1)
  | [], _ => by simp [csT]
  | p :: ps, h => by
    have h1 := h p (List.mem_cons_self ..)
    have h2 := csJ_len fun q hq => h q (List.mem_cons_of_mem _ hq)
    show (32 :: (p.cs ++ csT ps)).length ≤ _
    rw [List.length_cons, List.length_append, List.length_cons, Nat.succ_mul]
    omega
def lenB : Nat → Nat
  | 0 => 1
  | k + 1 => 14 + 4 * lenB k
theorem lenB_mono {a b : Nat} (h : a ≤ b) : lenB a ≤ lenB b := by
  induction h with
  | refl => exact Nat.le_refl _
  | step _ ih =>
    show _ ≤ 14 + 4 * lenB _
    omega
theorem cs_len (p : Pic) : p.Ok → p.cs.length ≤ lenB p.lev := by
  refine Pic.ind (P := fun p => p.Ok → p.cs.length ≤ lenB p.lev) (fun _ => Nat.le_refl 1) (fun n ps ih ok => ?_) p
  obtain ⟨w, l2, l4, oks⟩ := ok_node ok
  have hb : ∀ p ∈ ps, p.cs.length ≤ lenB (levL ps) := fun p hp => Nat.le_trans (ih p hp (oks p hp)) (lenB_mono (lev_le hp))
  show (n ++ 40 :: (csJ ps ++ [41])).length ≤ lenB (1 + levL ps)
  rw [Nat.add_comm 1]
  show _ ≤ 14 + 4 * lenB (levL ps)
  cases ps with
  | nil => simp at l2
  | cons p ps =>
    have h1 := hb p (List.mem_cons_self ..)
    have h2 := csJ_len fun q hq => hb q (List.mem_cons_of_mem _ hq)
    have l4' : ps.length ≤ 3 := by simpa using l4
    have h3 : ps.length * (lenB (levL (p :: ps)) + 1) ≤ 3 * (lenB (levL (p :: ps)) + 1) := Nat.mul_le_mul_right _ l4'
    have := w.2.1
    show (n ++ 40 :: ((p.cs ++ csT ps) ++ [41])).length ≤ _
    simp only [List.length_append, List.length_cons, List.length_nil]
    omega
theorem csT_asc {q : Nat → Prop} (h32 : q 32) : ∀ {ps : List Pic}, (∀ p ∈ ps, ∀ c ∈ p.cs, q c) → ∀ c ∈ csT ps, q c
  | [], _, c, hc => nomatch (show c ∈ ([] : List Nat) from hc)
  | p :: ps, h, c, hc => by
    rcases List.mem_cons.mp (show c ∈ 32 :: (p.cs ++ csT ps) from hc) with e | e
    · exact e ▸ h32
    · rcases List.mem_append.mp e with e | e
      · exact h p (List.mem_cons_self ..) c e
      · exact csT_asc h32 (fun x hx => h x (List.mem_cons_of_mem _ hx)) c e
theorem cs_asc (p : Pic) : p.Ok → ∀ c ∈ p.cs, 32 ≤ c ∧ c ≤ 122 := by
  refine Pic.ind (P := fun p => p.Ok → ∀ c ∈ p.cs, 32 ≤ c ∧ c ≤ 122) (fun _ c hc => ?_) (fun n ps ih ok c hc => ?_) p
  · have : c = 46 := by simpa [Pic.cs] using hc
    omega
  · obtain ⟨w, l2, l4, oks⟩ := ok_node ok
    rcases List.mem_append.mp (show c ∈ n ++ 40 :: (csJ ps ++ [41]) from hc) with e | e
    · have := w.2.2 c e
      omega
    · rcases List.mem_cons.mp e with e | e
      · omega
      · rcases List.mem_append.mp e with e | e
        · cases ps with
          | nil => simp at l2
          | cons p ps =>
            rcases List.mem_append.mp (show c ∈ p.cs ++ csT ps from e) with e | e
            · exact ih p (List.mem_cons_self ..) (oks p (List.mem_cons_self ..)) c e
            · exact csT_asc (q := fun c => 32 ≤ c ∧ c ≤ 122) (by decide) (fun q hq => ih q (List.mem_cons_of_mem _ hq) (oks q (List.mem_cons_of_mem _ hq))) c e
        · have : c = 41 := by simpa using e
          omega
end Pc
set_option Elab.async false
set_option linter.all false
set_option autoImplicit false
set_option maxRecDepth 100000
set_option maxHeartbeats 4000000
/-! Ze: enumerate of a tuple. -/
namespace Ze
open PySem
open AutoSeq1 (wpAny_loadPart')
theorem meets_enum1 {v : Value} {o : Obj} {H : Heap → Prop} (B : Begins v o H) :
    Meets (Builtin.«enumerate.__new__» ⟨[.type "enumerate", v], []⟩) (fun _ R s => H s.heap ∧
      R (.ok (.ret (.ref (s.heap.push o).objs.size))) { s with heap := (s.heap.push o).push { cls := .type "enumerate", data := .fields #[.none, .bool false, .ref s.heap.objs.size, rawInt 0, .none, .none] } }) :=
  .of_wp fun prog w A R s h => by
    obtain ⟨hp, g, d, tk, os⟩ := s; obtain ⟨h1, h⟩ := h
    have hsub := sub_enumerate
    have q1 : ∀ {A' : Around} {E : Value → Shared → Prop} {Q : Value → Shared → Prop}, Q (.ref hp.objs.size) ⟨hp.push o, g, d, tk, os⟩ → wpAny (model prog w) A' (pyIter v) Q E ⟨hp, g, d, tk, os⟩ :=
      fun q => B.iter prog w _ _ ⟨hp, g, d, tk, os⟩ _ h1 q
    wp_walk using q1
    refine wpAny_stack_any fun st => wpAny_pure ?_
    split
    · rename_i c _ _ _ _ _
      cases (c == Value.type "enumerate")
      · wp_walk using q1
        exact ⟨_, rfl, h⟩
      · wp_walk using q1
        exact ⟨_, rfl, h⟩
    · wp_walk using q1
      exact ⟨_, rfl, h⟩
section
variable {prog : Program} {w : World} {A : Around} {E : Value → Shared → Prop} {s : Shared}
theorem call_enum1 {v : Value} {o : Obj} {H : Heap → Prop} {Q : Value → Shared → Prop} (B : Begins v o H) (h1 : H s.heap)
    (h : ∀ h', IsEnum h' (s.heap.objs.size + 1) s.heap.objs.size 0 .none → h'.get? s.heap.objs.size = some o → h'.objs.size = s.heap.objs.size + 2 →
      (∀ b o, s.heap.get? b = some o → h'.get? b = some o) → Q (.ref (s.heap.objs.size + 1)) { s with heap := h' }) :
    wpAny (model prog w) A (call (.type "enumerate") [v]) Q E s := by
  refine callType_new F.called_enumerate (by decide) (F.typeCall_enumerate_1 _) (F.newCall_enumerate_1 _) (fun obj => F.args_object_init_2 obj _) F.entry_enumerate_new
    (meets_enum1 B) ⟨h1, ?_⟩
  have hz : (s.heap.push o).objs.size = s.heap.objs.size + 1 := Heap.size_push ..
  show _ ∧ _
  rw [hz]
  have he : IsEnum ((s.heap.push o).push { cls := .type "enumerate", data := .fields #[.none, .bool false, .ref s.heap.objs.size, rawInt 0, .none, .none] }) (s.heap.objs.size + 1) s.heap.objs.size 0 .none := by
    have := Heap.get?_push_size (s.heap.push o) (o := { cls := .type "enumerate", data := .fields #[.none, .bool false, .ref s.heap.objs.size, rawInt 0, .none, .none] }) rfl
    rw [hz] at this; exact this
  refine ⟨⟨_, he, rfl⟩, h _ he (Heap.get?_push_of_some _ (Heap.get?_push_size _ B.free)) (by rw [Heap.size_push, hz]) fun b o x => Heap.get?_push_of_some _ (Heap.get?_push_of_some _ x)⟩
end
end Ze
namespace Ze
open PySem PySem.Spec PyProof.Rows L2
/-- the tuple at a, each item in a new pair -/
def Iue (K : PySem.W.Frag) (a : Addr) : It :=
  ⟨fun i H => ∃ (xs : List V) (x : V), SqT K H a xs ∧ xs[i]? = some x, fun i H v H' => ∃ T x, v = .ref T ∧ H T = none ∧ H' = upd H T (.tup [.int (i : Nat), x]) ∧ ∀ xs, SqT K H a xs → xs[i]? = some x, fun i H => ∃ xs : List V, SqT K H a xs ∧ xs.length ≤ i⟩
theorem turn_enumT {P : Program} {w : World} {K : PySem.W.Frag} {elts : List Expr} {kk : Nat} {tpos : Pos} (a e it : Addr) :
    Turn P w K (.Tuple elts kk tpos) (Iue K a) [e, it] e (fun i h => (∃ old, IsEnum h e it ((i : Nat) : Int) old) ∧ h.IsTupleIter it a i ∧ e ≠ it) where
  mem := by simp
  obj := fun i h st b hb => by
    obtain ⟨⟨old, he⟩, ⟨o, ho, hc, hd⟩, _⟩ := st
    have e' : b = e ∨ b = it := by simpa using hb
    rcases e' with z | z
    · rw [z]; exact ⟨_, he, fun v q => nomatch q⟩
    · rw [z]; exact ⟨o, ho, fun v q => by rw [hd] at q; cases q⟩
  keep := fun i h h' st k => let ⟨⟨old, he⟩, hi, hne⟩ := st; ⟨⟨old, k e (by simp) _ he⟩, hi.at fun o q => k it (by simp) o q, hne⟩
  item := by
    intro X hP hw hK hc i pins s σ H E I hf st hg
    subst hP hw hK
    obtain ⟨⟨old, he⟩, hit, hne⟩ := st
    obtain ⟨xs, x, hq, hx⟩ := hg
    obtain ⟨its, rv, p, hz⟩ := I.tuple hq
    obtain ⟨u, hu, ru⟩ := rv.get hx
    have hel : e < s.heap.objs.size := Heap.lt_size he
    have hil : it < s.heap.objs.size := by obtain ⟨_, q, _⟩ := hit; exact Heap.lt_size q
    obtain ⟨op, hop, hcp, _⟩ := id p
    have hea : e ≠ a := fun z => by
      rw [z] at he
      have q := hop.symm.trans he
      cases Option.some.inj q
      exact absurd (Value.type.inj hcp) (by decide)
    have hta : a ≠ it := fun z => by
      obtain ⟨o, ho, hc', _⟩ := id hit
      rw [← z, hop] at ho
      cases ho
      rw [hcp] at hc'
      exact absurd (Value.type.inj hc') (by decide)
    have D := Draws.tuple (prog := X.prog) (w := X.w) (A := X.A.in1) (I.ok.hd hc) it a hta its.toArray
    have hlt : i < its.toArray.size := by
      have := (List.getElem?_eq_some_iff.mp hu).1
      simpa using this
    refine wpAny_pyNext_enum_itemD D he ⟨hit, p⟩ hlt hne (by simp [hne, hea]) fun u' h' tk hP ho hit' hT hsz hk => ?_
    have eu : u' = u := by
      have : its[i]? = some u' := by simpa using hP
      rw [hu] at this
      exact (Option.some.inj this).symm
    subst eu
    refine ⟨_, rfl, wpAny_letOwnedTupleGo_enum (s := { s with heap := h', toks := tk + 1 }) ho fun h'' he' sb => ?_⟩
    have hT2 : h''.get? s.heap.objs.size = some { cls := .type "tuple", data := .seq #[.int i tk, u'] } := (sb.2 _ (Nat.ne_of_gt hel)).trans hT
    have new : ObjOk X.prog X.w (upd H s.heap.objs.size (.tup [.int (i : Nat), x])) h'' s.heap.objs.size (.tup [.int (i : Nat), x]) :=
      ⟨by show 2 ≤ sizeLine; decide, [.int i tk, u'], .cons ⟨_, rfl⟩ (.cons ru .nil), ⟨_, hT2, rfl, _, rfl⟩⟩
    have I1 : Inv X pins σ (upd H s.heap.objs.size (.tup [.int (i : Nat), x])) { s with heap := h'', toks := tk + 1 } :=
      I.turnedNew (ch := [e, it]) (fun b ob hb q => (sb.2 b (fun z => hb (by simp [z]))).trans (hk b ob (fun z => hb (by simp [z])) (fun z => hb (by simp [z])) q)) hf (Nat.le_refl _) new
    refine ⟨.ref s.heap.objs.size, _, I1, rfl, ⟨_, x, rfl, I.hok.fresh (Nat.le_refl _), rfl, fun ys hy => by rw [I.tuple_inj hy hq]; exact hx⟩, ⟨⟨u', ?_⟩, hit'.1.at fun o q => (sb.2 it (Ne.symm hne)).trans q, hne⟩, fun b hb => ?_⟩
    · have e1 : ((i + 1 : Nat) : Int) = (i : Int) + 1 := by omega
      rw [e1]; exact he'
    · have hb' : b < s.heap.objs.size := by
        have e' : b = e ∨ b = it := by simpa using hb
        rcases e' with z | z
        · rw [z]; exact hel
        · rw [z]; exact hil
      rw [upd_ne (Nat.ne_of_lt hb')]
      exact (hf b hb).1
  done := by
    intro X hP hw hK hc i pins s σ H E I hf st hg
    subst hP hw hK
    obtain ⟨⟨old, he⟩, hit, hne⟩ := st
    obtain ⟨xs, hq, hx⟩ := hg
    obtain ⟨its, rv, p, hz⟩ := I.tuple hq
    obtain ⟨f0, f1, f2, f3, f4, f5⟩ := hf it (by simp)
    have hl := rv.length
    obtain ⟨op, hop, hcp, _⟩ := id p
    have hta : a ≠ it := fun z => by
      obtain ⟨o, ho, hc', _⟩ := id hit
      rw [← z, hop] at ho
      cases ho
      rw [hcp] at hc'
      exact absurd (Value.type.inj hc') (by decide)
    have hT : s.TypeIs (.ref e) "enumerate" := ⟨_, he, rfl⟩
    unfold pyNext
    refine wpAny_bind (wpAny_attempt (wpAny_callSpecial?_slot (name := Str.ofString "__next__") hT PySem.F.slot_enumerate_next
      (wpAny_call_entry PySem.F.slot_enumerate_next hT PySem.F.entry_enumerate_next ?_ (PySem.F.args_enumerate_next_1 _))))
    show wpAny _ _ (field (.ref e) 2 >>= _) _ _ _
    refine wpAny_bind (wpAny_field he rfl (x := .ref it) rfl ?_)
    refine wpAny_bind (wpAny_nextOf_tuple_end (I.ok.hd hc) hit p (by simp; omega) fun h' x he' hx' => ?_)
    obtain ⟨o, ho, hc'⟩ := hx'
    refine wpAny_bind (wpAny_isInstance (T := "StopIteration") (b := true) ⟨o, ho, hc'⟩ isSubtype_stop ?_)
    exact wpAny_pure ⟨rfl, I.turned (t' := s.toks) (fun b o hb q => he' b o hb q) f0 f1 f3 f4 f5⟩
  self := fun A i s Q E st h => let ⟨⟨_, he⟩, _⟩ := st; wpAny_pyIter_enum he h
def iEnumT (K : PySem.W.Frag) (ta : TA) : TI := fun σ H R => ta σ H fun vs H1 => ∃ a xs, vs = [.ref a] ∧ SqT K H1 a xs ∧ R (Iue K a) H1
theorem pi_enumT {X : Cx} {e : Expr} {ta : TA} {p pos tpos : Pos} {elts : List Expr} {kk : Nat} (hg : Gl X "enumerate") (hm : X.mg "enumerate" = none) (ha : PA X [e] ta) (hs : starEach [e] X.env = [(false, eval e X.env)] := by rfl) :
    PI X (.Tuple elts kk tpos) (.Call (.Name "enumerate" p) [e] [] pos) (iEnumT X.K ta) := by
  refine ⟨fun pins s σ H R I h => ?_⟩
  refine Call_ (ld_blt I hg hm boot_enumerate (PyProof.Rows.callWith_type1 (thn (ha.run pos pins s σ H _ I h) fun us s1 ⟨vs, H1, I1, r1, q1⟩ => ?_) hs rfl))
  obtain ⟨a, xs, ex, hq, q⟩ := q1
  subst ex
  cases r1 with
  | cons r rr =>
    cases rr
    cases r
    obtain ⟨its, rv, p', hz⟩ := I1.tuple hq
    refine call_enum1 (begins_tuple a its.toArray) p' fun h' he hit hsz hk => wpAny_pyIter_enum he ?_
    have I2 : Inv X pins σ H1 { s1 with heap := h' } := I1.kept (t' := s1.toks) hk
    refine ⟨s1.heap.objs.size + 1, [s1.heap.objs.size + 1, s1.heap.objs.size], _, _, H1, rfl, I2, turn_enumT a (s1.heap.objs.size + 1) s1.heap.objs.size, ⟨⟨.none, he⟩, ⟨_, hit, rfl, rfl⟩, Nat.succ_ne_self _⟩, fun b hb => ?_, q⟩
    have e' : b = s1.heap.objs.size + 1 ∨ b = s1.heap.objs.size := by simpa using hb
    have hle : s1.heap.objs.size ≤ b := by
      rcases e' with z | z
      · rw [z]; exact Nat.le_add_right _ _
      · rw [z]; exact Nat.le_refl _
    exact I1.fpOk hle (I1.hok.fresh hle)
/-! ### walks in comprehensions with two fors: body is what a turn goes on to, behind it stands Nx -/
theorem walk_tup {K : PySem.W.Frag} {a : Addr} {xs : List V} {g : TG} {tt : TT} {body : L2.St → Hp → (Hp → Prop) → Prop} {vs : List Nat} {σ : L2.St} {H0 : Hp} {Qd : Hp → Prop} (Pv : Nat → Hp → Prop) (h0 : Pv 0 H0) (hl : ∀ i H, i ≤ xs.length → Pv i H → SqT K H a xs)
    (hs : ∀ i x H, xs[i]? = some x → Pv i H → g x (wipe σ vs) H fun σ2 H2 => wipe σ2 vs = wipe σ vs ∧ tt σ2 H2 fun b H3 => if b = true then body σ2 H3 (Pv (i + 1)) else Pv (i + 1) H3) (hd : ∀ H, Pv xs.length H → Qd H) :
    ∃ W : Nat → Nat → Hp → Prop, (∃ m, W 0 m H0) ∧ ∀ i m H, W i m H →
      ((Itt K a).stop i H ∧ Qd H) ∨ ((Itt K a).go i H ∧ ∃ Nx : Hp → Prop, (∀ H', Nx H' → ∃ m', m' < m ∧ W (i + 1) m' H') ∧ ∀ x H', (Itt K a).yld i H x H' → g x (wipe σ vs) H' fun σ2 H2 => wipe σ2 vs = wipe σ vs ∧ tt σ2 H2 fun b H3 => if b = true then body σ2 H3 Nx else Nx H3) := by
  refine ⟨fun i m H => m = xs.length - i ∧ i ≤ xs.length ∧ Pv i H, ⟨xs.length, by simp, Nat.zero_le _, h0⟩, ?_⟩
  rintro i m H ⟨rfl, hi, p⟩
  have q := hl i H hi p
  by_cases hlt : i < xs.length
  · refine .inr ⟨⟨xs, xs[i], q, by simp [hlt]⟩, Pv (i + 1), fun H' p' => ⟨xs.length - (i + 1), by omega, rfl, hlt, p'⟩, fun x H' y => ?_⟩
    obtain ⟨e, y⟩ := y
    subst e
    exact hs i x _ (y xs q) p
  · have e : i = xs.length := by omega
    subst e
    exact .inl ⟨⟨xs, q, Nat.le_refl _⟩, hd H p⟩
theorem walk_enumT {K : PySem.W.Frag} {a : Addr} {xs : List V} {g : TG} {tt : TT} {body : L2.St → Hp → (Hp → Prop) → Prop} {vs : List Nat} {σ : L2.St} {H0 : Hp} {Qd : Hp → Prop} (Pv : Nat → Hp → Prop) (h0 : Pv 0 H0) (hl : ∀ i H, i ≤ xs.length → Pv i H → SqT K H a xs)
    (hs : ∀ i x T H, xs[i]? = some x → Pv i H → H T = none → g (.ref T) (wipe σ vs) (upd H T (.tup [.int (i : Nat), x])) fun σ2 H2 => wipe σ2 vs = wipe σ vs ∧ tt σ2 H2 fun b H3 => if b = true then body σ2 H3 (Pv (i + 1)) else Pv (i + 1) H3) (hd : ∀ H, Pv xs.length H → Qd H) :
    ∃ W : Nat → Nat → Hp → Prop, (∃ m, W 0 m H0) ∧ ∀ i m H, W i m H →
      ((Iue K a).stop i H ∧ Qd H) ∨ ((Iue K a).go i H ∧ ∃ Nx : Hp → Prop, (∀ H', Nx H' → ∃ m', m' < m ∧ W (i + 1) m' H') ∧ ∀ x H', (Iue K a).yld i H x H' → g x (wipe σ vs) H' fun σ2 H2 => wipe σ2 vs = wipe σ vs ∧ tt σ2 H2 fun b H3 => if b = true then body σ2 H3 Nx else Nx H3) := by
  refine ⟨fun i m H => m = xs.length - i ∧ i ≤ xs.length ∧ Pv i H, ⟨xs.length, by simp, Nat.zero_le _, h0⟩, ?_⟩
  rintro i m H ⟨rfl, hi, p⟩
  have q := hl i H hi p
  by_cases hlt : i < xs.length
  · refine .inr ⟨⟨xs, xs[i], q, by simp [hlt]⟩, Pv (i + 1), fun H' p' => ⟨xs.length - (i + 1), by omega, rfl, hlt, p'⟩, fun x H' y => ?_⟩
    obtain ⟨T, x', e, nT, e', y⟩ := y
    subst e e'
    exact hs i x' T H (y xs q) p nT
  · have e : i = xs.length := by omega
    subst e
    exact .inl ⟨⟨xs, q, Nat.le_refl _⟩, hd H p⟩
end Ze
set_option Elab.async false
set_option linter.all false
set_option autoImplicit false
set_option maxRecDepth 100000
set_option maxHeartbeats 4000000
/-! Zc: enumerate of a text. -/
namespace Zc
open PySem PySem.Spec PyProof.Rows L2
/-- the text, each sign in a new pair -/
def Ius (x : Str) : It :=
  ⟨fun i _ => i < x.cps.size, fun i H v H' => ∃ T c, v = .ref T ∧ H T = none ∧ H' = upd H T (.tup [.int (i : Nat), .str ⟨#[c]⟩]) ∧ x.cps[i]? = some c, fun i _ => x.cps.size = i⟩
theorem turn_enumS {P : Program} {w : World} {K : PySem.W.Frag} {elts : List Expr} {kk : Nat} {tpos : Pos} (e it : Addr) (x : Str) (t : Tok) (ty : String) (hty : ty = "str_ascii_iterator" ∨ ty = "str_iterator") :
    Turn P w K (.Tuple elts kk tpos) (Ius x) [e, it] e (fun i h => (∃ old, IsEnum h e it ((i : Nat) : Int) old) ∧ h.IsStrIter it ty x t i ∧ e ≠ it) where
  mem := by simp
  obj := fun i h st b hb => by
    obtain ⟨⟨old, he⟩, ⟨o, ho, hc, hd⟩, _⟩ := st
    have e' : b = e ∨ b = it := by simpa using hb
    rcases e' with z | z
    · rw [z]; exact ⟨_, he, fun v q => nomatch q⟩
    · rw [z]; exact ⟨o, ho, fun v q => by rw [hd] at q; cases q⟩
  keep := fun i h h' st k => let ⟨⟨old, he⟩, hi, hne⟩ := st; ⟨⟨old, k e (by simp) _ he⟩, (by obtain ⟨o, ho, r⟩ := hi; exact ⟨o, k it (by simp) o ho, r⟩), hne⟩
  item := by
    intro X hP hw hK hc i pins s σ H E I hf st hg
    subst hP hw hK
    obtain ⟨⟨old, he⟩, hit, hne⟩ := st
    have hel : e < s.heap.objs.size := Heap.lt_size he
    have hil : it < s.heap.objs.size := by obtain ⟨_, q, _⟩ := hit; exact Heap.lt_size q
    have D : Draws X.prog X.w X.A.in1 it [it] x.cps.size (fun i v => ∃ c u, x.cps[i]? = some c ∧ v = .str ⟨#[c]⟩ u) (fun i h => h.IsStrIter it ty x t i) := by
      rcases hty with z | z
      · rw [z]; exact Draws.strAscii (A := X.A.in1) (I.ok.hd hc) it x t
      · rw [z]; exact Draws.strWide (A := X.A.in1) (I.ok.hd hc) it x t
    refine wpAny_pyNext_enum_itemD D he hit hg hne (by simp [hne]) fun u' h' tk hP ho hit' hT hsz hk => ?_
    obtain ⟨c, u, hcx, rfl⟩ := hP
    refine ⟨_, rfl, wpAny_letOwnedTupleGo_enum (s := { s with heap := h', toks := tk + 1 }) ho fun h'' he' sb => ?_⟩
    have hT2 : h''.get? s.heap.objs.size = some { cls := .type "tuple", data := .seq #[.int i tk, .str ⟨#[c]⟩ u] } := (sb.2 _ (Nat.ne_of_gt hel)).trans hT
    have new : ObjOk X.prog X.w (upd H s.heap.objs.size (.tup [.int (i : Nat), .str ⟨#[c]⟩])) h'' s.heap.objs.size (.tup [.int (i : Nat), .str ⟨#[c]⟩]) :=
      ⟨by show 2 ≤ sizeLine; decide, [.int i tk, .str ⟨#[c]⟩ u], .cons ⟨_, rfl⟩ (.cons ⟨_, rfl⟩ .nil), ⟨_, hT2, rfl, _, rfl⟩⟩
    have I1 : Inv X pins σ (upd H s.heap.objs.size (.tup [.int (i : Nat), .str ⟨#[c]⟩])) { s with heap := h'', toks := tk + 1 } :=
      I.turnedNew (ch := [e, it]) (fun b ob hb q => (sb.2 b (fun z => hb (by simp [z]))).trans (hk b ob (fun z => hb (by simp [z])) (fun z => hb (by simp [z])) q)) hf (Nat.le_refl _) new
    refine ⟨.ref s.heap.objs.size, _, I1, rfl, ⟨_, c, rfl, I.hok.fresh (Nat.le_refl _), rfl, hcx⟩, ⟨⟨.str ⟨#[c]⟩ u, ?_⟩, (by obtain ⟨o, ho', r⟩ := hit'; exact ⟨o, (sb.2 it (Ne.symm hne)).trans ho', r⟩), hne⟩, fun b hb => ?_⟩
    · have e1 : ((i + 1 : Nat) : Int) = (i : Int) + 1 := by omega
      rw [e1]; exact he'
    · have hb' : b < s.heap.objs.size := by
        have e' : b = e ∨ b = it := by simpa using hb
        rcases e' with z | z
        · rw [z]; exact hel
        · rw [z]; exact hil
      rw [upd_ne (Nat.ne_of_lt hb')]
      exact (hf b hb).1
  done := by
    intro X hP hw hK hc i pins s σ H E I hf st hg
    subst hP hw hK
    obtain ⟨⟨old, he⟩, hit, hne⟩ := st
    obtain ⟨f0, f1, f2, f3, f4, f5⟩ := hf it (by simp)
    have D : Draws X.prog X.w X.A.in1 it [it] x.cps.size (fun i v => ∃ c u, x.cps[i]? = some c ∧ v = .str ⟨#[c]⟩ u) (fun i h => h.IsStrIter it ty x t i) := by
      rcases hty with z | z
      · rw [z]; exact Draws.strAscii (A := X.A.in1) (I.ok.hd hc) it x t
      · rw [z]; exact Draws.strWide (A := X.A.in1) (I.ok.hd hc) it x t
    have hg' : x.cps.size = i := hg
    rw [← hg'] at hit
    exact wpAny_pyNext_enum_endD D he hit fun h' eb => ⟨rfl, I.turned (t' := s.toks) (fun b o hb q => eb b o hb q) f0 f1 f3 f4 f5⟩
  self := fun A i s Q E st h => let ⟨⟨_, he⟩, _⟩ := st; wpAny_pyIter_enum he h
def iEnumS (ta : TA) : TI := fun σ H R => ta σ H fun vs H1 => ∃ x, vs = [.str x] ∧ R (Ius x) H1
theorem pi_enumS {X : Cx} {e : Expr} {ta : TA} {p pos tpos : Pos} {elts : List Expr} {kk : Nat} (hg : Gl X "enumerate") (hm : X.mg "enumerate" = none) (ha : PA X [e] ta) (hs : starEach [e] X.env = [(false, eval e X.env)] := by rfl) :
    PI X (.Tuple elts kk tpos) (.Call (.Name "enumerate" p) [e] [] pos) (iEnumS ta) := by
  refine ⟨fun pins s σ H R I h => ?_⟩
  refine Call_ (ld_blt I hg hm boot_enumerate (PyProof.Rows.callWith_type1 (thn (ha.run pos pins s σ H _ I h) fun us s1 ⟨vs, H1, I1, r1, q1⟩ => ?_) hs rfl))
  obtain ⟨x, ex, q⟩ := q1
  subst ex
  cases r1 with
  | cons r rr =>
    cases rr
    obtain ⟨t, rfl⟩ := r
    refine call_enumerate_str fun h' he hit hsz hk => wpAny_pyIter_enum he ?_
    have I2 : Inv X pins σ H1 { s1 with heap := h' } := I1.kept (t' := s1.toks) hk
    have hty : strIterType x = "str_ascii_iterator" ∨ strIterType x = "str_iterator" := by
      unfold strIterType
      cases x.cps.all (· < 128)
      · exact .inr rfl
      · exact .inl rfl
    refine ⟨s1.heap.objs.size + 1, [s1.heap.objs.size + 1, s1.heap.objs.size], _, _, H1, rfl, I2, turn_enumS (s1.heap.objs.size + 1) s1.heap.objs.size x t _ hty, ⟨⟨.none, he⟩, hit, Nat.succ_ne_self _⟩, fun b hb => ?_, q⟩
    have e' : b = s1.heap.objs.size + 1 ∨ b = s1.heap.objs.size := by simpa using hb
    have hle : s1.heap.objs.size ≤ b := by
      rcases e' with z | z
      · rw [z]; exact Nat.le_add_right _ _
      · rw [z]; exact Nat.le_refl _
    exact I1.fpOk hle (I1.hok.fresh hle)
theorem walk_enumS {x : Str} : Walk (Ius x) x.cps.size (fun _ => True) (fun i H v H' => ∃ T c, v = .ref T ∧ H T = none ∧ H' = upd H T (.tup [.int (i : Nat), .str ⟨#[c]⟩]) ∧ x.cps[i]? = some c) :=
  ⟨fun _ _ hi _ => hi, fun _ _ => rfl, fun _ _ _ _ _ _ y => y⟩
end Zc
set_option Elab.async false
set_option linter.all false
set_option autoImplicit false
set_option maxRecDepth 100000
set_option maxHeartbeats 4000000
namespace K12
open PySem PySem.Spec PyProof.Rows L2 Vb Wd Xd Xo SX Pc Zc
abbrev s_depth : Stmt := topS 40
theorem sc_depth : FnScope ["text", "depth", "deepest", "sign"] ["text"] (defScope s_depth) := ⟨rfl, rfl, rfl, by decide +kernel, rfl, by decide +kernel, by decide +kernel⟩
abbrev s_split_blanks : Stmt := topS 39
theorem sc_split_blanks : FnScope ["text", "texts", "depth", "begin", "at", "sign"] ["text"] (defScope s_split_blanks) := ⟨rfl, rfl, rfl, by decide +kernel, rfl, by decide +kernel, by decide +kernel⟩
abbrev s_split_text : Stmt := topS 38
theorem sc_split_text : FnScope ["text", "called", "_", "rest", "texts"] ["text"] (defScope s_split_text) := ⟨rfl, rfl, rfl, by decide +kernel, rfl, by decide +kernel, by decide +kernel⟩
theorem one_open (c : Nat) : ((⟨#[c]⟩ : Str) = ("(" : Str)) ↔ c = 40 := by
  have e : ("(" : Str) = ⟨#[40]⟩ := by decide +kernel
  rw [e]
  simp
theorem one_close (c : Nat) : ((⟨#[c]⟩ : Str) = (")" : Str)) ↔ c = 41 := by
  have e : (")" : Str) = ⟨#[41]⟩ := by decide +kernel
  rw [e]
  simp
theorem one_blank (c : Nat) : ((⟨#[c]⟩ : Str) = (" " : Str)) ↔ c = 32 := by
  have e : (" " : Str) = ⟨#[32]⟩ := by decide +kernel
  rw [e]
  simp
theorem openD (c : Nat) : decide (V.str ⟨#[c]⟩ = V.str "(") = decide (c = 40) := by
  exact decide_eq_decide.mpr (by rw [V.str.injEq]; exact one_open c)
theorem closeD (c : Nat) : decide (V.str ⟨#[c]⟩ = V.str ")") = decide (c = 41) := by
  exact decide_eq_decide.mpr (by rw [V.str.injEq]; exact one_close c)
theorem blankD (c : Nat) : decide (V.str ⟨#[c]⟩ = V.str " ") = decide (c = 32) := by
  exact decide_eq_decide.mpr (by rw [V.str.injEq]; exact one_blank c)
def spDepth : Sp := fun vs H Q _ => ∃ cs : List Nat, vs = [.str (S cs)] ∧ Q (.int (dep cs)) H
section
variable {P : Program} {w : World} {K : PySem.W.Frag} {mg : Str → Option Value} {base : Heap}
theorem ok_depth (D : Df K mg "_depth" s_depth ["text"]) (z_max : mg "max" = none) : Cg P w K mg base 1 "_depth" spDepth := by
  refine D.ok sc_depth (fun vs H Q E h => ?_) (fun cdv A outer s H vs Q E f0 hc hr h => ?_)
  · obtain ⟨cs, rfl, _⟩ := h
    rfl
  · obtain ⟨cs, rfl, q⟩ := h
    refine ⟨_, (pss_cons (ps_set (i := 1) sc_depth.nd rfl (Or.inl rfl) pe_int)
      (pss_cons (ps_set (i := 2) sc_depth.nd rfl (Or.inl rfl) pe_int)
      (pss_cons (ps_for PassesOwn.never rfl (pi_str (pv 0)) (pg_name (i := 3) sc_depth.nd rfl (Or.inl rfl))
      (pss_one (ps_if (pt_cmpR op_eq (pv 3) pe_str (nomark _))
      (pss_cons (ps_aug (i := 1) sc_depth.nd rfl (Or.inl rfl) pe_int ip_add)
      (pss_one (ps_set (i := 2) sc_depth.nd rfl (Or.inl rfl) (pe_callB (call_max2 rfl) (by rfl) z_max (by decide +kernel) (pa_cons (pv 2) (pa_cons (pv 1) pa_nil))))))
      (pss_one (ps_if (pt_cmpR op_eq (pv 3) pe_str (nomark _))
      (pss_one (ps_aug (i := 1) sc_depth.nd rfl (Or.inl rfl) pe_int ip_sub))
      pss_nil)))))
      (pss_one (ps_ret (pv 2)))))), ?_⟩
    refine ⟨_, rfl, S cs, rfl, for_it (walk_str (z := S cs)) (fun i σ H' => H' = H ∧ ∃ o3, σ = [some (.str (S cs)), some (.int ((cs.take i).foldl dstep (0, 0)).1), some (.int ((cs.take i).foldl dstep (0, 0)).2), o3])
      ⟨rfl, none, rfl⟩ (fun _ _ _ _ _ => trivial) (fun i x σ H' H2 hi h y => ?_) (fun σ H' h => ?_)⟩
    · obtain ⟨rfl, o3, rfl⟩ := h
      obtain ⟨rfl, c, hc', rfl⟩ := y
      have hc2 : cs[i]? = some c := by simpa using hc'
      have e : (cs.take (i + 1)).foldl dstep (0, 0) = dstep ((cs.take i).foldl dstep (0, 0)) c := by
        rw [List.take_add_one, hc2, List.foldl_append]
        rfl
      rw [e]
      generalize (cs.take i).foldl dstep (0, 0) = p
      obtain ⟨d, m⟩ := p
      refine ⟨_, rfl, rfl, _, rfl, ?_⟩
      rw [openD]
      by_cases h1 : c = 40
      · have e2 : dstep (d, m) c = (d + 1, max m (d + 1)) := by
          unfold dstep
          rw [if_pos h1]
        rw [decide_eq_true h1, e2]
        refine iteT ⟨.int d, rfl, d, 1, rfl, rfl, _, rfl, _, rfl, m, d + 1, rfl, ?_⟩
        have e3 : (if d + 1 > m then d + 1 else m) = max m (d + 1) := by
          split <;> omega
        rw [e3]
        exact ⟨rfl, some (.str ⟨#[c]⟩), rfl⟩
      · rw [decide_eq_false h1]
        refine iteF ⟨_, rfl, rfl, _, rfl, ?_⟩
        rw [closeD]
        by_cases h2 : c = 41
        · have e2 : dstep (d, m) c = (d - 1, m) := by
            unfold dstep
            rw [if_neg h1, if_pos h2]
          rw [decide_eq_true h2, e2]
          exact iteT ⟨.int d, rfl, d, 1, rfl, rfl, rfl, some (.str ⟨#[c]⟩), rfl⟩
        · rw [decide_eq_false h2, dstep_plain h1 h2]
          exact iteF ⟨rfl, some (.str ⟨#[c]⟩), rfl⟩
    · obtain ⟨rfl, o3, rfl⟩ := h
      refine ⟨_, rfl, ?_⟩
      have e : (S cs).cps.size = cs.length := by simp
      rw [e, List.take_of_length_le (Nat.le_refl _)]
      exact q
theorem cut_mid {cs : List Nat} {b i : Nat} (h2 : i ≤ cs.length) (h1 : b ≤ i) : cutS (S cs) (some (b : Int)) (some (i : Int)) = S ((cs.drop b).take (i - b)) := by
  unfold cutS
  have e : (S cs).length = cs.length := S_len cs
  rw [HT.sIx_nat, HT.sIx_nat, e, Nat.min_eq_left h2, Nat.min_eq_left (Nat.le_trans h1 h2)]
theorem cut_end {cs : List Nat} {b : Nat} (h1 : b ≤ cs.length) : cutS (S cs) (some (b : Int)) none = S (cs.drop b) := by
  unfold cutS
  have e : (S cs).length = cs.length := S_len cs
  rw [HT.sIx_nat, HT.sIx_none, e, Nat.min_eq_left h1]
  have e2 : (cs.drop b).take (cs.length - b) = cs.drop b := List.take_of_length_le (by rw [List.length_drop]; exact Nat.le_refl _)
  show S ((cs.drop b).take (cs.length - b)) = _
  rw [e2]
theorem take_word {cs : List Nat} {b i c : Nat} (hb : b ≤ i) (hc : cs[i]? = some c) : (cs.drop b).take (i + 1 - b) = (cs.drop b).take (i - b) ++ [c] := by
  have e : i + 1 - b = (i - b) + 1 := by omega
  rw [e, List.take_add_one, List.getElem?_drop]
  have e2 : b + (i - b) = i := by omega
  rw [e2, hc]
  rfl
theorem lt_no {d : Int} (h : ¬ d < 0) : V.bl (decide (d < 0)) = V.bl false := by rw [decide_eq_false h]
theorem lt_yes {d : Int} (h : d < 0) : V.bl (decide (d < 0)) = V.bl true := by rw [decide_eq_true h]
def txts (ts : List (List Nat)) : List V := ts.map fun t => V.str (S t)
theorem txts_snoc (ts : List (List Nat)) (w : List Nat) : txts (ts ++ [w]) = txts ts ++ [.str (S w)] := by simp [txts]
theorem txts_len (ts : List (List Nat)) : (txts ts).length = ts.length := by simp [txts]
def spBlanks : Sp := fun vs H Q _ => ∃ cs : List Nat, vs = [.str (S cs)] ∧ cs.length ≤ 5000 ∧ (spl cs 0 [] [] = none → ∀ H', Same H H' → Q .non H') ∧
  (∀ ts, spl cs 0 [] [] = some ts → ∀ l H', Same H H' → H l = none → H' l = some (.lst (txts ts)) → ts.length ≤ 5001 → Q (.ref l) H')
theorem ok_split_blanks (D : Df K mg "_split_blanks" s_split_blanks ["text"]) (z_enumerate : mg "enumerate" = none) : Cg P w K mg base 1 "_split_blanks" spBlanks := by
  refine D.ok sc_split_blanks (fun vs H Q E h => ?_) (fun cdv A outer s H vs Q E f0 hc hr h => ?_)
  · obtain ⟨cs, rfl, _⟩ := h
    rfl
  · obtain ⟨cs, rfl, hl, q1, q2⟩ := h
    refine ⟨_, (pss_cons (ps_set (i := 1) sc_split_blanks.nd rfl (Or.inl rfl) (pe_lst pa_nil))
      (pss_cons (ps_set (i := 2) sc_split_blanks.nd rfl (Or.inl rfl) pe_int)
      (pss_cons (ps_set (i := 3) sc_split_blanks.nd rfl (Or.inl rfl) pe_int)
      (pss_cons (ps_for PassesOwn.never rfl (pi_enumS (by rfl) z_enumerate (pa_cons (pv 0) pa_nil)) (pg_tup (by rfl) (pgs_cons (pg_name (i := 4) sc_split_blanks.nd rfl (Or.inl rfl)) (pgs_cons (pg_name (i := 5) sc_split_blanks.nd rfl (Or.inl rfl)) pgs_nil)))
      (pss_cons (ps_if (pt_cmpR op_eq (pv 5) pe_str (nomark _))
      (pss_one (ps_aug (i := 2) sc_split_blanks.nd rfl (Or.inl rfl) pe_int ip_add))
      (pss_one (ps_if (pt_cmpR op_eq (pv 5) pe_str (nomark _))
      (pss_one (ps_aug (i := 2) sc_split_blanks.nd rfl (Or.inl rfl) pe_int ip_sub))
      (pss_one (ps_if (PW.pt (pw_and (pt_cmpR op_eq (pv 5) pe_str (nomark _)) (pw_and1 (pt_cmpR op_eq (pv 2) pe_int (nomark _)))))
      (pss_cons (ps_expr (pe_bm PySem.F.plainAttrs_list PySem.F.slot_list_append PySem.F.type_list_append mt_append (pv 1) (pa_cons (pe_slice sl_str (pv 0) (po_some (pv 3)) (po_some (pv 4))) pa_nil)))
      (pss_one (ps_set (i := 3) sc_split_blanks.nd rfl (Or.inl rfl) (pe_op op_add (pv 4) pe_int))))
      pss_nil)))))
      (pss_one (ps_if (pt_cmpR op_lt (pv 2) pe_int (nomark _))
      (pss_one (ps_ret pe_non))
      pss_nil))))
      (pss_cons (ps_expr (pe_bm PySem.F.plainAttrs_list PySem.F.slot_list_append PySem.F.type_list_append mt_append (pv 1) (pa_cons (pe_slice sl_str (pv 0) (po_some (pv 3)) po_none) pa_nil)))
      (pss_one (ps_ret (pe_ifExp (pt_cmpR op_eq (pv 2) pe_int (nomark _)) (pv 1) pe_non)))))))), ?_⟩
    refine ⟨by show 0 ≤ sizeLine; decide, fun l nl => ?_⟩
    have szC : (S cs).cps.size = cs.length := by simp
    refine ⟨_, rfl, S cs, rfl, for_it (walk_enumS (x := S cs)) (fun i σ H' => ∃ (d : Int) (b : Nat) (ts : List (List Nat)) (o4 o5 : Option V), σ = [some (.str (S cs)), some (.ref l), some (.int d), some (.int b), o4, o5] ∧ 0 ≤ d ∧ b ≤ i ∧ ts.length ≤ i ∧ Same H H' ∧ H' l = some (.lst (txts ts)) ∧
        spl cs 0 [] [] = spl (cs.drop i) d ((cs.drop b).take (i - b)) ts)
      ⟨0, 0, [], none, none, rfl, Int.le_refl 0, Nat.le_refl 0, Nat.le_refl 0, same_new nl, upd_same, rfl⟩ (fun _ _ _ _ _ => trivial) (fun i x σ H1 H2 hi h y => ?_) (fun σ H' h => ?_)⟩
    · obtain ⟨d, b, ts, o4, o5, rfl, d0, bi, tl, s1, el, es⟩ := h
      obtain ⟨T, c, rfl, nT, rfl, hc'⟩ := y
      have hc2 : cs[i]? = some c := by simpa using hc'
      have il : i < cs.length := by rw [← szC]; exact hi
      have ed : cs.drop i = c :: cs.drop (i + 1) := by
        rw [List.drop_eq_getElem_cons il]
        have := List.getElem?_eq_getElem il
        rw [hc2] at this
        rw [← Option.some.inj this]
      rw [ed, spl] at es
      have sT : Same H1 (upd H1 T (.tup [.int (i : Nat), .str ⟨#[c]⟩])) := same_new nT
      have lT : l ≠ T := ne_of_none el nT
      refine ⟨T, _, rfl, .inl (.inl upd_same), rfl, _, _, rfl, _, _, rfl, rfl, ?_⟩
      have s2 := s1.trans sT
      have el2 : (upd H1 T (.tup [.int (i : Nat), .str ⟨#[c]⟩])) l = some (.lst (txts ts)) := by
        rw [upd_ne lT]
        exact el
      generalize upd H1 T (.tup [.int (i : Nat), .str ⟨#[c]⟩]) = H2 at s2 el2 ⊢
      have wd : (cs.drop b).take (i + 1 - b) = (cs.drop b).take (i - b) ++ [c] := take_word bi hc2
      refine ⟨_, rfl, rfl, _, rfl, ?_⟩
      rw [openD]
      by_cases h1 : c = 40
      · rw [decide_eq_true h1]
        rw [if_pos h1] at es
        exact iteT ⟨.int d, rfl, d, 1, rfl, rfl, _, rfl, _, _, rfl, rfl, false, lt_no (d := d + 1) (by omega), iteF ⟨d + 1, b, ts, _, _, rfl, by omega, by omega, by omega, s2, el2, by rw [es, wd]⟩⟩
      · rw [decide_eq_false h1]
        rw [if_neg h1] at es
        refine iteF ⟨_, rfl, rfl, _, rfl, ?_⟩
        rw [closeD]
        by_cases h2 : c = 41
        · rw [decide_eq_true h2]
          rw [if_pos h2] at es
          by_cases h3 : d - 1 < 0
          · rw [if_pos h3] at es
            exact iteT ⟨.int d, rfl, d, 1, rfl, rfl, _, rfl, _, _, rfl, rfl, true, lt_yes (d := d - 1) h3, iteT (q1 es _ s2)⟩
          · rw [if_neg h3] at es
            exact iteT ⟨.int d, rfl, d, 1, rfl, rfl, _, rfl, _, _, rfl, rfl, false, lt_no (d := d - 1) h3, iteF ⟨d - 1, b, ts, _, _, rfl, by omega, by omega, by omega, s2, el2, by rw [es, wd]⟩⟩
        · rw [decide_eq_false h2]
          rw [if_neg h2] at es
          refine iteF ⟨_, rfl, rfl, _, rfl, ?_⟩
          rw [blankD]
          by_cases h3 : c = 32
          · rw [decide_eq_true h3]
            refine iteT ?_
            by_cases h4 : d = 0
            · rw [if_pos ⟨h3, h4⟩] at es
              refine ⟨_, rfl, rfl, true, by rw [decide_eq_true (by rw [h4])], iteT ?_⟩
              have szl : (S cs).length ≤ sizeLine := by
                rw [S_len]
                exact Nat.le_trans hl (by decide)
              refine ⟨.ref l, rfl, .inl ⟨rfl, _, .inl (.inl el2)⟩, _, rfl, _, rfl, b, rfl, _, rfl, i, rfl, S cs, rfl, szl, l, _, _, rfl, rfl, el2, by rw [txts_len]; exact Nat.lt_of_le_of_lt (show ts.length ≤ 5000 by omega) (by decide), ?_⟩
              rw [cut_mid (by omega) bi, ← txts_snoc]
              refine ⟨_, rfl, _, _, rfl, rfl, ?_⟩
              exact ⟨_, rfl, _, _, rfl, rfl, false, lt_no (d := d) (by omega), iteF ⟨d, i + 1, _, _, _, rfl, d0, by omega, by rw [List.length_append]; simp; omega, same_put nl s2, upd_same, by rw [es]; simp⟩⟩
            · rw [if_neg fun z => h4 z.2] at es
              refine ⟨_, rfl, rfl, false, by rw [decide_eq_false (by intro z; exact h4 (V.int.inj z))], iteF ⟨_, rfl, _, _, rfl, rfl, false, lt_no (d := d) (by omega), iteF ⟨d, b, ts, _, _, rfl, by omega, by omega, by omega, s2, el2, by rw [es, wd]⟩⟩⟩
          · rw [if_neg fun z => h3 z.1] at es
            rw [decide_eq_false h3]
            exact iteF (iteF ⟨_, rfl, _, _, rfl, rfl, false, lt_no (d := d) (by omega), iteF ⟨d, b, ts, _, _, rfl, by omega, by omega, by omega, s2, el2, by rw [es, wd]⟩⟩)
    · obtain ⟨d, b, ts, o4, o5, rfl, d0, bi, tl, s1, el, es⟩ := h
      rw [szC] at bi tl es
      rw [List.drop_of_length_le (Nat.le_refl _), spl] at es
      have szl : (S cs).length ≤ sizeLine := by
        rw [S_len]
        exact Nat.le_trans hl (by decide)
      refine ⟨.ref l, rfl, .inl ⟨rfl, _, .inl (.inl el)⟩, _, rfl, _, rfl, b, rfl, S cs, rfl, szl, l, _, _, rfl, rfl, el, by rw [txts_len]; exact Nat.lt_of_le_of_lt (show ts.length ≤ 5000 by omega) (by decide), ?_⟩
      rw [cut_end bi, ← txts_snoc]
      have ew : (cs.drop b).take (cs.length - b) = cs.drop b := List.take_of_length_le (by rw [List.length_drop]; exact Nat.le_refl _)
      rw [ew] at es
      by_cases h4 : d = 0
      · rw [if_pos h4] at es
        exact ⟨_, rfl, rfl, true, by rw [decide_eq_true (by rw [h4])], iteT ⟨_, rfl, q2 _ es l _ (same_put nl s1) nl upd_same (by rw [List.length_append]; simp; omega)⟩⟩
      · rw [if_neg h4] at es
        exact ⟨_, rfl, rfl, false, by rw [decide_eq_false (by intro z; exact h4 (V.int.inj z))], iteF (q1 es _ (same_put nl s1))⟩
end
end K12
set_option Elab.async false
set_option linter.all false
set_option autoImplicit false
set_option maxRecDepth 100000
set_option maxHeartbeats 4000000
namespace K12
open PySem PySem.Spec PyProof.Rows L2 Vb Wd Xd Xo Xi Xm Xr
abbrev s_len : Stmt := inB (topS 24) 5
theorem sc_len : FnScope ["self"] ["self"] (defScope s_len) := ⟨rfl, rfl, rfl, by decide +kernel, rfl, by decide +kernel, by decide +kernel⟩
abbrev s_getitem : Stmt := inB (topS 24) 7
theorem sc_getitem : FnScope ["self", "index"] ["self", "index"] (defScope s_getitem) := ⟨rfl, rfl, rfl, by decide +kernel, rfl, by decide +kernel, by decide +kernel⟩
def spLenF (C : Addr) : Sp := fun vs H Q _ => ∃ (a ch : Addr) (n so : Str) (ts : List Addr) (cs : List (Str × Int)), vs = [.ref a] ∧ FormAt H C a ch n so ts cs ∧ Q (.int ts.length) H
def isIdx (v : V) (n : Int) : Bool := match v with
  | .int i => (isInt v && notNeg v) && decide (i < n)
  | _ => false
/-- form[i]: the child, or InvalidNumber(i) -/
def spItem (C CN : Addr) : Sp := fun vs H Q E => ∃ (a ch : Addr) (n so : Str) (ts : List Addr) (cs : List (Str × Int)) (v : V), vs = [.ref a, v] ∧ FormAt H C a ch n so ts cs ∧ Judged H v ∧
  (isIdx v ts.length = true → ∀ (i : Nat) (t : Addr), v = .int i → ts[i]? = some t → ∀ H', Same H H' → Q (.ref t) H') ∧
  (isIdx v ts.length = false → ∀ H' d, Same H H' → H' d = none → E (.ref CN) (some d) (upd H' d (.xd [("value", v)])))
section
variable {P : Program} {w : World} {K : PySem.W.Frag} {mg : Str → Option Value} {base : Heap} {C CN : Addr}
theorem ok_len {f : Addr} {fd : FuncData} (F : Fun K "__len__" "Form.__len__" s_len f fd) (T : FormC K C) (z_len : mg "len" = none) : FnG P w K mg base 1 f fd ["self"] (spLenF C) := by
  refine goes_by F sc_len (fun vs H Q E h => ?_) (fun cdv A outer s H vs Q E hc hr h => ?_)
  · obtain ⟨a, ch, n, so, ts, cs, rfl, _⟩ := h
    rfl
  · obtain ⟨a, ch, n, so, ts, cs, rfl, ⟨⟨dx, ha⟩, k⟩, q⟩ := h
    refine ⟨_, pss_one (ps_ret (pe_callB call_len_seq (by rfl) z_len PySem.boot_len (pa_cons (pe_fld (f := "_children") (pv 0) (by rfl)) pa_nil))), ?_⟩
    refine ⟨_, rfl, a, C, dx, _, .ref ch, rfl, ha, T.c, T.n3, by rfl, ch, _, rfl, .inr (.inl (.inl k.at_)), ?_⟩
    rw [List.length_map]
    exact q
theorem ok_getitem {f fI : Addr} {fd fdI : FuncData} {psI : List Str} (F : Fun K "__getitem__" "Form.__getitem__" s_getitem f fd) (T : FormC K C) (TI : EI K CN fI) (no : PySem.W.findIn K (.ref CN) "value" = some none) (FI : FnG P w K mg base 1 fI fdI psI (spSet K CN fI "value")) (bI : Binds K fdI psI []) (gN : mg "InvalidNumber" = some (.ref CN))
    (G_is_index : Cg P w K mg base 3 "is_index" (fun vs H Q _ => ∃ (v : V) (n : Int), vs = [v, .int n] ∧ Judged H v ∧ ∀ H', Same H H' → Q (.bl (isIdx v n)) H')) (z_len : mg "len" = none) : FnE P w K mg base 4 f fd ["self", "index"] (spItem C CN) := by
  refine goes_exc F sc_getitem (fun vs H Q E h => ?_) (fun cdv A outer s H vs Q E hc hr tk h => ?_)
  · obtain ⟨a, ch, n, so, ts, cs, v, rfl, _⟩ := h
    rfl
  · obtain ⟨a, ch, n, so, ts, cs, v, rfl, ⟨⟨dx, ha⟩, k⟩, j, q1, q2⟩ := h
    refine ⟨_, (pss_cons (ps_if (pt_not (pt_val (pe_cg G_is_index hc hr (by rfl) (pa_cons (pv 1) (pa_cons (pe_callB call_len_seq (by rfl) z_len PySem.boot_len (pa_cons (pe_fld (f := "_children") (pv 0) (by rfl)) pa_nil)) pa_nil)))))
        (pss_one (ps_raise (by rfl) tk (pmk_E (f := "value") TI no FI hc (hr.mono (by decide)) bI (by rfl) gN (pa_cons (pv 1) pa_nil)))) pss_nil)
      (pss_one (ps_ret (pe_ix (ix_tup : IxR _ (rIxT K)) (pe_fld (f := "_children") (pv 0) (by rfl)) (pv 1) (fun _ _ => rfl))))), ?_⟩
    refine ⟨_, rfl, _, rfl, a, C, dx, _, .ref ch, rfl, ha, T.c, T.n3, by rfl, ch, _, rfl, .inr (.inl (.inl k.at_)), v, _, rfl, j, fun H1 s1 => ⟨_, rfl, ?_⟩⟩
    rw [List.length_map]
    cases e : isIdx v ts.length with
    | false => exact iteT ⟨_, rfl, v, rfl, fun d nd => q2 e H1 d s1 nd⟩
    | true =>
      cases v with
      | int i =>
        have e' : ((isInt (.int i) && notNeg (.int i)) && decide (i < (ts.length : Int))) = true := e
        simp only [Bool.and_eq_true] at e'
        obtain ⟨⟨_, i0⟩, i1⟩ := e'
        have j0 : 0 ≤ i := of_decide_eq_true i0
        have j1 : i < (ts.length : Int) := of_decide_eq_true i1
        have lt : i.toNat < ts.length := by omega
        have eq : i = ((i.toNat : Nat) : Int) := by omega
        have get := List.getElem?_eq_getElem lt
        have at_ : atI (ts.map V.ref) i = some (.ref ts[i.toNat]) := at_of (j := i.toNat) eq (by rw [List.getElem?_map, get]; rfl)
        exact iteF ⟨_, rfl, a, C, dx, _, .ref ch, rfl, s1 _ _ ha, T.c, T.n3, by rfl, _, rfl, ch, _, _, _, rfl, rfl, .inl (.inl (s1 _ _ k.at_)), at_, q1 e i.toNat ts[i.toNat] (congrArg V.int eq) get H1 s1⟩
      | _ => cases e
end
end K12
set_option Elab.async false
set_option linter.all false
set_option autoImplicit false
set_option maxRecDepth 100000
set_option maxHeartbeats 4000000
/-! Gd: expressions that yield data: none, bools, ints, texts, lists, tuples of such. -/
namespace Gd
open PySem PySem.Spec PyProof.Rows L2 Vb Wd
variable {K : PySem.W.Frag}
theorem seqL_same {H H' : Hp} {a : Addr} {xs : List V} (s : Same H H') (h : SqL K H a xs) : SqL K H' a xs := s.seq h
theorem seqT_same {H H' : Hp} {a : Addr} {xs : List V} (s : Same H H') (h : SqT K H a xs) : SqT K H' a xs := by
  rcases h with (h | h) | h
  · exact .inl (.inl (s _ _ h))
  · obtain ⟨o, e⟩ := h
    exact .inl (.inr ⟨o, s _ _ e⟩)
  · exact .inr h
mutual
theorem Dp.same {H H' : Hp} (s : Same H H') : ∀ (d : PyData) (v : V), Dp K H v d → Dp K H' v d
  | .none, _, h => by cases h; exact .non
  | .bool b, _, h => by cases h; exact .bl b
  | .int i, _, h => by cases h; exact .int i
  | .str x, _, h => by cases h; exact .str x
  | .list ds, _, h => by
    cases h with
    | lst a b => exact .lst (seqL_same s a) (Dp.sameAll s ds _ b)
  | .tuple ds, _, h => by
    cases h with
    | tup a b => exact .tup (seqT_same s a) (Dp.sameAll s ds _ b)
  | .dict kvs, _, h => by cases h
theorem Dp.sameAll {H H' : Hp} (s : Same H H') : ∀ (ds : List PyData) (vs : List V), DpAll K H vs ds → DpAll K H' vs ds
  | [], _, h => by cases h; exact .nil
  | d :: ds, _, h => by
    cases h with
    | cons a b => exact .cons (Dp.same s d _ a) (Dp.sameAll s ds _ b)
end
theorem dpAll_app {H : Hp} : ∀ {xs : List V} {ds : List PyData} {ys : List V} {es : List PyData}, DpAll K H xs ds → DpAll K H ys es → DpAll K H (xs ++ ys) (ds ++ es)
  | _, _, _, _, .nil, b => b
  | _, _, _, _, .cons a r, b => .cons a (dpAll_app r b)
theorem dpAll_len {H : Hp} : ∀ {xs : List V} {ds : List PyData}, DpAll K H xs ds → xs.length = ds.length
  | _, _, .nil => rfl
  | _, _, .cons _ r => by rw [List.length_cons, List.length_cons, dpAll_len r]
theorem dpAll_strs {H : Hp} : ∀ l : List Str, DpAll K H (l.map V.str) (l.map PyData.str)
  | [] => .nil
  | y :: l => .cons (.str y) (dpAll_strs l)
/-- the expression yields data that reads d, now and later; all that is tracked stays -/
def GivesD (K : PySem.W.Frag) (t : TE) (σ : L2.St) (H : Hp) (d : PyData) : Prop := ∀ H1 Q, Same H H1 → (∀ v H', Same H1 H' → Dp K H' v d → Q v H') → t σ H1 Q
/-- .. a new list -/
def GivesN (K : PySem.W.Frag) (t : TE) (σ : L2.St) (H : Hp) (ds : List PyData) : Prop := ∀ H1 Q, Same H H1 → (∀ p Hb xs, Same H1 Hb → Hb p = none → DpAll K Hb xs ds → Q (.ref p) (upd Hb p (.lst xs))) → t σ H1 Q
/-- .. several values -/
def GivesA (K : PySem.W.Frag) (t : TA) (σ : L2.St) (H : Hp) (ds : List PyData) : Prop := ∀ H1 Q, Same H H1 → (∀ vs H', Same H1 H' → DpAll K H' vs ds → Q vs H') → t σ H1 Q
section
variable {σ : L2.St} {H : Hp}
theorem GivesD.mono {t : TE} {d : PyData} {H0 : Hp} (g : GivesD K t σ H0 d) (s : Same H0 H) : GivesD K t σ H d := fun H1 Q s1 k => g H1 Q (s.trans s1) k
theorem gd_nil : GivesA K tNil σ H [] := fun H1 Q s k => k [] H1 (Same.refl _) .nil
theorem gd_cons {t : TE} {ts : TA} {d : PyData} {ds : List PyData} (a : GivesD K t σ H d) (b : GivesA K ts σ H ds) : GivesA K (tCons t ts) σ H (d :: ds) := fun H1 Q s k =>
  a H1 _ s fun v H2 s2 h2 => b H2 _ (s.trans s2) fun vs H3 s3 h3 => k (v :: vs) H3 (s2.trans s3) (.cons (Dp.same s3 d v h2) h3)
theorem gd_str {x : Str} : GivesD K (tC (.str x)) σ H (.str x) := fun H1 Q s k => k _ H1 (Same.refl _) (.str x)
theorem gd_int {i : Int} : GivesD K (tC (.int i)) σ H (.int i) := fun H1 Q s k => k _ H1 (Same.refl _) (.int i)
theorem gd_non : GivesD K (tC .non) σ H .none := fun H1 Q s k => k _ H1 (Same.refl _) .non
theorem gd_bl {b : Bool} : GivesD K (tC (.bl b)) σ H (.bool b) := fun H1 Q s k => k _ H1 (Same.refl _) (.bl b)
theorem gd_var {i : Nat} {v : V} {d : PyData} (h : σ[i]? = some (some v)) (r : Dp K H v d) : GivesD K (tVar i) σ H d := fun H1 Q s k => ⟨v, h, k v H1 (Same.refl _) (Dp.same s d v r)⟩
theorem gd_lst {t : TA} {ds : List PyData} (g : GivesA K t σ H ds) (few : ds.length ≤ sizeLine) : GivesN K (tLst t) σ H ds := fun H1 Q s k =>
  g H1 _ s fun vs H2 s2 h2 => ⟨by rw [dpAll_len h2]; exact few, fun p np => k p H2 vs s2 np h2⟩
theorem gd_tup {t : TA} {ds : List PyData} (g : GivesA K t σ H ds) (few : ds.length ≤ sizeLine) : GivesD K (tTup t) σ H (.tuple ds) := fun H1 Q s k =>
  g H1 _ s fun vs H2 s2 h2 => ⟨by rw [dpAll_len h2]; exact few, fun p np => k (.ref p) _ (s2.trans (same_new np)) (.tup (.inl (.inl upd_same)) (Dp.sameAll (same_new np) ds vs h2))⟩
theorem GivesN.data {t : TE} {ds : List PyData} (g : GivesN K t σ H ds) : GivesD K t σ H (.list ds) := fun H1 Q s k =>
  g H1 _ s fun p Hb xs s2 np h => k (.ref p) _ (s2.trans (same_new np)) (.lst (.inl (.inl upd_same)) (Dp.sameAll (same_new np) ds xs h))
theorem gd_cat {t u : TE} {ds es : List PyData} (a : GivesN K t σ H ds) (b : GivesN K u σ H es) (few : ds.length + es.length ≤ sizeLine) : GivesN K (tOp rCat t u) σ H (ds ++ es) := fun H1 Q s k =>
  a H1 _ s fun p Hb xs s2 np h => b _ _ (s.trans (s2.trans (same_new np))) fun q Hc ys s3 nq h' => by
    have sq := same_new (o := .lst ys) nq
    have sp := same_new (o := .lst xs) np
    refine ⟨p, q, xs, ys, rfl, rfl, sq _ _ (s3 _ _ upd_same), upd_same, by rw [dpAll_len h, dpAll_len h']; exact few, fun r nr => k r _ _ (((s2.trans sp).trans s3).trans sq) nr (dpAll_app (Dp.sameAll ((sp.trans s3).trans sq) ds xs h) (Dp.sameAll sq es ys h'))⟩
theorem gd_catV {i : Nat} {p : Addr} {xs : List V} {u : TE} {ds es : List PyData} (h : σ[i]? = some (some (.ref p))) (e : H p = some (.lst xs)) (r : DpAll K H xs ds) (b : GivesN K u σ H es) (few : ds.length + es.length ≤ sizeLine) : GivesN K (tOp rCat (tVar i) u) σ H (ds ++ es) := fun H1 Q s k =>
  ⟨.ref p, h, b _ _ s fun q Hc ys s3 nq h' => by
    have sq := same_new (o := .lst ys) nq
    exact ⟨p, q, xs, ys, rfl, rfl, sq _ _ (s3 _ _ (s _ _ e)), upd_same, by rw [dpAll_len r, dpAll_len h']; exact few, fun z nz => k z _ _ (s3.trans sq) nz (dpAll_app (Dp.sameAll ((s.trans s3).trans sq) ds xs r) (Dp.sameAll sq es ys h'))⟩⟩
theorem asg_new {te : TE} {g : TG} {rest : TS} {D : Ends} {ds : List PyData} (G : GivesN K te σ H ds) (k : ∀ p Hb xs, Same H Hb → Hb p = none → DpAll K Hb xs ds → g (.ref p) σ (upd Hb p (.lst xs)) (fun σ2 H2 => rest D σ2 H2)) : tSeq (tAsg te g) rest D σ H := G H _ (Same.refl _) k
theorem ret_new {te : TE} {D : Ends} {ds : List PyData} (G : GivesN K te σ H ds) (k : ∀ p Hb xs, Same H Hb → Hb p = none → DpAll K Hb xs ds → D.rt (.ref p) (upd Hb p (.lst xs))) : tRet te D σ H := G H _ (Same.refl _) k
theorem ret_data {te : TE} {D : Ends} {d : PyData} (G : GivesD K te σ H d) (k : ∀ v H', Same H H' → Dp K H' v d → D.rt v H') : tRet te D σ H := G H _ (Same.refl _) k
end
end Gd
set_option Elab.async false
set_option linter.all false
set_option autoImplicit false
set_option maxRecDepth 100000
set_option maxHeartbeats 4000000
namespace K12
open Gd PySem PySem.Spec PyProof.Rows L2 Vb Wd Xd Xo
abbrev s_eq : Stmt := inB (topS 24) 8
theorem sc_eq : FnScope ["self", "other"] ["self", "other"] (defScope s_eq) := ⟨rfl, rfl, rfl, by decide +kernel, rfl, by decide +kernel, by decide +kernel⟩
def kidD (c : Str × Int) : PyData := .tuple [.str c.1, .int c.2]
theorem Kids.dpAll {K : PySem.W.Frag} {H : Hp} : ∀ (ts : List Addr) (cs : List (Str × Int)), ts.length = cs.length → (∀ (i : Nat) (t : Addr) (c : Str × Int), ts[i]? = some t → cs[i]? = some c → Kid H t c.1 c.2) → DpAll K H (ts.map V.ref) (cs.map kidD)
  | [], [], _, _ => .nil
  | t :: ts, c :: cs, l, h => .cons (.tup (.inl (.inl (h 0 t c rfl rfl).at_)) (.cons (.str _) (.cons (.int _) .nil))) (Kids.dpAll ts cs (by simpa using l) fun i t' c' h1 h2 => h (i + 1) t' c' h1 h2)
theorem Kids.dp {K : PySem.W.Frag} {H : Hp} {a : Addr} {ts : List Addr} {cs : List (Str × Int)} (k : Kids H a ts cs) : Dp K H (.ref a) (.tuple (cs.map kidD)) := .tup (.inl (.inl k.at_)) (Kids.dpAll ts cs k.len k.kid)
theorem eqv_kids : ∀ cs ds : List (Str × Int), PyData.eqvAll (cs.map kidD) (ds.map kidD) = decide (cs = ds)
  | [], [] => rfl
  | [], d :: ds => by simp [PyData.eqvAll]
  | c :: cs, [] => by simp [PyData.eqvAll]
  | (n, s) :: cs, (m, t) :: ds => by
    show (PyData.eqv (.tuple [.str n, .int s]) (.tuple [.str m, .int t]) && PyData.eqvAll (cs.map kidD) (ds.map kidD)) = _
    rw [eqv_kids cs ds]
    by_cases e1 : n = m <;> by_cases e2 : s = t <;> by_cases e3 : cs = ds <;> simp [PyData.eqv, PyData.eqvAll, e1, e2, e3]
theorem kids_shaped {H : Hp} {a : Addr} {ts : List Addr} {cs : List (Str × Int)} (k : Kids H a ts cs) : SeqAt.shaped (.tuple (cs.map kidD)) = true := by
  have all : ∀ c ∈ cs, Asc c.1 := fun c hc => by
    obtain ⟨i, hi, e⟩ := List.mem_iff_getElem.mp hc
    have ti : i < ts.length := by rw [k.len]; exact hi
    exact (k.kid i ts[i] c (List.getElem?_eq_getElem ti) (by rw [List.getElem?_eq_getElem hi, e])).plain.2
  have go : ∀ l : List (Str × Int), (∀ c ∈ l, Asc c.1) → PyData.canLayAll0 (l.map kidD) = true ∧ PyData.depthAll (l.map kidD) ≤ 1 := fun l => by
    induction l with
    | nil => exact fun _ => ⟨rfl, Nat.zero_le _⟩
    | cons c l ih =>
      intro h
      obtain ⟨h1, h2⟩ := ih fun z hz => h z (List.mem_cons_of_mem _ hz)
      constructor
      · show (PyData.canLay0 (kidD c) && PyData.canLayAll0 (l.map kidD)) = true
        rw [h1, Bool.and_true]
        show (PyData.canLay0 (.str c.1) && (true && true)) = true
        rw [show PyData.canLay0 (.str c.1) = true from by
          show c.1.cps.all (· < 0x110000) = true
          rw [← Array.all_toList, List.all_eq_true]
          exact fun x hx => decide_eq_true (Nat.lt_trans (h c List.mem_cons_self x hx) (by decide))]
        rfl
      · show max (PyData.depth (kidD c)) (PyData.depthAll (l.map kidD)) ≤ 1
        have e : PyData.depth (kidD c) = 1 := rfl
        omega
  obtain ⟨h1, h2⟩ := go cs all
  show (PyData.canLay0 (.tuple (cs.map kidD)) && decide (PyData.depth (.tuple (cs.map kidD)) ≤ 64)) = true
  rw [show PyData.canLay0 (.tuple (cs.map kidD)) = true from h1, Bool.true_and]
  exact decide_eq_true (by show PyData.depthAll _ + 1 ≤ 64; omega)
/-- what of the class isinstance asks -/
structure FormI (K : PySem.W.Frag) (C : Addr) : Prop where
  ca : PySem.W.findIn K (.ref C) "__class__" = some (some (.builtin "object.__class__"))
  sp : PySem.W.specialIn K (.builtin "object.__class__") "__get__" = some (some (.builtin "getset_descriptor.__get__"))
  tk : PySem.W.takesIn K (.builtin "object.__class__") = some true
  mo : PySem.W.mroIn K C (.type "object") = some true
  yes : PySem.W.kitOne K (.ref C) (.ref C) = some true
  no : ∀ t ∈ ["str", "tuple", "list", "NoneType"], PySem.W.kitOne K (.type t) (.ref C) = some false
/-- the properties -/
structure FormP (P : Program) (w : World) (K : PySem.W.Frag) (mg : Str → Option Value) (base : Heap) (C : Addr) : Prop where
  get : ∀ x ∈ [(("called" : Str), ("_called" : Str)), ("sort_name", "_sort_name"), ("children", "_children")], ∃ (p g : Addr) (fd : FuncData), PropOf K C x.1 p g ∧ FnG P w K mg base 1 g fd ["self"] (spGet C x.2) ∧ Binds K fd ["self"] []
/-- self == other -/
def spEq (K : PySem.W.Frag) (C : Addr) : Sp := fun vs H Q _ => ∃ (a ch : Addr) (n so : Str) (ts : List Addr) (cs : List (Str × Int)) (v : V), vs = [.ref a, v] ∧ FormAt H C a ch n so ts cs ∧
  ((∃ t, t ∈ ["str", "tuple", "list", "NoneType"] ∧ TyX K H v (.type t) ∧ Q (.bl false) H) ∨
    ∃ (b ch' : Addr) (n' so' : Str) (ts' : List Addr) (cs' : List (Str × Int)), v = .ref b ∧ FormAt H C b ch' n' so' ts' cs' ∧ Q (.bl (decide (n = n') && (decide (so = so') && decide (cs = cs')))) H)
section
variable {P : Program} {w : World} {K : PySem.W.Frag} {mg : Str → Option Value} {base : Heap} {C : Addr}
theorem ok_eq {f : Addr} {fd : FuncData} (F : Fun K "__eq__" "Form.__eq__" s_eq f fd) (T : FormC K C) (TI : FormI K C) (TP : FormP P w K mg base C) (gF : mg "Form" = some (.ref C)) (z_isinstance : mg "isinstance" = none) : FnG P w K mg base 3 f fd ["self", "other"] (spEq K C) := by
  obtain ⟨p1, g1, fd1, o1, G1, b1⟩ := TP.get _ (List.mem_cons_self)
  obtain ⟨p2, g2, fd2, o2, G2, b2⟩ := TP.get ("sort_name", "_sort_name") (by simp)
  obtain ⟨p3, g3, fd3, o3, G3, b3⟩ := TP.get ("children", "_children") (by simp)
  refine goes_by F sc_eq (fun vs H Q E h => ?_) (fun cdv A outer s H vs Q E hc hr h => ?_)
  · obtain ⟨a, ch, n, so, ts, cs, v, rfl, _⟩ := h
    rfl
  · obtain ⟨a, ch, n, so, ts, cs, v, rfl, ⟨⟨dx, ha⟩, k⟩, q⟩ := h
    refine ⟨_, pss_one (ps_ret (pe_and (pe_callB call_isi (by rfl) z_isinstance (by decide +kernel) (pa_cons (pv 1) (pa_cons (pe_glob (v := .ref C) (by rfl) gF rfl) pa_nil)))
      (pe_and (pe_cmpR op_eq (pe_propG (n := "called") (pv 0) T.c o1 G1 hc hr b1) (pe_propG (n := "called") (pv 1) T.c o1 G1 hc hr b1) (nomark _))
      (pe_and (pe_cmpR op_eq (pe_propG (n := "sort_name") (pv 0) T.c o2 G2 hc hr b2) (pe_propG (n := "sort_name") (pv 1) T.c o2 G2 hc hr b2) (nomark _))
      (pe_one (pe_cmpR (op_eqD hr.units) (pe_propG (n := "children") (pv 0) T.c o3 G3 hc hr b3) (pe_propG (n := "children") (pv 1) T.c o3 G3 hc hr b3) (nomark _))))))), ?_⟩
    have le1 : ∀ {x y : Str}, decide (V.str x = V.str y) = decide (x = y) := fun {x y} => by
      by_cases e : x = y
      · rw [e, decide_eq_true rfl, decide_eq_true rfl]
      · rw [decide_eq_false e, decide_eq_false fun z => e (V.str.inj z)]
    rcases q with ⟨t, ht, ty, q⟩ | ⟨b, ch', n', so', ts', cs', rfl, ⟨⟨dx', hb⟩, k'⟩, q⟩
    · exact ⟨_, rfl, _, _, _, _, false, rfl, .own C, ty, TI.no t ht, _, rfl, iteF q⟩
    · refine ⟨_, rfl, _, _, _, _, true, rfl, .own C, .base (.ins hb T.c TI.ca TI.sp TI.tk TI.mo), TI.yes, _, rfl, iteT ?_⟩
      refine ⟨_, rfl, a, dx, _, rfl, ha, a, ch, dx, n, so, .str n, rfl, ha, by rfl, _, rfl, b, dx', _, rfl, hb, b, ch', dx', n', so', .str n', rfl, hb, by rfl, rfl, _, rfl, ?_⟩
      rw [le1]
      cases e1 : decide (n = n') with
      | false =>
        rw [e1, Bool.false_and] at q
        exact iteF q
      | true =>
        rw [e1, Bool.true_and] at q
        refine iteT ⟨_, rfl, a, dx, _, rfl, ha, a, ch, dx, n, so, .str so, rfl, ha, by rfl, _, rfl, b, dx', _, rfl, hb, b, ch', dx', n', so', .str so', rfl, hb, by rfl, rfl, _, rfl, ?_⟩
        rw [le1]
        cases e2 : decide (so = so') with
        | false =>
          rw [e2, Bool.false_and] at q
          exact iteF q
        | true =>
          rw [e2, Bool.true_and] at q
          refine iteT ⟨_, rfl, a, dx, _, rfl, ha, a, ch, dx, n, so, .ref ch, rfl, ha, by rfl, _, rfl, b, dx', _, rfl, hb, b, ch', dx', n', so', .ref ch', rfl, hb, by rfl, _, _, k.dp, k'.dp, kids_shaped k, kids_shaped k', ?_⟩
          have e3 : PyData.eqv (.tuple (cs.map kidD)) (.tuple (cs'.map kidD)) = decide (cs = cs') := by rw [← eqv_kids]; simp [PyData.eqv]
          rw [e3]
          exact q
end
end K12
set_option Elab.async false
set_option linter.all false
set_option autoImplicit false
set_option maxRecDepth 100000
set_option maxHeartbeats 4000000
namespace K12
open PySem PySem.Spec PyProof.Rows L2 Vb Wd
def rTup (K : PySem.W.Frag) : List V → Hp → VK → Prop := fun xs H Q => ∃ p ys, xs = [.ref p] ∧ ((SqL K H p ys ∧ ∀ l, H l = none → Q (.ref l) (upd H l (.tup ys))) ∨ (SqT K H p ys ∧ Q (.ref p) H))
theorem cr_tuple {X : Cx} : CallR X (.type "tuple") (rTup X.K) := call_tuple_of
end K12
set_option Elab.async false
set_option linter.all false
set_option autoImplicit false
set_option maxRecDepth 100000
set_option maxHeartbeats 4000000
namespace K12
open PySem PySem.Spec PyProof.Rows L2 Vb Wd
theorem nam_len {z : Str} (h : isNam (.str z) = true) : 1 ≤ z.length ∧ z.length ≤ 8 ∧ z.cps.toList.all low = true := by
  rw [isNam_str] at h
  simp only [Bool.and_eq_true, decide_eq_true_eq] at h
  exact ⟨h.1.1, h.1.2, h.2⟩
end K12
set_option Elab.async false
set_option linter.all false
set_option autoImplicit false
set_option maxRecDepth 100000
set_option maxHeartbeats 4000000
namespace K12
open PySem PySem.Spec PyProof.Rows L2 Vb Wd Xd Xo SX Pc Zc
abbrev s_top_of : Stmt := topS 41
theorem sc_top_of : FnScope ["text", "top"] ["text"] (defScope s_top_of) := ⟨rfl, rfl, rfl, by decide +kernel, rfl, by decide +kernel, by decide +kernel⟩
theorem low_iff (c : Nat) : low c = true ↔ 97 ≤ c ∧ c ≤ 122 := by
  unfold low
  simp
theorem word_nam {n : List Nat} (h : word n) : isNam (.str (S n)) = true := by
  rw [isNam_str, S_len]
  simp only [Bool.and_eq_true, decide_eq_true_eq]
  exact ⟨⟨h.1, h.2.1⟩, List.all_eq_true.mpr fun c hc => (low_iff c).mpr (h.2.2 c hc)⟩
theorem nam_word {n : List Nat} (h : isNam (.str (S n)) = true) : word n := by
  obtain ⟨a, b, c⟩ := nam_len h
  rw [S_len] at a b
  exact ⟨a, b, fun x hx => (low_iff x).mp (List.all_eq_true.mp c x hx)⟩
theorem word_asc {n : List Nat} (h : word n) : (S n).length ≤ 1000 ∧ Asc (S n) :=
  ⟨by rw [S_len]; have := h.2.1; omega, fun c hc => by have := h.2.2 c hc; omega⟩
theorem open_S : ("(" : Str) = S [40] := by decide +kernel
theorem close_S : (")" : Str) = S [41] := by decide +kernel
theorem ends_close (a : List Nat) : Txt.endswith (S (a ++ [41])) ")" = true := by
  rw [close_S]
  unfold Txt.endswith
  rw [Bool.and_eq_true, decide_eq_true_eq]
  have l1 : (S [41]).length = 1 := rfl
  have l2 : (S (a ++ [41])).length = a.length + 1 := by rw [S_len]; simp
  rw [l1, l2]
  refine ⟨by omega, ?_⟩
  refine ((StrLaws.subAt_one _ 41 _).mpr ?_).2
  show (a ++ [41])[a.length + 1 - 1]? = some 41
  simp
theorem part_node {n ps} (w : word n) : Txt.partition (S (Pic.node n ps).cs) ("(" : Str) = (S n, ("(" : Str), S (csJ ps ++ [41])) := by
  rw [open_S]
  refine partition_some (by simp) ?_
  have := par_head (c := 40) (sep := []) (p := n) (csJ ps ++ [41]) (fun h => by have := w.2.2 40 h; omega)
  exact this
theorem but_close (a : List Nat) : cutS (S (a ++ [41])) none (some (-1)) = S a := by
  rw [C8.cutS_slice]
  exact butlast_snoc a 41
def spSplit : Sp := fun vs H Q _ => ∃ (n : List Nat) (ps : List Pic), vs = [.str (S (Pic.node n ps).cs)] ∧ (Pic.node n ps).Ok ∧ (Pic.node n ps).cs.length ≤ 5000 ∧
  ∀ t l H', Same H H' → H' t = some (.tup [.str (S n), .ref l]) → H' l = some (.lst (txts (ps.map Pic.cs))) → Q (.ref t) H'
def calledV : Pic → V
  | .hole => .non
  | .node n _ => .str (S n)
def spTop : Sp := fun vs H Q _ => ∃ p : Pic, vs = [.str (S p.cs)] ∧ p.Ok ∧ p.cs.length ≤ 5000 ∧
  ∀ t l H', Same H H' → H' t = some (.tup [calledV p, .ref l]) → H' l = some (.lst (txts (p.parts.map Pic.cs))) → Q (.ref t) H'
section
variable {P : Program} {w : World} {K : PySem.W.Frag} {mg : Str → Option Value} {base : Heap}
theorem ok_split_text (D : Df K mg "split_text" s_split_text ["text"]) (G_split_blanks : Cg P w K mg base 1 "_split_blanks" spBlanks) : Cg P w K mg base 2 "split_text" spSplit := by
  refine D.ok sc_split_text (fun vs H Q E h => ?_) (fun cdv A outer s H vs Q E f0 hc hr h => ?_)
  · obtain ⟨n, ps, rfl, _⟩ := h
    rfl
  · obtain ⟨n, ps, rfl, ok, hl, q⟩ := h
    obtain ⟨wn, l2, l4, oks⟩ := ok_node ok
    refine ⟨_, (pss_cons (ps_asg (pe_partition (pv 0) pe_str) (pg_tup (by rfl) (pgs_cons (pg_name (i := 1) sc_split_text.nd rfl (Or.inl rfl)) (pgs_cons (pg_name (i := 2) sc_split_text.nd rfl (Or.inl rfl)) (pgs_cons (pg_name (i := 3) sc_split_text.nd rfl (Or.inl rfl)) pgs_nil)))))
      (pss_cons (ps_if (pt_not (pt_val (pe_m1 PySem.F.slot_str_endswith PySem.F.type_str_endswith mt_endswith (pv 3) pe_str)))
      (pss_one (ps_ret pe_non))
      pss_nil)
      (pss_cons (ps_set (i := 4) sc_split_text.nd rfl (Or.inl rfl) (pe_cg G_split_blanks hc hr (by rfl) (pa_cons (pe_slice sl_str (pv 3) po_none (po_some (pe_un un_neg pe_int))) pa_nil)))
      (pss_one (ps_ret (pe_ifExp (pt_cmpR op_isN (pv 4) pe_non (nomark _)) pe_non (pe_tup (pa_cons (pv 1) (pa_cons (pv 4) pa_nil))))))))), ?_⟩
    have szl : (S (Pic.node n ps).cs).length ≤ sizeLine := by
      rw [S_len]
      exact Nat.le_trans hl (by decide)
    refine ⟨_, rfl, ⟨_, rfl⟩, _, _, rfl, rfl, by decide +kernel, szl, fun p np => ?_⟩
    rw [part_node wn]
    refine ⟨p, _, rfl, .inl (.inl upd_same), rfl, _, _, rfl, _, _, rfl, _, _, rfl, rfl, ?_⟩
    refine ⟨_, rfl, ⟨_, rfl⟩, _, _, rfl, rfl, true, by rw [ends_close], iteF ?_⟩
    have s1 : Same H (upd H p (.tup [.str (S n), .str "(", .str (S (csJ ps ++ [41]))])) := same_new np
    generalize upd H p (.tup [.str (S n), .str "(", .str (S (csJ ps ++ [41]))]) = H1 at s1 ⊢
    have lq : (csJ ps).length ≤ 5000 := by
      have : (Pic.node n ps).cs = n ++ 40 :: (csJ ps ++ [41]) := rfl
      rw [this] at hl
      simp only [List.length_append, List.length_cons] at hl
      omega
    refine ⟨_, rfl, 1, rfl, _, rfl, S (csJ ps ++ [41]), rfl, by rw [S_len]; exact Nat.le_trans (show _ ≤ 5001 by rw [List.length_append]; simp; omega) (by decide), csJ ps, ?_⟩
    rw [but_close]
    refine ⟨rfl, lq, fun z => ?_, fun ts ets l H2 s2 nl el tl => ?_⟩
    · rw [spl_parts l2 oks] at z
      cases z
    rw [spl_parts l2 oks] at ets
    cases ets
    refine ⟨_, rfl, rfl, false, rfl, iteF ⟨_, rfl, _, rfl, by show 2 ≤ sizeLine; decide, fun t nt => ?_⟩⟩
    have s3 := same_new (o := .tup [.str (S n), .ref l]) nt
    exact q t l _ ((s1.trans s2).trans s3) upd_same (s3 _ _ el)
theorem ok_top_of {t1 t2 : Tok} (D : Df K mg "_top_of" s_top_of ["text"]) (G_split_text : Cg P w K mg base 2 "split_text" spSplit) (G_is_name : Cg P w K mg base 1 "is_name" (spOf isNam)) (c_HOLE : mg "HOLE" = some (.str "." t1)) (c_MAX_CHILDREN : mg "MAX_CHILDREN" = some (.int 4 t2)) (z_len : mg "len" = none) : Cg P w K mg base 3 "_top_of" spTop := by
  refine D.ok sc_top_of (fun vs H Q E h => ?_) (fun cdv A outer s H vs Q E f0 hc hr h => ?_)
  · obtain ⟨p, rfl, _⟩ := h
    rfl
  · obtain ⟨p, rfl, ok, hl, q⟩ := h
    refine ⟨_, (pss_cons (ps_if (pt_cmpR op_eq (pv 0) (pe_glob (v := .str ".") rfl c_HOLE ⟨_, rfl⟩) (nomark _))
      (pss_one (ps_ret (pe_tup (pa_cons pe_non (pa_cons (pe_lst pa_nil) pa_nil)))))
      pss_nil)
      (pss_cons (ps_set (i := 1) sc_top_of.nd rfl (Or.inl rfl) (pe_cg G_split_text hc hr (by rfl) (pa_cons (pv 0) pa_nil)))
      (pss_cons (ps_if (PW.pt (pw_or (pt_cmpR op_isN (pv 1) pe_non (nomark _)) (pw_or (pt_not (pt_val (pe_cg G_is_name hc hr (by rfl) (pa_cons (pe_ix (ix_tup : IxR _ (rIxT K)) (pv 1) pe_int (fun _ _ => rfl)) pa_nil)))) (pw_or1 (pt_not (pt_chain op_le op_le pe_int (pe_callB call_len_seq (by rfl) z_len PySem.boot_len (pa_cons (pe_ix (ix_tup : IxR _ (rIxT K)) (pv 1) pe_int (fun _ _ => rfl)) pa_nil)) (pe_glob (v := .int 4) rfl c_MAX_CHILDREN ⟨_, rfl⟩)))))))
      pss_never
      pss_nil)
      (pss_one (ps_ret (pv 1)))))), ?_⟩
    refine ⟨_, rfl, rfl, _, rfl, ?_⟩
    cases p with
    | hole =>
      rw [show decide (V.str (S Pic.hole.cs) = V.str ".") = true from by decide +kernel]
      refine iteT ⟨by show 0 ≤ sizeLine; decide, fun l nl => ⟨by show 2 ≤ sizeLine; decide, fun t nt => ?_⟩⟩
      have s1 := same_new (o := .lst []) nl
      have s2 := same_new (o := .tup [.non, .ref l]) nt
      exact q t l _ (s1.trans s2) upd_same (s2 _ _ upd_same)
    | node n ps =>
      obtain ⟨wn, l2, l4, oks⟩ := ok_node ok
      rw [show decide (V.str (S (Pic.node n ps).cs) = V.str ".") = false from decide_eq_false (fun z => by
        have e := V.str.inj z
        have e2 : ("." : Str) = S [46] := by decide +kernel
        rw [e2] at e
        have e3 := congrArg List.length (S_inj e)
        have e4 : (Pic.node n ps).cs = n ++ 40 :: (csJ ps ++ [41]) := rfl
        rw [e4] at e3
        simp only [List.length_append, List.length_cons, List.length_nil] at e3
        omega)]
      refine iteF ⟨_, rfl, n, ps, rfl, ok, hl, fun t l H1 s1 et el => ?_⟩
      refine ⟨_, rfl, rfl, false, rfl, iteF ⟨_, rfl, t, _, 0, _, rfl, rfl, .inl (.inl et), rfl, .str (S n), rfl, word_asc wn, fun H2 s2 => ⟨_, rfl, ?_⟩⟩⟩
      rw [word_nam wn]
      have le : (txts (ps.map Pic.cs)).length = ps.length := by rw [txts_len, List.length_map]
      refine iteF ⟨_, rfl, t, _, 1, _, rfl, rfl, .inl (.inl (s2 _ _ et)), rfl, l, _, rfl, .inl (.inl (.inl (s2 _ _ el))), 2, _, rfl, rfl, true, ?_, iteT ⟨_, _, rfl, rfl, true, ?_, iteF ⟨_, rfl, q t l _ (s1.trans s2) (s2 _ _ et) (s2 _ _ el)⟩⟩⟩
      · rw [le]
        show V.bl (decide ((2 : Int) ≤ (ps.length : Int))) = _
        rw [decide_eq_true (by omega)]
      · rw [le]
        show V.bl (decide ((ps.length : Int) ≤ 4)) = _
        rw [decide_eq_true (by omega)]
end
end K12
set_option Elab.async false
set_option linter.all false
set_option autoImplicit false
set_option maxRecDepth 100000
set_option maxHeartbeats 4000000
namespace K12
open PySem PySem.Spec PyProof.Rows L2 Vb Wd Xd Xo
/-- what the written part tells of the class Scheme -/
structure SchemeC (K : PySem.W.Frag) (C : Addr) : Prop where
  c : Cls K C
  n : ∀ f ∈ ["_bare", "_tops", "_by_name", "_names", "_forms", "_sorts"], NoAttr K C f
/-- a getter: the field f -/
def spFld (C : Addr) (f : Str) : Sp := fun vs H Q _ => ∃ (a dx : Addr) (fs : List (Str × V)) (v : V), vs = [.ref a] ∧ H a = some (.ins C dx fs) ∧ fs.lookup f = some v ∧ Q v H
abbrev s_S_bare : Stmt := inB (topS 25) 2
theorem sc_S_bare : FnScope ["self"] ["self"] (defScope s_S_bare) := ⟨rfl, rfl, rfl, by decide +kernel, rfl, by decide +kernel, by decide +kernel⟩
abbrev s_S_tops : Stmt := inB (topS 25) 3
theorem sc_S_tops : FnScope ["self"] ["self"] (defScope s_S_tops) := ⟨rfl, rfl, rfl, by decide +kernel, rfl, by decide +kernel, by decide +kernel⟩
abbrev s_S_forms : Stmt := inB (topS 25) 4
theorem sc_S_forms : FnScope ["self"] ["self"] (defScope s_S_forms) := ⟨rfl, rfl, rfl, by decide +kernel, rfl, by decide +kernel, by decide +kernel⟩
abbrev s_S_names : Stmt := inB (topS 25) 5
theorem sc_S_names : FnScope ["self"] ["self"] (defScope s_S_names) := ⟨rfl, rfl, rfl, by decide +kernel, rfl, by decide +kernel, by decide +kernel⟩
abbrev s_S_sorts : Stmt := inB (topS 25) 6
theorem sc_S_sorts : FnScope ["self"] ["self"] (defScope s_S_sorts) := ⟨rfl, rfl, rfl, by decide +kernel, rfl, by decide +kernel, by decide +kernel⟩
section
variable {P : Program} {w : World} {K : PySem.W.Frag} {mg : Str → Option Value} {base : Heap} {C : Addr}
theorem ok_S_bare {f : Addr} {fd : FuncData} (F : Fun K "bare" "Scheme.bare" s_S_bare f fd) (T : SchemeC K C) : FnG P w K mg base 1 f fd ["self"] (spFld C "_bare") := by
  refine goes_by F sc_S_bare (fun vs H Q E h => ?_) (fun cdv A outer s H vs Q E hc hr h => ?_)
  · obtain ⟨a, dx, fs, v, rfl, _⟩ := h
    rfl
  · obtain ⟨a, dx, fs, v, rfl, ha, hv, q⟩ := h
    exact ⟨_, pss_one (ps_ret (pe_fld (f := "_bare") (pv 0) (by rfl))), _, rfl, a, C, dx, fs, v, rfl, ha, T.c, T.n _ (by simp), hv, q⟩
theorem ok_S_tops {f : Addr} {fd : FuncData} (F : Fun K "tops" "Scheme.tops" s_S_tops f fd) (T : SchemeC K C) : FnG P w K mg base 1 f fd ["self"] (spFld C "_tops") := by
  refine goes_by F sc_S_tops (fun vs H Q E h => ?_) (fun cdv A outer s H vs Q E hc hr h => ?_)
  · obtain ⟨a, dx, fs, v, rfl, _⟩ := h
    rfl
  · obtain ⟨a, dx, fs, v, rfl, ha, hv, q⟩ := h
    exact ⟨_, pss_one (ps_ret (pe_fld (f := "_tops") (pv 0) (by rfl))), _, rfl, a, C, dx, fs, v, rfl, ha, T.c, T.n _ (by simp), hv, q⟩
theorem ok_S_forms {f : Addr} {fd : FuncData} (F : Fun K "forms" "Scheme.forms" s_S_forms f fd) (T : SchemeC K C) : FnG P w K mg base 1 f fd ["self"] (spFld C "_forms") := by
  refine goes_by F sc_S_forms (fun vs H Q E h => ?_) (fun cdv A outer s H vs Q E hc hr h => ?_)
  · obtain ⟨a, dx, fs, v, rfl, _⟩ := h
    rfl
  · obtain ⟨a, dx, fs, v, rfl, ha, hv, q⟩ := h
    exact ⟨_, pss_one (ps_ret (pe_fld (f := "_forms") (pv 0) (by rfl))), _, rfl, a, C, dx, fs, v, rfl, ha, T.c, T.n _ (by simp), hv, q⟩
theorem ok_S_names {f : Addr} {fd : FuncData} (F : Fun K "names" "Scheme.names" s_S_names f fd) (T : SchemeC K C) : FnG P w K mg base 1 f fd ["self"] (spFld C "_names") := by
  refine goes_by F sc_S_names (fun vs H Q E h => ?_) (fun cdv A outer s H vs Q E hc hr h => ?_)
  · obtain ⟨a, dx, fs, v, rfl, _⟩ := h
    rfl
  · obtain ⟨a, dx, fs, v, rfl, ha, hv, q⟩ := h
    exact ⟨_, pss_one (ps_ret (pe_fld (f := "_names") (pv 0) (by rfl))), _, rfl, a, C, dx, fs, v, rfl, ha, T.c, T.n _ (by simp), hv, q⟩
theorem ok_S_sorts {f : Addr} {fd : FuncData} (F : Fun K "sorts" "Scheme.sorts" s_S_sorts f fd) (T : SchemeC K C) : FnG P w K mg base 1 f fd ["self"] (spFld C "_sorts") := by
  refine goes_by F sc_S_sorts (fun vs H Q E h => ?_) (fun cdv A outer s H vs Q E hc hr h => ?_)
  · obtain ⟨a, dx, fs, v, rfl, _⟩ := h
    rfl
  · obtain ⟨a, dx, fs, v, rfl, ha, hv, q⟩ := h
    exact ⟨_, pss_one (ps_ret (pe_fld (f := "_sorts") (pv 0) (by rfl))), _, rfl, a, C, dx, fs, v, rfl, ha, T.c, T.n _ (by simp), hv, q⟩
end
end K12
set_option Elab.async false
set_option linter.all false
set_option autoImplicit false
set_option maxRecDepth 100000
set_option maxHeartbeats 4000000
namespace K12
open PySem PySem.Spec PyProof.Rows L2 Vb Wd Xd Xo StX
abbrev s_str : Stmt := inB (topS 24) 9
theorem sc_str : FnScope ["self", "children", "sort", "step"] ["self"] (defScope s_str) := ⟨rfl, rfl, rfl, by decide +kernel, rfl, by decide +kernel, by decide +kernel⟩
/-- a child's word, a form's line -/
def wordT (c : Str × Int) : Str := c.1 ++ Str.ofString (toString c.2)
def lineT (n so : Str) (cs : List (Str × Int)) : Str := Txt.join " " ("form" :: n :: so :: cs.map wordT)
theorem log_small {i : Int} (h0 : 0 ≤ i) (h3 : i ≤ 3) : i.natAbs.log2 < 1920 := by
  have : i = 0 ∨ i = 1 ∨ i = 2 ∨ i = 3 := by omega
  rcases this with rfl | rfl | rfl | rfl <;> decide
theorem one_sign {i : Int} (h0 : 0 ≤ i) (h3 : i ≤ 3) : (Str.ofString (toString i)).length = 1 := by
  have : i = 0 ∨ i = 1 ∨ i = 2 ∨ i = 3 := by omega
  rcases this with rfl | rfl | rfl | rfl <;> decide +kernel
theorem empty_app (x : Str) : Str.empty ++ x = x := by
  apply PySem.Str.ext'
  show (#[] : Array Nat) ++ x.cps = x.cps
  simp
theorem Kids.get {H : Hp} {a : Addr} {ts : List Addr} {cs : List (Str × Int)} (k : Kids H a ts cs) {i : Nat} {t : Addr} (h : ts[i]? = some t) : ∃ c, cs[i]? = some c ∧ Kid H t c.1 c.2 := by
  have il : i < cs.length := by rw [← k.len]; exact (List.getElem?_eq_some_iff.mp h).1
  exact ⟨cs[i], List.getElem?_eq_getElem il, k.kid i t cs[i] h (List.getElem?_eq_getElem il)⟩
theorem word_len {H : Hp} {t : Addr} {c : Str × Int} (k : Kid H t c.1 c.2) : (wordT c).length ≤ 9 := by
  unfold wordT
  rw [PySem.Str.length_append, one_sign k.lo k.hi]
  have := (nam_len k.nam).2.1
  omega
theorem words_sum : ∀ (l : List Str) (m : Nat), (∀ y ∈ l, y.length ≤ m) → (l.map (·.length)).sum ≤ l.length * m
  | [], m, _ => Nat.zero_le _
  | y :: l, m, h => by
    have h1 := words_sum l m fun z hz => h z (List.mem_cons_of_mem _ hz)
    have h2 := h y List.mem_cons_self
    rw [List.map_cons, List.sum_cons, List.length_cons, Nat.succ_mul]
    omega
def spStr (C : Addr) : Sp := fun vs H Q _ => ∃ (a ch : Addr) (n so : Str) (ts : List Addr) (cs : List (Str × Int)), vs = [.ref a] ∧ FormAt H C a ch n so ts cs ∧ n.length ≤ 1000 ∧ so.length ≤ 1000 ∧ ∀ H', Same H H' → Q (.str (lineT n so cs)) H'
section
variable {P : Program} {w : World} {K : PySem.W.Frag} {mg : Str → Option Value} {base : Heap} {C : Addr}
theorem ok_str {f : Addr} {fd : FuncData} (F : Fun K "__str__" "Form.__str__" s_str f fd) (T : FormC K C) : FnG P w K mg base 1 f fd ["self"] (spStr C) := by
  refine goes_by F sc_str (fun vs H Q E h => ?_) (fun cdv A outer s H vs Q E hc hr h => ?_)
  · obtain ⟨a, ch, n, so, ts, cs, rfl, _⟩ := h
    rfl
  · obtain ⟨a, ch, n, so, ts, cs, rfl, ⟨⟨dx, ha⟩, k⟩, hn, hso, q⟩ := h
    refine ⟨_, (pss_cons (ps_setLc (i := 1) (own := [("sort", 2), ("step", 3)]) (g := gTup K 2 (gCons (gName 2) (gCons (gName 3) gNil))) (by rfl) sc_str.nd rfl rfl (sw_true rfl rfl rfl (by decide +kernel)) (pi_tup (pe_fld (f := "_children") (pv 0) (by rfl)))
        (blkOk_by (own := [("sort", 2), ("step", 3)]) (N := ["self", "children", "sort", "step"]) (sc := defScope s_str) (by decide +kernel)) (fun _ _ _ _ _ => pg_tup (by rfl) (pgs_cons (pg_name (i := 2) sc_str.nd rfl (Or.inl rfl)) (pgs_cons (pg_name (i := 3) sc_str.nd rfl (Or.inl rfl)) pgs_nil))) (fun _ _ _ _ _ => pts_nil)
        (fun _ _ _ _ _ => pe_joined (.cons (pe_fmt (pv 2)) (.cons (pe_fmt (pv 3)) .nil))))
      (pss_one (ps_ret (pe_join pe_str (pe_lst (pa_cons pe_str (pa_cons (pe_fld (f := "_called") (pv 0) (by rfl)) (pa_cons (pe_fld (f := "_sort_name") (pv 0) (by rfl)) (pa_star (pv 1) pa_nil))))))))), ?_⟩
    refine ⟨_, rfl, a, C, dx, _, .ref ch, rfl, ha, T.c, T.n3, by rfl, ch, rfl, ⟨_, .inl (.inl k.at_)⟩, fun D nD => ?_⟩
    have few := k.hi
    have tl := k.len
    refine lc_tup (K := K) (a := ch) (xs := ts.map V.ref) (g := gTup K 2 (gCons (gName 2) (gCons (gName 3) gNil))) (tt := tYes) (vs := [2, 3]) (te := fun σ H Q => tJs [tFmt (tVar 2), tFmt (tVar 3)] Str.empty σ H fun out H1 => Q (.str out) H1) (fun i H' => Same H H' ∧ H' D = some (.lst (((cs.take i).map wordT).map V.str))) ⟨same_put nD (Same.refl H), upd_same⟩ (fun i H' _ h => .inl (.inl (h.1 _ _ k.at_))) (fun i x H1 hx h => ?_) (fun H1 h => ?_)
    · obtain ⟨s1, e1⟩ := h
      rw [List.getElem?_map] at hx
      obtain ⟨t, ht, rfl⟩ := Option.map_eq_some_iff.mp hx
      obtain ⟨⟨m, i'⟩, hc', kt⟩ := k.get ht
      have kt1 := kt.same s1
      have ml := (nam_len kt.nam).2.1
      refine ⟨t, _, rfl, .inl (.inl kt1.at_), rfl, .str m, _, rfl, .int i', _, rfl, rfl, rfl, _, rfl, .inl ⟨m, rfl, fits_million (by simp only at ml; omega), m, rfl, ?_, _, rfl, .inr ⟨i', rfl, log_small kt.lo kt.hi, _, rfl, ?_, ?_⟩⟩⟩
      · rw [empty_app]
        exact fits_million (by simp only at ml; omega)
      · rw [empty_app, PySem.Str.length_append, one_sign kt.lo kt.hi]
        exact fits_million (by simp only at ml; omega)
      · refine ⟨_, e1, ?_, same_put nD s1, ?_⟩
        · rw [List.length_map, List.length_map, List.length_take]
          exact Nat.lt_of_le_of_lt (show _ ≤ 4 by omega) (by decide)
        · rw [upd_same, List.take_add_one, hc', List.map_append, List.map_append, empty_app]
          rfl
    · obtain ⟨s1, e1⟩ := h
      rw [List.length_map, tl, List.take_of_length_le (Nat.le_refl _)] at e1
      refine ⟨⟨_, rfl⟩, _, rfl, a, C, dx, _, .str n, rfl, s1 _ _ ha, T.c, T.n1, by rfl, _, rfl, a, C, dx, _, .str so, rfl, s1 _ _ ha, T.c, T.n2, by rfl, _, rfl, D, _, rfl, .inr (.inl (.inl e1)), ?_, fun p np => ⟨" ", p, "form" :: n :: so :: cs.map wordT, rfl, rfl, .inl (.inl (.inl ?_)), ?_, ?_⟩⟩
      · rw [List.append_nil]
        simp only [List.length_cons, List.length_map]
        exact Nat.le_trans (show _ ≤ 10 by omega) (by decide)
      · rw [upd_same, List.append_nil]
        rfl
      · have wl : ∀ y ∈ cs.map wordT, y.length ≤ 9 := fun y hy => by
          obtain ⟨c, hc', rfl⟩ := List.mem_map.mp hy
          obtain ⟨i, il, ei⟩ := List.mem_iff_getElem.mp hc'
          have ti : i < ts.length := by omega
          obtain ⟨c2, h2, kt⟩ := k.get (List.getElem?_eq_getElem ti)
          rw [List.getElem?_eq_getElem il, ei] at h2
          cases h2
          exact word_len kt
        have sm := words_sum (cs.map wordT) 9 wl
        have l4 : ("form" : Str).length = 4 := by decide +kernel
        have l1 : (" " : Str).length = 1 := by decide +kernel
        rw [List.length_map] at sm
        simp only [List.map_cons, List.sum_cons, List.length_cons, List.length_map]
        rw [l4, l1]
        omega
      · exact q _ (s1.trans (same_new np))
end
end K12
set_option Elab.async false
set_option linter.all false
set_option autoImplicit false
set_option maxRecDepth 100000
set_option maxHeartbeats 4000000
/-! Ts: sets of texts that are made of a list or a tuple, and sorted at once. -/
namespace Ts
open PySem PySem.Spec PyProof.Rows L2 Vb
section
variable {P : Program} {w : World}
/-- two members are unlike -/
def Unlike (P : Program) (w : World) (e e' : Int × Value) : Prop := ∀ k, (PySem.strKind P w).is k e.2 = true → (PySem.strKind P w).is k e'.2 = false
theorem Unlike.symm {e e' : Int × Value} (h : Unlike P w e e') : Unlike P w e' e := fun k hk => by
  cases q : (PySem.strKind P w).is k e.2 with
  | false => rfl
  | true => rw [h k q] at hk; cases hk
/-- a table whose members are just the texts of S, each once, and that can be walked -/
structure Good (P : Program) (w : World) (S : Str → Bool) (es : Array (Int × Value)) (t : SetTable) : Prop where
  el : ElemsOf (PySem.strKind P w) es.toList
  ap : es.toList.Pairwise (Unlike P w)
  mem : ∀ k, S k = true ↔ ∃ e ∈ es.toList, (PySem.strKind P w).is k e.2 = true
  few : es.size < scanBound
  fit : t.fits es.size = true
  ris : Ris t.place.toList
  led : w.params.followText "set-order" = true ∨ t.led = true
theorem size_perm {es es' : Array (Int × Value)} (p : es'.toList.Perm es.toList) : es'.size = es.size := by
  have := p.length_eq
  simpa using this
theorem Good.perm {S : Str → Bool} {es es' : Array (Int × Value)} {t t' : SetTable} (G : Good P w S es t) (p : es'.toList.Perm es.toList) (f : t'.fits es'.size = true) (r : Ris t'.place.toList) (l : t'.led = t.led) : Good P w S es' t' where
  el := G.el.perm p
  ap := (p.pairwise_iff fun h => h.symm).mpr G.ap
  mem := fun k => (G.mem k).trans ⟨fun ⟨e, he, q⟩ => ⟨e, p.mem_iff.mpr he, q⟩, fun ⟨e, he, q⟩ => ⟨e, p.mem_iff.mp he, q⟩⟩
  few := size_perm p ▸ G.few
  fit := f
  ris := r
  led := l ▸ G.led
theorem Good.relay {S : Str → Bool} {es : Array (Int × Value)} {t : SetTable} (G : Good P w S es t) (m : Nat) : Good P w S (relayAll t es m).1 (relayAll t es m).2.1 ∧ (relayAll t es m).1.size = es.size :=
  ⟨G.perm (relayAll_perm t es m) (relayAll_fits t es m) (relayAll_ris t es m) (relayAll_led t es m), size_perm (relayAll_perm t es m)⟩
theorem Good.plain {S : Str → Bool} {es : Array (Int × Value)} {t : SetTable} (G : Good P w S es t) : Good P w S es { t with plain := false } := ⟨G.el, G.ap, G.mem, G.few, SetTable.fits_plain_off G.fit, G.ris, G.led⟩
theorem Good.lay {S : Str → Bool} {es : Array (Int × Value)} {t : SetTable} (G : Good P w S es t) (k : Str) (tk : Tok) (new : ∀ e ∈ es.toList, (PySem.strKind P w).is k e.2 = false) (room : es.size + 1 < scanBound) :
    Good P w (fun j => S j || decide (j = k)) (layNew t es ((PySem.strKind P w).hash k) (.str k tk)).1 (layNew t es ((PySem.strKind P w).hash k) (.str k tk)).2.1 ∧ (layNew t es ((PySem.strKind P w).hash k) (.str k tk)).1.size = es.size + 1 := by
  have isk : (PySem.strKind P w).is k (.str k tk) = true := by simp [PySem.strKind, Value.isStrOf]
  have p := layNew_perm t es ((PySem.strKind P w).hash k) (.str k tk)
  rw [Array.toList_push] at p
  have sz : (layNew t es ((PySem.strKind P w).hash k) (.str k tk)).1.size = es.size + 1 := by
    have := p.length_eq
    simpa using this
  refine ⟨⟨(G.el.push isk rfl).perm p, (p.pairwise_iff fun h => h.symm).mpr (List.pairwise_append.mpr ⟨G.ap, List.pairwise_singleton _ _, fun e he e' he' j hj => ?_⟩), fun j => mem_push_iff isk G.mem p j, by rw [sz]; exact room, layNew_fits _ _ _ _, layNew_ris _ _ _ _ G.ris, G.led.imp id fun z => (layNew_led _ _ _ _).trans z⟩, sz⟩
  rw [List.mem_singleton.mp he']
  cases q : (PySem.strKind P w).is j (Value.str k tk) with
  | false => rfl
  | true =>
    have : j = k := (PySem.strKind P w).inj _ j k q isk
    subst this
    rw [new e he] at hj
    cases hj
/-- the set at a -/
def TxtSet (P : Program) (w : World) (h : Heap) (a : Addr) (S : Str → Bool) (n : Nat) : Prop := ∃ o es ep t, h.get? a = some o ∧ o.ExactSet ∧ o.data = .set es ep t ∧ Good P w S es t ∧ es.size = n
theorem TxtSet.at {h h' : Heap} {a : Addr} {S : Str → Bool} {n : Nat} (T : TxtSet P w h a S n) (k : ∀ o, h.get? a = some o → h'.get? a = some o) : TxtSet P w h' a S n := by
  obtain ⟨o, es, ep, t, e, r⟩ := T
  exact ⟨o, es, ep, t, k o e, r⟩
variable {A : Around} {E : Value → Shared → Prop} {s : Shared} {a : Addr} {S : Str → Bool} {n : Nat}
theorem put_tail {g : Bool → Sem Unit} (hg : ∀ (b : Bool) (s₁ : Shared) (Q' : Unit → Shared → Prop), Q' () s₁ → wpAny (model P w) A (g b) Q' E s₁) {o : Obj} {es es1 : Array (Int × Value)} {ep : Nat} {t t1 : SetTable} (ho : s.heap.get? a = some o) (ex : o.ExactSet)
    (hd : o.data = .set es ep t) (G : Good P w S es1 t1) {was : Bool} {R : Option Bool → Shared → Prop} (hR : ∀ h', Heap.SameBut a s.heap h' → TxtSet P w h' a S es1.size → R (some true) { s with heap := h' }) :
    wpAny (model P w) A (do
        storeSet a es1 t1
        if (!was && t1.tooFull) = true then do
            g (relayAll t1 es1 (SetTable.grown es1.size)).2.2
            storeSet a (relayAll t1 es1 (SetTable.grown es1.size)).1 (relayAll t1 es1 (SetTable.grown es1.size)).2.1
            pure (some true)
          else pure (some true)) R E s := by
  have st1 := store_at (es' := es1) (t' := t1) ho hd
  have sb := Heap.SameBut.update s.heap a (Obj.putSet es1 t1)
  refine wpAny_bind (wpAny_storeSet_of ho hd ?_ (fits_of_scanBound G.few))
  by_cases c : (!was && t1.tooFull) = true
  · rw [if_pos c]
    obtain ⟨G2, z⟩ := G.relay (SetTable.grown es1.size)
    refine wpAny_bind (hg _ _ _ (wpAny_bind (wpAny_storeSet_of st1 rfl ?_ (fits_of_scanBound G2.few))))
    exact wpAny_pure (hR _ (sb.trans (Heap.SameBut.update _ a _)) ⟨_, _, _, _, store_at st1 rfl, ex, rfl, G2, z⟩)
  · rw [if_neg c]
    exact wpAny_pure (hR _ sb ⟨_, _, _, _, st1, ex, rfl, G, rfl⟩)
/-- one text more -/
theorem put_text {k : Str} {tk : Tok} {Q : Bool → Shared → Prop} (T : TxtSet P w s.heap a S n) (room : n + 1 < scanBound)
    (hQ : ∀ (b : Bool) h', Heap.SameBut a s.heap h' → TxtSet P w h' a (fun j => S j || decide (j = k)) (if S k = true then n else n + 1) → Q b { s with heap := h' }) : wpAny (model P w) A (setAddHashed a (.str k tk) ((PySem.strKind P w).hash k)) Q E s := by
  obtain ⟨o, es, ep, t, ho, ex, hd, G, hn⟩ := T
  have isk : (PySem.strKind P w).is k (.str k tk) = true := by simp [PySem.strKind, Value.isStrOf]
  have sc : (Value.str k tk).scannable = true := rfl
  unfold setAddHashed setAddHashedIn
  refine wpAny_holding (wpAny_bind (wpAny_setState_of ho hd G.fit ?_))
  dsimp only
  rw [byScan_of sc G.few G.el]
  simp only [↓reduceIte]
  unfold setAddByScan
  refine wpAny_bind (wpAny_bind (wpAny_rule (wpAny_bind (wpAny_setScan_of isk ho hd G.fit G.el ?_))))
  cases f : List.findIdx? (fun e => (PySem.strKind P w).is k e.2) es.toList with
  | some j =>
    obtain ⟨hj, pj, _⟩ := List.findIdx?_eq_some_iff_getElem.mp f
    have there : S k = true := (G.mem k).mpr ⟨_, List.getElem_mem hj, pj⟩
    have same : (fun j => S j || decide (j = k)) = S := funext fun i => by
      by_cases e : i = k
      · rw [e, there]; rfl
      · rw [decide_eq_false e, Bool.or_false]
    have q := hQ false s.heap (Heap.SameBut.refl a s.heap) ⟨o, es, ep, t, ho, ex, hd, same.symm ▸ G, by rw [if_pos there]; exact hn⟩
    exact wpAny_pure (wpAny_pure q)
  | none =>
    have new : ∀ e ∈ es.toList, (PySem.strKind P w).is k e.2 = false := fun e he => by simpa using List.findIdx?_eq_none_iff.mp f e he
    have gone : ¬ S k = true := fun z => by
      obtain ⟨e, he, q⟩ := (G.mem k).mp z
      rw [new e he] at q
      cases q
    have way : ∀ (b : Bool) (s₁ : Shared) (Q' : Unit → Shared → Prop), Q' () s₁ → wpAny (model P w) A (match b with | true => rule "set.scan.the-table-gave-way" | false => pure ()) Q' E s₁ := fun b s₁ Q' q => by
      cases b
      · exact wpAny_pure q
      · exact wpAny_rule q
    obtain ⟨G1, z1⟩ := G.lay k tk new (by omega)
    generalize layNew t es ((PySem.strKind P w).hash k) (.str k tk) = Z at G1 z1
    obtain ⟨es1, t1, was, gave⟩ := Z
    have last : ∀ h', Heap.SameBut a s.heap h' → TxtSet P w h' a (fun j => S j || decide (j = k)) es1.size → Q true { s with heap := h' } := fun h' sb r => by
      refine hQ true h' sb ?_
      rw [if_neg gone, ← hn]
      have z : es1.size = es.size + 1 := z1
      rw [z] at r
      exact r
    dsimp only
    refine wpAny_bind (way _ _ _ ?_)
    split
    · refine wpAny_bind ?_
      rw [hashByValue_scannable 8 sc]
      refine wpAny_pure ?_
      refine put_tail way ho ex hd (t1 := _) ?_ (fun h' sb r => wpAny_pure (last h' sb r))
      first | exact G1 | exact G1.plain | (split <;> first | exact G1 | exact G1.plain)
    · refine wpAny_bind (wpAny_pure ?_)
      simp only [↓reduceIte]
      exact put_tail way ho ex hd G1 (fun h' sb r => wpAny_pure (last h' sb r))

/-- what one gets of texts, one behind the other -/
def among (xs : List Str) (i : Nat) : Str → Bool := fun k => decide (k ∈ xs.take i)
theorem among_step {xs : List Str} {i : Nat} {x : Str} (h : xs[i]? = some x) : (fun j => among xs i j || decide (j = x)) = among xs (i + 1) := funext fun j => by
  unfold among
  rw [List.take_add_one, h]
  by_cases a : j ∈ xs.take i
  · simp [a]
  · simp [a]
theorem empty_set {h : Heap} {b : Addr} (ho : h.get? b = some { cls := .type "set", dict := none, data := .set #[] 0 (.fresh 0 0 (!w.params.followText "set-order")) }) : TxtSet P w h b (fun _ => false) 0 := by
  refine ⟨_, _, _, _, ho, ⟨rfl, rfl, rfl⟩, rfl, ⟨fun e he => by simp at he, by simp, fun k => by simp, by decide, rfl, List.Pairwise.nil, ?_⟩, rfl⟩
  cases q : w.params.followText "set-order"
  · exact .inr rfl
  · exact .inl rfl
/-- the loop that puts all items in -/
theorem fill {I : Addr} {fp wr : List Addr} {G : Array GenState → Array GenState → Prop} {n : Nat} {Pv : Nat → Value → Prop} {St : Nat → Shared → Prop} {R : Result → Shared → Prop} (W : WalksS P w A.in1 I fp wr G n Pv St) (D : Addr) (hD : D ∉ fp) (xs : List Str)
    (hn : xs.length = n) (few : n + 1 < scanBound) (val : ∀ i v, Pv i v → ∃ x t, xs[i]? = some x ∧ v = .str x t) : ∀ (left i c : Nat) (s : Shared), n - i = left → i ≤ n → c ≤ i → St i s → TxtSet P w s.heap D (among xs i) c →
      (∀ s' c', Moved (D :: wr) G s s' → TxtSet P w s'.heap D (among xs n) c' → c' ≤ n → R (.ok (.ret .none)) s') → codeAny (model P w) A (.builtin "set.update.loop" ⟨[.ref D, .ref I], []⟩) R s := by
  have hDw : D ∉ wr := fun h => hD (W.sub _ h)
  have up : ∀ b ∈ wr, b ∈ D :: wr := fun b hb => List.mem_cons_of_mem _ hb
  intro left
  induction left with
  | zero =>
    intro i c s hl hi hc hst T hR
    obtain rfl : i = n := by omega
    refine codeAny_builtin PyProof.Rows.F.entry_set_update_loop ?_
    rw [Around.under_plainId PyProof.Rows.F.plain_set_update_loop _]
    show wpAny _ A.in1 (pyNext (.ref I) >>= _) _ _ s
    refine wpAny_bind (W.done s _ _ hst fun s' hm => ?_)
    show wpAny _ A.in1 (ret Value.none) _ _ s'
    exact wpAny_pure (hR s' c (hm.mono up) (T.at fun o e => hm.heap D o hDw e) hc)
  | succ left ih =>
    intro i c s hl hi hc hst T hR
    have lt : i < n := by omega
    refine codeAny_builtin PyProof.Rows.F.entry_set_update_loop ?_
    rw [Around.under_plainId PyProof.Rows.F.plain_set_update_loop _]
    show wpAny _ A.in1 (pyNext (.ref I) >>= _) _ _ s
    refine wpAny_bind (W.item i s _ _ lt hst fun v s' hP hst' hm => ?_)
    obtain ⟨x, t, hx, rfl⟩ := val i v hP
    have T' : TxtSet P w s'.heap D (among xs i) c := T.at fun o e => hm.heap D o hDw e
    show wpAny _ A.in1 (holding [Value.str x t] (setAdd D (.str x t)) >>= _) _ _ s'
    refine wpAny_bind (wpAny_holding ?_)
    unfold setAdd
    have isx : (PySem.strKind P w).is x (.str x t) = true := by simp [PySem.strKind, Value.isStrOf]
    refine wpAny_holding (wpAny_bind ((PySem.strKind P w).pyHash isx ?_))
    refine put_text (s := { s' with toks := s'.toks + 1 }) T' (by omega) fun b h' sb T2 => ?_
    rw [among_step hx] at T2
    have c2 : (if among xs i x = true then c else c + 1) ≤ i + 1 := by split <;> omega
    refine wpAny_pure ⟨plainId_quiet PyProof.Rows.F.plain_set_update_loop _, ih (i + 1) _ _ (by omega) lt c2 (W.frame _ s' _ _ hst' (Nat.le_succ _) fun b hb o e => ?_) T2 fun s'' c'' hm'' T'' hc'' => ?_⟩
    · rw [sb.2 b fun z : b = D => hD (z ▸ hb)]
      exact e
    · refine hR s'' c'' (Moved.trans W.gtrans ((hm.mono up).then_heap (Nat.le_succ _) fun b o hb e => ?_) hm'') T'' hc''
      rw [sb.2 b fun z : b = D => hb (z ▸ List.mem_cons_self)]
      exact e
theorem strs_get : ∀ {us : List Value} {xs : List Str}, StrsAre us xs → ∀ (i : Nat) (v : Value), us[i]? = some v → ∃ x t, xs[i]? = some x ∧ v = .str x t
  | _, _, .nil, _, _, h => by simp at h
  | _, _, .cons x t _, 0, v, h => ⟨x, t, rfl, by simpa using h.symm⟩
  | _, _, .cons _ _ r, i + 1, v, h => strs_get r i v (by simpa using h)

set_option maxHeartbeats 8000000 in
/-- set(list) -/
theorem set_of_list {l : Addr} {items : Array Value} {xs : List Str} {Q : Value → Shared → Prop} (hh : A.handled = none) (hl : s.heap.IsList l items) (hi : StrsAre items.toList xs) (few : xs.length + 1 < scanBound)
    (hQ : ∀ (h' : Heap) (tk c : Nat), TxtSet P w h' s.heap.objs.size (among xs xs.length) c → c ≤ xs.length → (∀ b o, s.heap.get? b = some o → h'.get? b = some o) → Q (.ref s.heap.objs.size) { s with heap := h', toks := tk }) :
    wpAny (model P w) A (call (.type "set") [.ref l]) Q E s := by
  have hz : xs.length = items.size := by rw [← StrsAre.len_eq hi, Array.length_toList]
  obtain ⟨c, tl, hmro⟩ := PySem.F.called_set.mro
  have made := PySem.F.called_set.made
  have subs := PySem.F.called_set.sub
  refine wpAny_call (codeAny_of_tree ?_)
  show wpAny _ _ (callAny (.type "set") _) _ _ _
  refine wpAny_pure ⟨Code.quiet_builtin _ (by decide +kernel), codeAny_builtin PySem.F.entry_type_call ?_⟩
  rw [Around.under_plain (weight_type_call_type "set" [.ref l] []) rfl]
  have k1 := PySem.F.called_set.notType
  have k2 := PySem.F.called_set.canCreate
  have k3 := PySem.F.typeCall_set_1 (.ref l)
  repeat (any_goals (first | assumption | wp_step))
  refine codeAny_mono (code_set_led1 (.ref l) (E := E) (Q₁ := fun obj s₁ => obj = .ref s.heap.objs.size ∧ s₁ = { s with heap := s.heap.push { cls := .type "set", dict := none, data := .set #[] 0 (.fresh 0 0 (!w.params.followText "set-order")) } }) ⟨rfl, rfl⟩) fun r s₁ hr => ?_
  match r, hr with
  | .error _, hr => exact hr
  | .ok .next, hr => exact hr.elim
  | .ok .brk, hr => exact hr.elim
  | .ok .cont, hr => exact hr.elim
  | .ok (.ret obj), hr =>
    obtain ⟨rfl, rfl⟩ := hr
    have hS : (s.heap.push { cls := .type "set", dict := none, data := .set #[] 0 (.fresh 0 0 (!w.params.followText "set-order")) }).get? s.heap.objs.size = some { cls := .type "set", dict := none, data := .set #[] 0 (.fresh 0 0 (!w.params.followText "set-order")) } := Heap.get?_push_size _ rfl
    have hT : Shared.TypeIs { s with heap := s.heap.push { cls := .type "set", dict := none, data := .set #[] 0 (.fresh 0 0 (!w.params.followText "set-order")) } } (.ref s.heap.objs.size) "set" := ⟨_, hS, rfl⟩
    have k4 := PySem.F.called_set.init.lookup
    have k5 := PySem.F.called_set.init.bind (.ref s.heap.objs.size)
    repeat (any_goals (first | assumption | wp_step))
    refine codeAny_mono (codeAny_call_builtin (R := wants (fun r s₂ => r = .none ∧ ∃ h' tk c, s₂ = { s with heap := h', toks := tk } ∧ TxtSet P w h' s.heap.objs.size (among xs xs.length) c ∧ c ≤ xs.length ∧ (∀ b o, s.heap.get? b = some o → h'.get? b = some o)) E)
      PySem.F.called_set.init.plain PySem.F.entry_set_init (check_set_init_1 hT ?_)) fun r₂ s₂ hr₂ => ?_
    · obtain ⟨⟨ocls, odict, odata, oslots⟩, hol, hcl, nl, hdl⟩ := hl
      simp only at hcl hdl
      subst hcl
      subst hdl
      have hol' : (s.heap.push { cls := .type "set", dict := none, data := .set #[] 0 (.fresh 0 0 (!w.params.followText "set-order")) }).get? l = some { cls := .type "list", dict := odict, data := .seq items nl, slots := oslots } := Heap.get?_push_of_some _ hol
      have k6 := PySem.F.sub_list_set
      have k7 := PySem.F.sub_list_frozenset
      have k8 : (Value.type "list" == Value.type "dict") = false := by decide
      have hl1 : (s.heap.push { cls := .type "set", dict := none, data := .set #[] 0 (.fresh 0 0 (!w.params.followText "set-order")) }).IsList l items := ⟨_, hol', rfl, nl, rfl⟩
      unfold Builtin.«set.__init__» noKeywords Builtin.Frozenset.updateFrom
      generalize hPI : pyIter = PI
      wp_walk
      subst hPI
      refine wpAny_pyIter_list hl1 (wpAny_bind (wpAny_runValue ?_))
      have lS : l < s.heap.objs.size := Heap.lt_size hol
      have lI : l ≠ (s.heap.push { cls := .type "set", dict := none, data := .set #[] 0 (.fresh 0 0 (!w.params.followText "set-order")) }).objs.size := by
        rw [Heap.size_push]
        exact Nat.ne_of_lt (Nat.lt_succ_of_lt lS)
      have nS : s.heap.objs.size ∉ [(s.heap.push { cls := .type "set", dict := none, data := .set #[] 0 (.fresh 0 0 (!w.params.followText "set-order")) }).objs.size, l] := by
        rw [Heap.size_push]
        simp only [List.mem_cons, List.not_mem_nil, or_false, not_or]
        exact ⟨Nat.ne_of_lt (Nat.lt_succ_self _), Nat.ne_of_gt lS⟩
      refine fill ((Walks.list (by simp [hh]) _ l lI items).toS) s.heap.objs.size nS xs hz (by omega) (fun i v hv => strs_get hi i v (by rw [Array.getElem?_toList]; exact hv)) (items.size - 0) 0 0 _ rfl (Nat.zero_le _) (Nat.le_refl _) ⟨⟨_, Heap.get?_push_size _ rfl, rfl, rfl⟩, (hl1.push _)⟩ ?e0 ?e1
      case e0 =>
        have e : among xs 0 = fun _ => false := funext fun k => by simp [among]
        rw [e]
        exact empty_set (Heap.get?_push_of_some _ hS)
      case e1 =>
        intro s' c' hm T hc
        obtain ⟨h', g2, d', tk', os'⟩ := s'
        have eg : g2 = s.gens := hm.gens
        have ed : d' = s.drawn := hm.drawn
        have eo : os' = s.os := hm.os
        subst eg
        subst ed
        subst eo
        show wpAny _ _ _ _ _ _
        refine wpAny_pure ?_
        show wpAny _ _ (ret Value.none) _ _ _
        rw [← hz] at T hc
        refine wpAny_pure ⟨rfl, h', tk', c', rfl, T, hc, fun b o e => hm.heap b o ?_ (Heap.get?_push_of_some _ (Heap.get?_push_of_some _ e))⟩
        have lb : b < s.heap.objs.size := Heap.lt_size e
        rw [Heap.size_push]
        simp only [List.mem_cons, List.not_mem_nil, or_false, not_or]
        exact ⟨Nat.ne_of_lt lb, Nat.ne_of_lt (Nat.lt_succ_of_lt lb)⟩
    · match r₂, hr₂ with
      | .error _, hr₂ => exact hr₂
      | .ok .next, hr₂ => exact hr₂.elim
      | .ok .brk, hr₂ => exact hr₂.elim
      | .ok .cont, hr₂ => exact hr₂.elim
      | .ok (.ret r), hr₂ =>
        obtain ⟨rfl, h', tk, c', rfl, T, hc, hk⟩ := hr₂
        repeat (any_goals (first | assumption | wp_step))
        exact hQ _ _ _ T hc hk

set_option maxHeartbeats 8000000 in
/-- set(tuple) -/
theorem set_of_tuple {l : Addr} {items : Array Value} {xs : List Str} {Q : Value → Shared → Prop} (hh : A.handled = none) (hl : s.heap.IsTuple l items) (hi : StrsAre items.toList xs) (few : xs.length + 1 < scanBound)
    (hQ : ∀ (h' : Heap) (tk c : Nat), TxtSet P w h' s.heap.objs.size (among xs xs.length) c → c ≤ xs.length → (∀ b o, s.heap.get? b = some o → h'.get? b = some o) → Q (.ref s.heap.objs.size) { s with heap := h', toks := tk }) :
    wpAny (model P w) A (call (.type "set") [.ref l]) Q E s := by
  have hz : xs.length = items.size := by rw [← StrsAre.len_eq hi, Array.length_toList]
  obtain ⟨c, tl, hmro⟩ := PySem.F.called_set.mro
  have made := PySem.F.called_set.made
  have subs := PySem.F.called_set.sub
  refine wpAny_call (codeAny_of_tree ?_)
  show wpAny _ _ (callAny (.type "set") _) _ _ _
  refine wpAny_pure ⟨Code.quiet_builtin _ (by decide +kernel), codeAny_builtin PySem.F.entry_type_call ?_⟩
  rw [Around.under_plain (weight_type_call_type "set" [.ref l] []) rfl]
  have k1 := PySem.F.called_set.notType
  have k2 := PySem.F.called_set.canCreate
  have k3 := PySem.F.typeCall_set_1 (.ref l)
  repeat (any_goals (first | assumption | wp_step))
  refine codeAny_mono (code_set_led1 (.ref l) (E := E) (Q₁ := fun obj s₁ => obj = .ref s.heap.objs.size ∧ s₁ = { s with heap := s.heap.push { cls := .type "set", dict := none, data := .set #[] 0 (.fresh 0 0 (!w.params.followText "set-order")) } }) ⟨rfl, rfl⟩) fun r s₁ hr => ?_
  match r, hr with
  | .error _, hr => exact hr
  | .ok .next, hr => exact hr.elim
  | .ok .brk, hr => exact hr.elim
  | .ok .cont, hr => exact hr.elim
  | .ok (.ret obj), hr =>
    obtain ⟨rfl, rfl⟩ := hr
    have hS : (s.heap.push { cls := .type "set", dict := none, data := .set #[] 0 (.fresh 0 0 (!w.params.followText "set-order")) }).get? s.heap.objs.size = some { cls := .type "set", dict := none, data := .set #[] 0 (.fresh 0 0 (!w.params.followText "set-order")) } := Heap.get?_push_size _ rfl
    have hT : Shared.TypeIs { s with heap := s.heap.push { cls := .type "set", dict := none, data := .set #[] 0 (.fresh 0 0 (!w.params.followText "set-order")) } } (.ref s.heap.objs.size) "set" := ⟨_, hS, rfl⟩
    have k4 := PySem.F.called_set.init.lookup
    have k5 := PySem.F.called_set.init.bind (.ref s.heap.objs.size)
    repeat (any_goals (first | assumption | wp_step))
    refine codeAny_mono (codeAny_call_builtin (R := wants (fun r s₂ => r = .none ∧ ∃ h' tk c, s₂ = { s with heap := h', toks := tk } ∧ TxtSet P w h' s.heap.objs.size (among xs xs.length) c ∧ c ≤ xs.length ∧ (∀ b o, s.heap.get? b = some o → h'.get? b = some o)) E)
      PySem.F.called_set.init.plain PySem.F.entry_set_init (check_set_init_1 hT ?_)) fun r₂ s₂ hr₂ => ?_
    · obtain ⟨⟨ocls, odict, odata, oslots⟩, hol, hcl, nl, hdl⟩ := hl
      simp only at hcl hdl
      subst hcl
      subst hdl
      have hol' : (s.heap.push { cls := .type "set", dict := none, data := .set #[] 0 (.fresh 0 0 (!w.params.followText "set-order")) }).get? l = some { cls := .type "tuple", dict := odict, data := .seq items nl, slots := oslots } := Heap.get?_push_of_some _ hol
      have k6 := PySem.F.sub_tuple_set
      have k7 := PySem.F.sub_tuple_frozenset
      have k8 : (Value.type "tuple" == Value.type "dict") = false := by decide
      have hl1 : (s.heap.push { cls := .type "set", dict := none, data := .set #[] 0 (.fresh 0 0 (!w.params.followText "set-order")) }).IsTuple l items := ⟨_, hol', rfl, nl, rfl⟩
      unfold Builtin.«set.__init__» noKeywords Builtin.Frozenset.updateFrom
      generalize hPI : pyIter = PI
      wp_walk
      subst hPI
      refine wpAny_pyIter_tuple hl1 (wpAny_bind (wpAny_runValue ?_))
      have lS : l < s.heap.objs.size := Heap.lt_size hol
      have lI : l ≠ (s.heap.push { cls := .type "set", dict := none, data := .set #[] 0 (.fresh 0 0 (!w.params.followText "set-order")) }).objs.size := by
        rw [Heap.size_push]
        exact Nat.ne_of_lt (Nat.lt_succ_of_lt lS)
      have nS : s.heap.objs.size ∉ [(s.heap.push { cls := .type "set", dict := none, data := .set #[] 0 (.fresh 0 0 (!w.params.followText "set-order")) }).objs.size, l] := by
        rw [Heap.size_push]
        simp only [List.mem_cons, List.not_mem_nil, or_false, not_or]
        exact ⟨Nat.ne_of_lt (Nat.lt_succ_self _), Nat.ne_of_gt lS⟩
      refine fill ((Walks.tuple (by simp [hh]) _ l lI items).toS) s.heap.objs.size nS xs hz (by omega) (fun i v hv => strs_get hi i v (by rw [Array.getElem?_toList]; exact hv)) (items.size - 0) 0 0 _ rfl (Nat.zero_le _) (Nat.le_refl _) ⟨⟨_, Heap.get?_push_size _ rfl, rfl, rfl⟩, (hl1.push _)⟩ ?e0 ?e1
      case e0 =>
        have e : among xs 0 = fun _ => false := funext fun k => by simp [among]
        rw [e]
        exact empty_set (Heap.get?_push_of_some _ hS)
      case e1 =>
        intro s' c' hm T hc
        obtain ⟨h', g2, d', tk', os'⟩ := s'
        have eg : g2 = s.gens := hm.gens
        have ed : d' = s.drawn := hm.drawn
        have eo : os' = s.os := hm.os
        subst eg
        subst ed
        subst eo
        show wpAny _ _ _ _ _ _
        refine wpAny_pure ?_
        show wpAny _ _ (ret Value.none) _ _ _
        rw [← hz] at T hc
        refine wpAny_pure ⟨rfl, h', tk', c', rfl, T, hc, fun b o e => hm.heap b o ?_ (Heap.get?_push_of_some _ (Heap.get?_push_of_some _ e))⟩
        have lb : b < s.heap.objs.size := Heap.lt_size e
        rw [Heap.size_push]
        simp only [List.mem_cons, List.not_mem_nil, or_false, not_or]
        exact ⟨Nat.ne_of_lt lb, Nat.ne_of_lt (Nat.lt_succ_of_lt lb)⟩
    · match r₂, hr₂ with
      | .error _, hr₂ => exact hr₂
      | .ok .next, hr₂ => exact hr₂.elim
      | .ok .brk, hr₂ => exact hr₂.elim
      | .ok .cont, hr₂ => exact hr₂.elim
      | .ok (.ret r), hr₂ =>
        obtain ⟨rfl, h', tk, c', rfl, T, hc, hk⟩ := hr₂
        repeat (any_goals (first | assumption | wp_step))
        exact hQ _ _ _ T hc hk
end
end Ts
set_option Elab.async false
set_option linter.all false
set_option autoImplicit false
set_option maxRecDepth 100000
set_option maxHeartbeats 4000000
namespace Ts
open PySem PySem.Spec PyProof.Rows L2 Vb
section
variable {P : Program} {w : World} {A : Around} {E : Value → Shared → Prop} {s : Shared} {a : Addr} {S : Str → Bool} {n : Nat}
theorem is_str {k : Str} {v : Value} : (PySem.strKind P w).is k v = true ↔ ∃ t, v = .str k t := by
  constructor
  · intro h
    exact Value.isStrOf_shape h
  · rintro ⟨t, rfl⟩
    simp [PySem.strKind, Value.isStrOf]
/-- the members as texts -/
theorem Good.texts {es : Array (Int × Value)} {t : SetTable} (G : Good P w S es t) {out : List Value} (pm : out.Perm (es.toList.map (·.2))) : StrsAre out (out.map PyProof.Rows.strOf) ∧ (out.map PyProof.Rows.strOf).Nodup ∧ ∀ k, k ∈ out.map PyProof.Rows.strOf ↔ S k = true := by
  have all : ∀ v ∈ out, ∃ x t, v = Value.str x t := fun v hv => by
    obtain ⟨e, he, rfl⟩ := List.mem_map.mp (pm.mem_iff.mp hv)
    obtain ⟨⟨k, hk, _⟩, _⟩ := G.el e he
    obtain ⟨t, q⟩ := is_str.mp hk
    exact ⟨k, t, q⟩
  refine ⟨strsAre_map out all, ?_, fun k => ?_⟩
  · have nd : ((es.toList.map (·.2)).map PyProof.Rows.strOf).Nodup := by
      rw [List.map_map]
      refine List.pairwise_map.mpr (G.ap.imp_of_mem fun {e e'} he he' h q => ?_)
      obtain ⟨⟨k, hk, _⟩, _⟩ := G.el e he
      obtain ⟨⟨k', hk', _⟩, _⟩ := G.el e' he'
      obtain ⟨t, q1⟩ := is_str.mp hk
      obtain ⟨t', q2⟩ := is_str.mp hk'
      have e1 : k = k' := by
        have q' : PyProof.Rows.strOf e.2 = PyProof.Rows.strOf e'.2 := q
        rw [q1, q2] at q'
        exact q'
      have := h k hk
      rw [e1, hk'] at this
      cases this
    exact (pm.map PyProof.Rows.strOf).nodup_iff.mpr nd
  · rw [(pm.map PyProof.Rows.strOf).mem_iff, G.mem k]
    constructor
    · intro h
      obtain ⟨v, hv, q⟩ := List.mem_map.mp h
      obtain ⟨e, he, rfl⟩ := List.mem_map.mp hv
      obtain ⟨⟨k', hk', _⟩, _⟩ := G.el e he
      obtain ⟨t', q2⟩ := is_str.mp hk'
      rw [q2] at q
      have q' : k' = k := q
      subst q'
      exact ⟨e, he, hk'⟩
    · rintro ⟨e, he, hk⟩
      obtain ⟨t, q⟩ := is_str.mp hk
      exact List.mem_map.mpr ⟨e.2, List.mem_map.mpr ⟨e, he, rfl⟩, by rw [q]; rfl⟩
theorem sorted_texts {Q : Value → Shared → Prop} (T : TxtSet P w s.heap a S n) (hh : A.handled = none) (h64 : n < 64)
    (hQ : ∀ s' p (out : Array Value) (c : Nat) (ks : List Str), (∀ b o, s.heap.get? b = some o → s'.heap.get? b = some o) → s'.gens = s.gens → s'.os = s.os → s.heap.objs.size ≤ p → s'.heap.get? p = some (seqObj "list" out c) → StrsAre out.toList ks →
      sortedS ks = true → ks.Nodup → (∀ k, k ∈ ks ↔ S k = true) → ks.length = n → Q (.ref p) s') : wpAny (model P w) A (call (.builtin "sorted") [.ref a]) Q E s := by
  obtain ⟨o, es, ep, t, ho, ex, hd, G, hn⟩ := T
  refine Calls.call_function_entry kind_sorted plain_sorted entry_sorted (args_sorted1 _) ?_
  unfold Builtin.«sorted»
  refine wpAny_bind (m := checkCount "sorted" 1 1 _) (wpAny_pure ?_)
  refine wpAny_bind (collect_set (A := A.in1) hh ⟨o, ho, ex.1, hd⟩ G.fit G.few G.ris G.led fun s1 vs k1 hz g1 o1 pm => ?_)
  obtain ⟨hS, nd, mem⟩ := G.texts pm
  have hvl : vs.length = n := by
    have : vs.length = es.size := by simpa using pm.length_eq
    rw [this, hn]
  refine wpAny_bind (wpAny_newList ?_ (by rw [hvl, sizeLine_eq]; omega))
  have hoL : (s1.heap.push (seqObj "list" vs.toArray 0)).get? s1.heap.objs.size = some (seqObj "list" vs.toArray 0) := Heap.get?_push_size _ rfl
  refine wpAny_bind (wpAny_holding (wpAny_call_entry slot_list_sort ⟨_, hoL, rfl⟩ entry_list_sort
    (list_sort_treeK strKind_oneLt hoL hS.keysOf (fun v₁ v₂ rest e => keyKind_strs (by rw [← e]; exact hS)) (by rw [hvl]; exact h64) fun st' hp hs => ⟨_, rfl, ?_⟩) (args_list_sort _)))
  obtain ⟨ks, q1, q2, q3⟩ := sorted_out_str hS hp hs
  obtain ⟨c, hc⟩ := sortedHeap_at (vs := vs) (out := (arrOf st').map (·.2)) hoL
  refine wpAny_pure ⟨_, rfl, hQ _ s1.heap.objs.size _ c ks (fun b u e => ?_) g1 o1 hz hc q1 q3 (q2.nodup_iff.mpr nd) (fun k => q2.mem_iff.trans (mem k)) ?_⟩
  · have lt := Heap.lt_size (k1 b u e)
    have old := sortedHeap_old (h := s1.heap.push (seqObj "list" vs.toArray 0)) (a := s1.heap.objs.size) (vs := vs) (out := (arrOf st').map (·.2)) (b := b) (Nat.ne_of_lt lt) (by rw [Heap.size_push]; exact Nat.lt_succ_of_lt lt)
    exact old.trans (Heap.get?_push_of_some _ (k1 b u e))
  · have := q2.length_eq
    rw [List.length_map] at this
    omega
end
/-- a set of texts, as what stands at a -/
def TsO (P : Program) (w : World) (a : Addr) (S : Str → Bool) (n : Nat) : HO := .ext fun h => TxtSet P w h a S n
section
variable {X : Cx}
def rSetTexts (K : PySem.W.Frag) (P : Program) (w : World) : List V → Hp → VK → Prop := fun xs H Q => ∃ (l : Addr) (ys : List Str), xs = [.ref l] ∧ (SqL K H l (ys.map V.str) ∨ SqT K H l (ys.map V.str)) ∧ ys.length ≤ 1000 ∧
  ∀ a c, H a = none → c ≤ ys.length → Q (.ref a) (upd H a (TsO P w a (among ys ys.length) c))
theorem cr_setTexts (hc : X.calm = true) : CallR X (.type "set") (rSetTexts X.K X.prog X.w) := by
  intro pins s σ H xs us Q I r h
  obtain ⟨l, ys, rfl, hs, hl, q⟩ := h
  rw [Vals.ref1 r]
  have few : ys.length + 1 < scanBound := Nat.lt_of_le_of_lt (Nat.succ_le_succ hl) (by decide)
  have fin : ∀ (h' : Heap) (tk c : Nat), TxtSet X.prog X.w h' s.heap.objs.size (among ys ys.length) c → c ≤ ys.length → (∀ b o, s.heap.get? b = some o → h'.get? b = some o) → EP X pins σ Q (.ref s.heap.objs.size) { s with heap := h', toks := tk } := fun h' tk c T hc k =>
    ⟨.ref s.heap.objs.size, upd H s.heap.objs.size (TsO X.prog X.w s.heap.objs.size (among ys ys.length) c), I.laid (t' := tk) k (Nat.le_refl _) ⟨T, (let ⟨o, _, _, _, e, _⟩ := T; ⟨o, e⟩), fun h1 h2 t k => t.at k⟩, rfl, q _ c (I.hok.fresh (Nat.le_refl _)) hc⟩
  rcases hs with hs | hs
  · obtain ⟨its, rv, pl, _⟩ := I.list hs
    exact set_of_list (P := X.prog) (w := X.w) (I.ok.hd hc) pl.isList (by simpa using rv.strs) few fin
  · obtain ⟨its, rv, pl, _⟩ := I.tuple hs
    exact set_of_tuple (P := X.prog) (w := X.w) (I.ok.hd hc) pl (by simpa using rv.strs) few fin
def rSortTexts (P : Program) (w : World) : List V → Hp → VK → Prop := fun vs H Q => ∃ (a : Addr) (ys : List Str) (c : Nat), vs = [.ref a] ∧ H a = some (TsO P w a (among ys ys.length) c) ∧ c < 64 ∧
  ∀ (zs : List Str) (p : Addr), (∀ k, k ∈ zs ↔ k ∈ ys) → sortedS zs = true → zs.Nodup → zs.length = c → H p = none → Q (.ref p) (upd H p (.lst (zs.map V.str)))
theorem cr_sortTexts (hc : X.calm = true) : CallR X (.builtin "sorted") (rSortTexts X.prog X.w) := by
  intro pins s σ H vs us Q I r h
  obtain ⟨a, ys, c, rfl, ha, h64, q⟩ := h
  have T : TxtSet X.prog X.w s.heap a (among ys ys.length) c := (I.hok a _ ha).1
  rw [Vals.ref1 r]
  refine sorted_texts T (I.ok.hd hc) h64 fun s' p out cc zs k g o hp hg hS hs nd mem hl => ?_
  have new : H p = none := I.hok.fresh hp
  have len : (zs.map V.str).length ≤ sizeLine := by
    rw [List.length_map, hl]
    exact Nat.le_trans (Nat.le_of_lt h64) (by decide)
  have J : Inv X pins σ (upd H p (.lst (zs.map V.str))) { s with heap := s'.heap, gens := s'.gens, drawn := s'.drawn, toks := s'.toks } :=
    I.call (ch := []) (Un.laid k hp new) (I.hok.laid k hp ⟨len, out.toList, cc, vals_of_strs hS, hg⟩) (by rw [g]; exact I.bare) (fun _ z => nomatch z)
  have e : s' = { s with heap := s'.heap, gens := s'.gens, drawn := s'.drawn, toks := s'.toks } := by
    cases s'
    cases s
    cases o
    rfl
  rw [e]
  refine ⟨.ref p, _, J, rfl, q zs p (fun k => ?_) hs nd hl new⟩
  rw [mem k]
  show decide (k ∈ ys.take ys.length) = true ↔ _
  rw [List.take_length]
  exact decide_eq_true_iff
end
end Ts
set_option Elab.async false
set_option linter.all false
set_option autoImplicit false
set_option maxRecDepth 100000
set_option maxHeartbeats 4000000
namespace K01
open PySem PySem.Spec PyProof.Rows L2 Vb Wd
/-! ### the order of texts -/
abbrev Lt (a b : Str) : Prop := a.cps.toList < b.cps.toList
theorem lt_tr {a b c : Str} (h : Lt a b) (k : Lt b c) : Lt a c := List.lt_trans h k
theorem lt_ir (a : Str) : ¬ Lt a a := List.lt_irrefl _
theorem lt_tri {a b : Str} (h : ¬ Lt a b) (k : ¬ Lt b a) : a = b := by
  have e : a.cps.toList = b.cps.toList := List.le_antisymm (List.not_lt.mp k) (List.not_lt.mp h)
  obtain ⟨x⟩ := a
  obtain ⟨y⟩ := b
  obtain ⟨x⟩ := x
  obtain ⟨y⟩ := y
  cases (show x = y from e)
  rfl
/-- each is less than the next -/
def asc : List Str → Bool
  | x :: y :: r => decide (Lt x y) && asc (y :: r)
  | _ => true
theorem asc_pair : ∀ {l : List Str}, asc l = true → l.Pairwise Lt
  | [], _ => .nil
  | [x], _ => List.pairwise_singleton _ _
  | x :: y :: r, h => by
    obtain ⟨h1, h2⟩ := Bool.and_eq_true_iff.mp (show (decide (Lt x y) && asc (y :: r)) = true from h)
    have ih := asc_pair (l := y :: r) h2
    refine List.pairwise_cons.mpr ⟨fun z hz => ?_, ih⟩
    rcases List.mem_cons.mp hz with rfl | hz
    · exact of_decide_eq_true h1
    · exact lt_tr (of_decide_eq_true h1) ((List.pairwise_cons.mp ih).1 z hz)
theorem pair_asc : ∀ {l : List Str}, l.Pairwise Lt → asc l = true
  | [], _ => rfl
  | [x], _ => rfl
  | x :: y :: r, h => by
    obtain ⟨h1, h2⟩ := List.pairwise_cons.mp h
    show (decide (Lt x y) && asc (y :: r)) = true
    rw [pair_asc h2, decide_eq_true (h1 y List.mem_cons_self)]
    rfl
theorem rising_pair : ∀ {l : List Str} {p : Str}, risingS p l = true → (p :: l).Nodup → (p :: l).Pairwise Lt
  | [], p, _, _ => List.pairwise_singleton _ _
  | x :: r, p, h, nd => by
    obtain ⟨h1, h2⟩ := Bool.and_eq_true_iff.mp (show (!ltCps x.cps.toList p.cps.toList && risingS x r) = true from h)
    obtain ⟨n1, n2⟩ := List.nodup_cons.mp nd
    have ih := rising_pair h2 n2
    have px : Lt p x := by
      rw [ltCps_eq] at h1
      have nx : ¬ Lt x p := by simpa using h1
      refine Classical.byContradiction fun np => ?_
      exact n1 (lt_tri np nx ▸ List.mem_cons_self)
    refine List.pairwise_cons.mpr ⟨fun z hz => ?_, ih⟩
    rcases List.mem_cons.mp hz with rfl | hz
    · exact px
    · exact lt_tr px ((List.pairwise_cons.mp ih).1 z hz)
theorem sorted_pair {l : List Str} (h : sortedS l = true) (nd : l.Nodup) : l.Pairwise Lt := by
  cases l with
  | nil => exact .nil
  | cons x r => exact rising_pair h nd
theorem pair_uniq : ∀ {l m : List Str}, l.Pairwise Lt → m.Pairwise Lt → (∀ k, k ∈ l ↔ k ∈ m) → l = m
  | [], [], _, _, _ => rfl
  | [], y :: _, _, _, h => nomatch (h y).mpr List.mem_cons_self
  | x :: _, [], _, _, h => nomatch (h x).mp List.mem_cons_self
  | x :: l, y :: m, pl, pm, h => by
    obtain ⟨l1, l2⟩ := List.pairwise_cons.mp pl
    obtain ⟨m1, m2⟩ := List.pairwise_cons.mp pm
    have xy : x = y := by
      rcases List.mem_cons.mp ((h x).mp List.mem_cons_self) with e | hx
      · exact e
      · rcases List.mem_cons.mp ((h y).mpr List.mem_cons_self) with e | hy
        · exact e.symm
        · exact absurd (lt_tr (l1 y hy) (m1 x hx)) (lt_ir x)
    subst xy
    have rest : l = m := pair_uniq l2 m2 fun k => by
      constructor
      · intro hk
        rcases List.mem_cons.mp ((h k).mp (List.mem_cons_of_mem _ hk)) with e | hk'
        · exact absurd (e ▸ l1 k hk) (lt_ir x)
        · exact hk'
      · intro hk
        rcases List.mem_cons.mp ((h k).mpr (List.mem_cons_of_mem _ hk)) with e | hk'
        · exact absurd (e ▸ m1 k hk) (lt_ir x)
        · exact hk'
    rw [rest]
/-- a list is its members in order just if each is less than the next -/
theorem eq_sorted {ys zs : List Str} (mem : ∀ k, k ∈ zs ↔ k ∈ ys) (srt : sortedS zs = true) (nd : zs.Nodup) : decide (ys = zs) = asc ys := by
  have pz := sorted_pair srt nd
  cases h : asc ys with
  | true => exact decide_eq_true (pair_uniq (asc_pair h) pz fun k => (mem k).symm)
  | false =>
    refine decide_eq_false fun e => ?_
    rw [e, pair_asc pz] at h
    cases h
theorem eqv_strs : ∀ ys zs : List Str, PyData.eqvAll (ys.map PyData.str) (zs.map PyData.str) = decide (ys = zs)
  | [], [] => rfl
  | [], z :: zs => by simp [PyData.eqvAll]
  | y :: ys, [] => by simp [PyData.eqvAll]
  | y :: ys, z :: zs => by
    show (PyData.eqv (.str y) (.str z) && PyData.eqvAll (ys.map PyData.str) (zs.map PyData.str)) = _
    rw [eqv_strs ys zs]
    by_cases e : y = z
    · subst e
      by_cases e2 : ys = zs
      · subst e2; simp [PyData.eqv]
      · simp [PyData.eqv, e2]
    · simp [PyData.eqv, e]
theorem eqv_list (ys zs : List Str) : PyData.eqv (.list (ys.map PyData.str)) (.list (zs.map PyData.str)) = decide (ys = zs) := by
  rw [← eqv_strs]
  simp [PyData.eqv]
/-! ### the first unlike sign decides -/
theorem lt_at : ∀ {a b : List Nat} {i c d : Nat}, a.take i = b.take i → a[i]? = some c → b[i]? = some d → c ≠ d → decide (a < b) = decide (c < d)
  | [], _, _, _, _, _, h, _, _ => by simp at h
  | _, [], _, _, _, _, _, h, _ => by simp at h
  | x :: a, y :: b, 0, c, d, _, h, k, n => by
    have e1 : x = c := by simpa using h
    have e2 : y = d := by simpa using k
    subst e1
    subst e2
    apply decide_eq_decide.mpr
    constructor
    · intro l
      cases l with
      | rel h => exact h
      | cons h => exact absurd rfl n
    · exact fun l => .rel l
  | x :: a, y :: b, i + 1, c, d, t, h, k, n => by
    have e : x = y ∧ a.take i = b.take i := by simpa using t
    obtain ⟨rfl, t'⟩ := e
    rw [← lt_at t' (by simpa using h) (by simpa using k) n]
    apply decide_eq_decide.mpr
    constructor
    · intro l
      cases l with
      | rel h => exact absurd h (Nat.lt_irrefl _)
      | cons h => exact h
    · exact fun l => .cons l
theorem lt_end : ∀ {a b : List Nat}, a.take (min a.length b.length) = b.take (min a.length b.length) → decide (a < b) = decide (a.length < b.length)
  | [], [], _ => by decide
  | [], y :: b, _ => by
    rw [decide_eq_true (show ([] : List Nat) < y :: b from .nil)]
    exact (decide_eq_true (Nat.succ_pos _)).symm
  | x :: a, [], _ => by
    rw [decide_eq_false (fun l : x :: a < ([] : List Nat) => nomatch l)]
    exact (decide_eq_false (by simp)).symm
  | x :: a, y :: b, t => by
    have m : min (x :: a).length (y :: b).length = min a.length b.length + 1 := by simp only [List.length_cons]; omega
    rw [m] at t
    have e : x = y ∧ a.take (min a.length b.length) = b.take (min a.length b.length) := by simpa using t
    obtain ⟨rfl, t'⟩ := e
    have ih := lt_end t'
    have : decide (x :: a < x :: b) = decide (a < b) := by
      apply decide_eq_decide.mpr
      constructor
      · intro l
        cases l with
        | rel h => exact absurd h (Nat.lt_irrefl _)
        | cons h => exact h
      · exact fun l => .cons l
    rw [this, ih]
    apply decide_eq_decide.mpr
    simp
/-! ### the small letters by their places -/
def lettersT : Str := "abcdefghijklmnopqrstuvwxyz"
theorem letters_at : ∀ c, c < 128 → low c = true → ∃ r, Builtin.Str.occurrences lettersT ⟨#[c]⟩ 0 lettersT.length 1 = (c - 97) :: r := by
  have h : ∀ c, c < 128 → low c = true → Builtin.Str.occurrences lettersT ⟨#[c]⟩ 0 lettersT.length 1 = [c - 97] := by decide +kernel
  exact fun c h1 h2 => ⟨[], h c h1 h2⟩
end K01
set_option Elab.async false
set_option linter.all false
set_option autoImplicit false
set_option maxRecDepth 100000
set_option maxHeartbeats 4000000
namespace K12
open PySem PySem.Spec PyProof.Rows L2 Vb Wd Ts K01
abbrev s_is_names : Stmt := topS 8
theorem sc_is_names : FnScope ["value", "word"] ["value"] (defScope s_is_names) := ⟨rfl, rfl, rfl, by decide +kernel, rfl, by decide +kernel, by decide +kernel⟩
abbrev nam (y : Str) : Bool := isNam (.str y)
/-- a text as the laws make it -/
def Fine (y : Str) : Prop := y.length ≤ 1000 ∧ Asc y
/-- what is_names is asked of, and what it answers -/
def Asked (K : PySem.W.Frag) (H : Hp) (v : V) (b : Bool) : Prop :=
  (∃ a ys, v = .ref a ∧ H a = some (.tup (ys.map V.str)) ∧ (∀ y ∈ ys, Fine y) ∧ ys.length ≤ 63 ∧ b = (ys.all nam && asc ys)) ∨
  (∃ T, TyX K H v (.type T) ∧ kitB T "tuple" = some false ∧ b = false) ∨
  (∃ a xs, v = .ref a ∧ H a = some (.tup xs) ∧ (∀ x ∈ xs, Judged H x) ∧ xs.all isNam = false ∧ xs.length ≤ 63 ∧ b = false)
def spNames (K : PySem.W.Frag) : Sp := fun vs H Q _ => ∃ v b, vs = [v] ∧ Asked K H v b ∧ ∀ H', Same H H' → Q (.bl b) H'
theorem ki_tt : kitB "tuple" "tuple" = some true := by decide +kernel
theorem fine_judged {H : Hp} {y : Str} (h : Fine y) : Judged H (.str y) := h
section
variable {P : Program} {w : World} {K : PySem.W.Frag} {mg : Str → Option Value} {base : Heap}
theorem all_map (ys : List Str) : (ys.map V.str).all isNam = ys.all nam := by
  rw [List.all_map]
  rfl
theorem ok_is_names (D : Df K mg "is_names" s_is_names ["value"]) (G_is_name : Cg P w K mg base 1 "is_name" (spOf isNam)) (z_isinstance : mg "isinstance" = none) (z_tuple : mg "tuple" = none) (z_all : mg "all" = none) (z_list : mg "list" = none) (z_sorted : mg "sorted" = none) (z_set : mg "set" = none) :
    Cg P w K mg base 2 "is_names" (spNames K) := by
  refine D.ok sc_is_names (fun vs H Q E h => ?_) (fun cdv A outer s H vs Q E f hc hr h => ?_)
  · obtain ⟨v, b, rfl, _⟩ := h
    rfl
  · obtain ⟨v, b, rfl, ask, q⟩ := h
    refine ⟨_, (pss_cons (ps_if (PW.pt (pw_or (pt_not (pt_val (pe_callB call_isi (by rfl) z_isinstance (by decide +kernel) (pa_cons (pv 0) (pa_cons (pe_bltn (v := .ty "tuple") (by rfl) z_tuple (by decide +kernel) rfl) pa_nil)))))
        (pw_or1 (pt_not (pt_val (pe_callB (cr_all rfl) (by rfl) z_all (by decide +kernel) (pa_cons (pe_lc (own := [("word", 1)]) (g := gName 1) (by rfl) sc_is_names.nd (pi_tup (pv 0)) (blkOk_by (own := [("word", 1)]) (N := ["value", "word"]) (sc := defScope s_is_names) (by decide +kernel)) (fun _ _ _ _ _ => pg_name (i := 1) sc_is_names.nd rfl (Or.inl rfl)) (fun _ _ _ _ _ => pts_nil) (fun _ _ _ _ _ => (pe_cg G_is_name hc hr (by rfl) (pa_cons (pv 1) pa_nil)))) pa_nil)))))))
      (pss_one (ps_ret pe_bl))
      pss_nil)
      (pss_one (ps_ret (pe_cmpR (op_eqD hr.units) (pe_callTy call_list_of (by rfl) z_list (by decide +kernel) (pa_cons (pv 0) pa_nil)) (pe_callB (cr_sortTexts rfl) (by rfl) z_sorted (by decide +kernel) (pa_cons (pe_callTy (cr_setTexts rfl) (by rfl) z_set (by decide +kernel) (pa_cons (pv 0) pa_nil)) pa_nil)) (nomark _))))), ?_⟩
    -- a tuple of judged values, its names asked one by one
    have both : (∃ T, TyX K H v (.type T) ∧ kitB T "tuple" = some false ∧ b = false) ∨
        ∃ a xs, v = .ref a ∧ H a = some (.tup xs) ∧ (∀ x ∈ xs, Judged H x) ∧ xs.length ≤ 63 ∧ (xs.all isNam = false → b = false) ∧ (xs.all isNam = true → ∃ ys, xs = ys.map V.str ∧ (∀ y ∈ ys, Fine y) ∧ b = asc ys) := by
      rcases ask with ⟨a, ys, rfl, ha, fy, hl, rfl⟩ | h | ⟨a, xs, rfl, ha, hj, hF, hl, rfl⟩
      · refine .inr ⟨a, ys.map V.str, rfl, ha, fun x hx => ?_, by rw [List.length_map]; exact hl, fun f => ?_, fun t => ⟨ys, rfl, fy, ?_⟩⟩
        · obtain ⟨y, hy, rfl⟩ := List.mem_map.mp hx
          exact fine_judged (fy y hy)
        · rw [all_map] at f
          rw [f, Bool.false_and]
        · rw [all_map] at t
          rw [t, Bool.true_and]
      · exact .inl h
      · exact .inr ⟨a, xs, rfl, ha, hj, hl, fun _ => rfl, fun t => by rw [hF] at t; cases t⟩
    rcases both with ⟨T, ty, kt, rfl⟩ | ⟨a, xs, rfl, ha, hj, hl, hF, hT⟩
    · exact ⟨_, rfl, _, _, _, _, false, rfl, .ty _, ty, kit_ty kt, _, rfl, iteT (q H (Same.refl H))⟩
    have hTp : ∀ {H' : Hp}, Same H H' → SqT K H' a xs := fun s => .inl (.inl (s _ _ ha))
    refine ⟨_, rfl, _, _, _, _, true, rfl, .ty _, .base (.tup ha), kit_ty ki_tt, _, rfl, iteF ⟨_, rfl, a, rfl, ⟨_, hTp (Same.refl H)⟩, fun D nD => lc_tup (K := K) (a := a) (xs := xs) (fun i H' => Same H H' ∧ H' D = some (.lst (((xs.take i).map isNam).map V.bl))) ⟨same_put nD (Same.refl H), by rw [upd_same]; rfl⟩ (fun i H' _ h => hTp h.1) (fun i x H1 hx h => ?_) (fun H1 h => ?_)⟩⟩
    · obtain ⟨s1, e1⟩ := h
      refine ⟨rfl, _, rfl, x, rfl, (hj x (List.mem_of_getElem? hx)).same s1, fun H2 s2 => ⟨_, s2 _ _ e1, ?_, same_put nD (s1.trans s2), ?_⟩⟩
      · rw [List.length_map, List.length_map, List.length_take]
        exact Nat.lt_of_le_of_lt (Nat.le_trans (Nat.min_le_right _ _) hl) (by decide)
      · rw [upd_same, List.take_add_one, hx, List.map_append, List.map_append]
        rfl
    · obtain ⟨s1, e1⟩ := h
      rw [List.take_length] at e1
      refine ⟨D, xs.map isNam, rfl, .inl (.inl e1), _, rfl, ?_⟩
      have ea : (xs.map isNam).all id = xs.all isNam := by rw [List.all_map]; rfl
      rw [ea]
      cases e : xs.all isNam with
      | false =>
        have q' := q _ s1
        rw [hF e] at q'
        exact iteT q'
      | true =>
        obtain ⟨ys, rfl, fy, rfl⟩ := hT e
        have yl : ys.length ≤ 63 := by rw [List.length_map] at hl; exact hl
        refine iteF ⟨_, rfl, a, ys.map V.str, rfl, .inr (hTp s1), fun l nl => ?_⟩
        have s2 := same_new (o := .lst (ys.map V.str)) nl
        refine ⟨_, rfl, a, ys, rfl, .inr (hTp (s1.trans s2)), by omega, fun st c nst hc' => ?_⟩
        have s3 := same_new (o := TsO P w st (among ys ys.length) c) nst
        refine ⟨st, ys, c, rfl, upd_same, by omega, fun zs p mem srt nd _ np => ?_⟩
        have s4 := same_new (o := .lst (zs.map V.str)) np
        refine ⟨.list (ys.map PyData.str), .list (zs.map PyData.str), .lst (.inl (.inl ((s3.trans s4) _ _ upd_same))) (dp_strs ys), .lst (.inl (.inl upd_same)) (dp_strs zs), shaped_strs fun y hy => (fy y hy).2, shaped_strs fun z hz => (fy z ((mem z).mp hz)).2, ?_⟩
        rw [eqv_list, eq_sorted mem srt nd]
        exact q _ (((s1.trans s2).trans s3).trans s4)
end
end K12
set_option Elab.async false
set_option linter.all false
set_option autoImplicit false
set_option maxRecDepth 100000
set_option maxHeartbeats 4000000
/-! Tr: sets of texts of which many are alike: there are no more members than words to choose from. -/
namespace Ts
open PySem PySem.Spec PyProof.Rows L2 Vb
theorem nodup_len {α : Type} [DecidableEq α] : ∀ (ks L : List α), ks.Nodup → (∀ k ∈ ks, k ∈ L) → ks.length ≤ L.length
  | [], L, _, _ => Nat.zero_le _
  | k :: ks, L, nd, h => by
    obtain ⟨h1, h2⟩ := List.nodup_cons.mp nd
    have ih := nodup_len ks (L.erase k) h2 fun x hx => (List.mem_erase_of_ne (fun e => h1 (by rw [← e]; exact hx))).mpr (h x (List.mem_cons_of_mem _ hx))
    have m := h k List.mem_cons_self
    rw [List.length_erase_of_mem m] at ih
    have : 0 < L.length := List.length_pos_of_mem m
    rw [List.length_cons]
    omega
section
variable {P : Program} {w : World}
theorem TxtSet.few {h : Heap} {a : Addr} {ys L : List Str} {c : Nat} (T : TxtSet P w h a (among ys ys.length) c) (hL : ∀ y ∈ ys, y ∈ L) : c ≤ L.length := by
  obtain ⟨o, es, ep, t, ho, ex, hd, G, hn⟩ := T
  obtain ⟨_, nd, mem⟩ := G.texts (out := es.toList.map (·.2)) (List.Perm.refl _)
  have := nodup_len _ L nd fun k hk => hL k (by
    have := (mem k).mp hk
    unfold among at this
    rw [List.take_length] at this
    exact of_decide_eq_true this)
  rw [List.length_map, List.length_map, Array.length_toList, hn] at this
  exact this
end
section
variable {X : Cx}
def rSetFew (K : PySem.W.Frag) (P : Program) (w : World) : List V → Hp → VK → Prop := fun xs H Q => ∃ (l : Addr) (ys L : List Str), xs = [.ref l] ∧ (SqL K H l (ys.map V.str) ∨ SqT K H l (ys.map V.str)) ∧ ys.length ≤ 1000 ∧ (∀ y ∈ ys, y ∈ L) ∧
  ∀ a c, H a = none → c ≤ ys.length → c ≤ L.length → Q (.ref a) (upd H a (TsO P w a (among ys ys.length) c))
theorem cr_setFew (hc : X.calm = true) : CallR X (.type "set") (rSetFew X.K X.prog X.w) := by
  intro pins s σ H xs us Q I r h
  obtain ⟨l, ys, L, rfl, hs, hl, sub, q⟩ := h
  rw [Vals.ref1 r]
  have few : ys.length + 1 < scanBound := Nat.lt_of_le_of_lt (Nat.succ_le_succ hl) (by decide)
  have fin : ∀ (h' : Heap) (tk c : Nat), TxtSet X.prog X.w h' s.heap.objs.size (among ys ys.length) c → c ≤ ys.length → (∀ b o, s.heap.get? b = some o → h'.get? b = some o) → EP X pins σ Q (.ref s.heap.objs.size) { s with heap := h', toks := tk } := fun h' tk c T hc k =>
    ⟨.ref s.heap.objs.size, upd H s.heap.objs.size (TsO X.prog X.w s.heap.objs.size (among ys ys.length) c), I.laid (t' := tk) k (Nat.le_refl _) ⟨T, (let ⟨o, _, _, _, e, _⟩ := T; ⟨o, e⟩), fun h1 h2 t k => t.at k⟩, rfl, q _ c (I.hok.fresh (Nat.le_refl _)) hc (T.few sub)⟩
  rcases hs with hs | hs
  · obtain ⟨its, rv, pl, _⟩ := I.list hs
    exact set_of_list (P := X.prog) (w := X.w) (I.ok.hd hc) pl.isList (by simpa using rv.strs) few fin
  · obtain ⟨its, rv, pl, _⟩ := I.tuple hs
    exact set_of_tuple (P := X.prog) (w := X.w) (I.ok.hd hc) pl (by simpa using rv.strs) few fin
end
end Ts
set_option Elab.async false
set_option linter.all false
set_option autoImplicit false
set_option maxRecDepth 100000
set_option maxHeartbeats 4000000
namespace K12
open PySem PySem.Spec PyProof.Rows L2 Vb Wd Xd Xo Ts K01
abbrev s_sorts_of : Stmt := topS 30
theorem sc_sorts_of : FnScope ["tops", "forms", "told", "form", "child"] ["tops", "forms"] (defScope s_sorts_of) := ⟨rfl, rfl, rfl, by decide +kernel, rfl, by decide +kernel, by decide +kernel⟩
/-- a form as data: its name, its sort, its children -/
abbrev FD : Type := Str × Str × List (Str × Int)
def saidBy (d : FD) : List Str := d.2.1 :: d.2.2.map (·.1)
def said (ds : List FD) : List Str := ds.flatMap saidBy
/-- forms stand at these places -/
structure Forms (H : Hp) (C : Addr) (fs : List Addr) (ds : List FD) : Prop where
  len : fs.length = ds.length
  at_ : ∀ (i : Nat) (a : Addr) (d : FD), fs[i]? = some a → ds[i]? = some d → ∃ ch ts, FormAt H C a ch d.1 d.2.1 ts d.2.2
def spSorts (K : PySem.W.Frag) (C : Addr) : Sp := fun vs H Q _ => ∃ (t f : Addr) (ys L : List Str) (fs : List Addr) (ds : List FD), vs = [.ref t, .ref f] ∧ H t = some (.tup (ys.map V.str)) ∧ H f = some (.tup (fs.map V.ref)) ∧ Forms H C fs ds ∧ ys.length ≤ 60 ∧ fs.length ≤ 40 ∧
  (∀ y ∈ ys ++ said ds, y ∈ L) ∧ L.length < 64 ∧ ∀ (p : Addr) (zs : List Str) (H' : Hp), Same H H' → H' p = some (.tup (zs.map V.str)) → (∀ k, k ∈ zs ↔ k ∈ ys ++ said ds) → sortedS zs = true → zs.Nodup → Q (.ref p) H'
theorem said_take {ds : List FD} {i : Nat} {d : FD} (h : ds[i]? = some d) : said (ds.take (i + 1)) = said (ds.take i) ++ (d.2.1 :: d.2.2.map (·.1)) := by
  unfold said
  rw [List.take_add_one, h, List.flatMap_append]
  simp [saidBy]
theorem FormAt.sm {H H' : Hp} {C a ch : Addr} {n so : Str} {ts : List Addr} {cs : List (Str × Int)} (s : Same H H') (f : FormAt H C a ch n so ts cs) : FormAt H' C a ch n so ts cs := by
  obtain ⟨⟨dx, e⟩, k⟩ := f
  exact ⟨⟨dx, s _ _ e⟩, k.same s⟩
theorem said_len {ds : List FD} {n : Nat} (h : ∀ d ∈ ds, d.2.2.length ≤ 4) (hn : ds.length ≤ n) : (said ds).length ≤ n * 5 := by
  induction ds generalizing n with
  | nil => exact Nat.zero_le _
  | cons d ds ih =>
    cases n with
    | zero => simp at hn
    | succ n =>
      have h1 := ih (n := n) (fun x hx => h x (List.mem_cons_of_mem _ hx)) (by simpa using hn)
      have h2 := h d List.mem_cons_self
      have : (said (d :: ds)).length = (saidBy d).length + (said ds).length := by
        unfold said
        rw [List.flatMap_cons, List.length_append]
      rw [this]
      have e : (saidBy d).length = d.2.2.length + 1 := by simp [saidBy]
      omega
section
variable {P : Program} {w : World} {K : PySem.W.Frag} {mg : Str → Option Value} {base : Heap} {C : Addr}
theorem ok_sorts_of (D : Df K mg "_sorts_of" s_sorts_of ["tops", "forms"]) (T : FormC K C) (TP : FormP P w K mg base C) (z_list : mg "list" = none) (z_tuple : mg "tuple" = none) (z_sorted : mg "sorted" = none) (z_set : mg "set" = none) : Cg P w K mg base 3 "_sorts_of" (spSorts K C) := by
  obtain ⟨p2, g2, fd2, o2, G2, b2⟩ := TP.get ("sort_name", "_sort_name") (by simp)
  obtain ⟨p3, g3, fd3, o3, G3, b3⟩ := TP.get ("children", "_children") (by simp)
  refine D.ok sc_sorts_of (fun vs H Q E h => ?_) (fun cdv A outer s H vs Q E f0 hc hr h => ?_)
  · obtain ⟨t, f, ys, L, fs, ds, rfl, _⟩ := h
    rfl
  · obtain ⟨t, f, ys, L, fs, ds, rfl, ht, hf, F, ly, lf, sub, lL, q⟩ := h
    refine ⟨_, (pss_cons (ps_set (i := 2) sc_sorts_of.nd rfl (Or.inl rfl) (pe_callTy call_list_of (by rfl) z_list (by decide +kernel) (pa_cons (pv 0) pa_nil)))
      (pss_cons (ps_for PassesOwn.never rfl (pi_tup (pv 1)) (pg_name (i := 3) sc_sorts_of.nd rfl (Or.inl rfl))
      (pss_cons (ps_expr (pe_bm PySem.F.plainAttrs_list PySem.F.slot_list_append PySem.F.type_list_append mt_append (pv 2) (pa_cons (pe_propG (n := "sort_name") (pv 3) T.c o2 G2 hc hr b2) pa_nil)))
      (pss_one (ps_expr (pe_bm PySem.F.plainAttrs_list PySem.F.slot_list_extend PySem.F.type_list_extend mt_extend (pv 2) (pa_cons (pe_lc (own := [("child", 4)]) (g := gName 4) (by rfl) sc_sorts_of.nd (pi_tup (pe_propG (n := "children") (pv 3) T.c o3 G3 hc hr b3)) (blkOk_by (own := [("child", 4)]) (N := ["tops", "forms", "told", "form", "child"]) (sc := defScope s_sorts_of) (by decide +kernel)) (fun _ _ _ _ _ => pg_name (i := 4) sc_sorts_of.nd rfl (Or.inl rfl)) (fun _ _ _ _ _ => pts_nil) (fun _ _ _ _ _ => (pe_ix (ix_tup : IxR _ (rIxT K)) (pv 4) pe_int (fun _ _ => rfl)))) pa_nil))))))
      (pss_one (ps_ret (pe_callTy (cr_tuple : CallR _ _ (rTup K)) (by rfl) z_tuple (by decide +kernel) (pa_cons (pe_callB (cr_sortTexts rfl) (by rfl) z_sorted (by decide +kernel) (pa_cons (pe_callTy (cr_setFew rfl) (by rfl) z_set (by decide +kernel) (pa_cons (pv 2) pa_nil)) pa_nil)) pa_nil)))))), ?_⟩
    refine ⟨_, rfl, t, _, rfl, .inr (.inl (.inl ht)), fun l nl => ?_⟩
    have sl := same_new (o := .lst (ys.map V.str)) nl
    generalize eH1 : upd H l (.lst (ys.map V.str)) = H1 at sl ⊢
    have h1l : H1 l = some (.lst (ys.map V.str)) := by rw [← eH1, upd_same]
    have lf' : f ≠ l := ne_of_none hf nl
    have kids4 : ∀ d ∈ ds, d.2.2.length ≤ 4 := fun d hd => by
      obtain ⟨i, hi⟩ := List.mem_iff_getElem?.mp hd
      have il := (List.getElem?_eq_some_iff.mp hi).1
      obtain ⟨ch, ts, FA⟩ := F.at_ i (fs[i]'(by have := F.len; omega)) d (List.getElem?_eq_getElem _) hi
      have := FA.kids.hi
      have := FA.kids.len
      omega
    have all : ∀ i, (ys ++ said (ds.take i)).length ≤ 260 := fun i => by
      have := said_len (ds := ds.take i) (n := 40) (fun d hd => kids4 d (List.mem_of_mem_take hd)) (by rw [List.length_take]; have := F.len; omega)
      rw [List.length_append]
      omega
    have big : ∀ {n : Nat}, n ≤ 270 → n < sizeLine := fun h => Nat.lt_of_le_of_lt h (by decide)
    refine ⟨_, rfl, f, rfl, ⟨_, .inl (.inl (sl _ _ hf))⟩, for_tup (K := K) (a := f) (xs := fs.map V.ref) (fun i σ H' => (∃ o3 o4, σ = [some (.ref t), some (.ref f), some (.ref l), o3, o4]) ∧ (∀ b x, b ≠ l → H1 b = some x → H' b = some x) ∧ H' l = some (.lst ((ys ++ said (ds.take i)).map V.str)))
      ⟨⟨none, none, rfl⟩, fun _ _ _ e => e, by rw [h1l]; simp [said]⟩ (fun i σ H' _ h => .inl (.inl (h.2.1 _ _ lf' (sl _ _ hf)))) (fun i x σ H2 hx h => ?_) (fun σ H2 h => ?_)⟩
    · obtain ⟨⟨o3, o4, rfl⟩, k2, e2⟩ := h
      have s2 : Same H H2 := fun b x e => k2 b x (ne_of_none e nl) (sl _ _ e)
      rw [List.getElem?_map] at hx
      obtain ⟨a, ha, rfl⟩ := Option.map_eq_some_iff.mp hx
      have il : i < ds.length := by
        have := (List.getElem?_eq_some_iff.mp ha).1
        have := F.len
        omega
      obtain ⟨ch, ts, FA⟩ := F.at_ i a ds[i] ha (List.getElem?_eq_getElem il)
      have hd : ds[i]? = some ds[i] := List.getElem?_eq_getElem il
      generalize ds[i] = d at FA hd
      obtain ⟨⟨dx, fa⟩, ka⟩ := FA.sm s2
      have al : a ≠ l := fun z => by
        rw [z, e2] at fa
        cases fa
      refine ⟨.ref l, rfl, .inl ⟨rfl, _, .inl (.inl e2)⟩, _, rfl, a, dx, _, rfl, fa, a, ch, dx, d.1, d.2.1, .str d.2.1, rfl, fa, by rfl, l, _, _, rfl, rfl, e2, big (by rw [List.length_map]; have := all i; omega), ?_⟩
      have fa1 : (upd H2 l (.lst ((ys ++ said (ds.take i)).map V.str ++ [.str d.2.1]))) a = some (.ins C dx (flds d.1 d.2.1 ch)) := by rw [upd_ne al]; exact fa
      have chl : ch ≠ l := fun z => by
        have q := ka.at_
        rw [z, e2] at q
        cases q
      refine ⟨.ref l, rfl, .inl ⟨rfl, _, .inl (.inl upd_same)⟩, _, rfl, a, dx, _, rfl, fa1, a, ch, dx, d.1, d.2.1, .ref ch, rfl, fa1, by rfl, ch, rfl, ⟨_, .inl (.inl (by rw [upd_ne chl]; exact ka.at_))⟩, fun D nD => ?_⟩
      generalize eH3 : upd H2 l (.lst ((ys ++ said (ds.take i)).map V.str ++ [.str d.2.1])) = H3 at nD ⊢
      have h3l : H3 l = some (.lst ((ys ++ said (ds.take i)).map V.str ++ [.str d.2.1])) := by rw [← eH3, upd_same]
      have h3 : ∀ b x, b ≠ l → H2 b = some x → H3 b = some x := fun b x n e => by rw [← eH3, upd_ne n]; exact e
      refine lc_tup (K := K) (a := ch) (xs := ts.map V.ref) (fun j H' => Same H3 H' ∧ H' D = some (.lst (((d.2.2.take j).map (·.1)).map V.str))) ⟨same_put nD (Same.refl _), upd_same⟩ (fun j H' _ h => .inl (.inl (h.1 _ _ (h3 _ _ chl ka.at_)))) (fun j x H4 hx h => ?_) (fun H4 h => ?_)
      · obtain ⟨s4, e4⟩ := h
        rw [List.getElem?_map] at hx
        obtain ⟨u, hu, rfl⟩ := Option.map_eq_some_iff.mp hx
        obtain ⟨⟨m, k⟩, hc', ku⟩ := ka.get hu
        have ul : u ≠ l := fun z => by
          have q := ku.at_
          rw [z, e2] at q
          cases q
        have u4 := s4 _ _ (h3 _ _ ul ku.at_)
        refine ⟨rfl, _, rfl, u, _, _, _, rfl, rfl, .inl (.inl u4), rfl, _, e4, ?_, same_put nD s4, ?_⟩
        · rw [List.length_map, List.length_map, List.length_take]
          exact big (by have := kids4 d (List.mem_of_getElem? hd); omega)
        · rw [upd_same, List.take_add_one, hc', List.map_append, List.map_append]
          rfl
      · obtain ⟨s4, e4⟩ := h
        rw [List.length_map] at e4
        have full : d.2.2.take ts.length = d.2.2 := List.take_of_length_le (Nat.le_of_eq ka.len.symm)
        rw [full] at e4
        have h4l := s4 _ _ h3l
        refine ⟨l, D, _, _, rfl, rfl, h4l, e4, ?_, ⟨_, _, rfl⟩, fun b x n e => ?_, ?_⟩
        · rw [List.length_append, List.length_map, List.length_map, List.length_map, List.length_singleton]
          have := kids4 d (List.mem_of_getElem? hd)
          have := all i
          exact Nat.le_of_lt (big (by omega))
        · rw [upd_ne n]
          exact s4 _ _ (h3 _ _ n (k2 b x n e))
        · rw [upd_same, said_take hd]
          simp [List.map_append]
    · obtain ⟨⟨o3, o4, rfl⟩, k2, e2⟩ := h
      have s2 : Same H H2 := fun b x e => k2 b x (ne_of_none e nl) (sl _ _ e)
      rw [List.length_map, F.len, List.take_of_length_le (Nat.le_refl _)] at e2
      have lt := all ds.length
      rw [List.take_of_length_le (Nat.le_refl _)] at lt
      refine ⟨_, rfl, l, ys ++ said ds, L, rfl, .inl (.inl (.inl e2)), by omega, sub, fun st c nst hc hcL => ?_⟩
      have s3 := same_new (o := TsO P w st (among (ys ++ said ds) (ys ++ said ds).length) c) nst
      refine ⟨st, ys ++ said ds, c, rfl, upd_same, by omega, fun zs p mem srt nd _ np => ?_⟩
      have s4 := same_new (o := .lst (zs.map V.str)) np
      refine ⟨p, _, rfl, .inl ⟨.inl (.inl upd_same), fun r nr => ?_⟩⟩
      have s5 := same_new (o := .tup (zs.map V.str)) nr
      exact q r zs _ (((s2.trans s3).trans s4).trans s5) upd_same mem srt nd
end
end K12
set_option Elab.async false
set_option linter.all false
set_option autoImplicit false
set_option maxRecDepth 100000
set_option maxHeartbeats 4000000
namespace K12
open PySem PySem.Spec PyProof.Rows L2 Vb Wd Xd Xo
/-- a scheme as the law writes it: its bare sort, its tops, its forms by name -/
structure PlainAt (H : Hp) (a tl d : Addr) (b : Str) (ts : List Str) (rows : List FD) (kvs : List (L2.Key × V)) : Prop where
  at_ : H a = some (.lst [.str b, .ref tl, .ref d])
  tops : H tl = some (.lst (ts.map V.str))
  dict : H d = some (.dK kvs)
  keys : kvs.map (·.1) = rows.map fun r => Sum.inr r.1
  row : ∀ r ∈ rows, ∃ (p ch : Addr) (ks : List Addr), valV kvs (Sum.inr r.1) = some (.ref p) ∧ H p = some (.tup [.str r.2.1, .ref ch]) ∧ Kids H ch ks r.2.2
  few : rows.length ≤ 40
  nam : ∀ r ∈ rows, isNam (.str r.1) = true ∧ isNam (.str r.2.1) = true
  bare : b.length ≤ 1000
  topl : ts.length ≤ 60 ∧ ∀ y ∈ ts, y.length ≤ 1000
  topj : (Txt.join " " ts).length ≤ 100000
def rowOf (rows : List FD) (y : Str) : FD := (rows.find? fun r => decide (r.1 = y)).getD ("", "", [])
def lineOf (rows : List FD) (y : Str) : Str := lineT (rowOf rows y).1 (rowOf rows y).2.1 (rowOf rows y).2.2
theorem rowOf_mem {rows : List FD} {y : Str} (h : y ∈ rows.map (·.1)) : rowOf rows y ∈ rows ∧ (rowOf rows y).1 = y := by
  obtain ⟨r, hr, rfl⟩ := List.mem_map.mp h
  unfold rowOf
  cases e : rows.find? fun q => decide (q.1 = r.1) with
  | none =>
    have := List.find?_eq_none.mp e r hr
    simp at this
  | some q =>
    have h1 := List.mem_of_find?_eq_some e
    have h2 := List.find?_some e
    exact ⟨h1, by simpa using h2⟩
end K12
set_option Elab.async false
set_option linter.all false
set_option autoImplicit false
set_option maxRecDepth 100000
set_option maxHeartbeats 4000000
/-! Xq: == of two objects of one own class by its __eq__, whatever it answers, in calm room. -/
namespace Xq
open PySem PySem.Spec PyProof.Rows L2 Vb
def rEqO (C : Addr) (sp : Sp) : R2 := fun x y H Q => ∃ (a b dx dy : Addr) (fs gs : List (Str × V)), x = .ref a ∧ y = .ref b ∧ H a = some (.ins C dx fs) ∧ H b = some (.ins C dy gs) ∧ sp [.ref a, .ref b] H (fun v H' => ∃ t, v = .bl t ∧ Q (.bl t) H') E0
section
variable {X : Cx} {k : Nat} {f C : Addr} {fd : FuncData} {ps : List Str} {sp : Sp}
theorem op_eqO (F : FnG X.prog X.w X.K X.mg X.base k f fd ps sp) (hs : PySem.W.findIn X.K (.ref C) "__eq__" = some (some (.ref f))) (hf : PySem.W.isFn X.K (.ref f) = true) (hb : Binds X.K fd ps []) (hc : Calm X.A) (hr : Room k X.A) : OpR X (compareOp .Eq) (rEqO C sp) := by
  intro pins s σ H x y v u Q I rx ry h
  obtain ⟨a, b, dx, dy, fs, gs, rfl, rfl, ha, hb', hq⟩ := h
  cases rx
  cases ry
  obtain ⟨mA, J, _⟩ := ins_get I.hok ha
  obtain ⟨mB, J', _⟩ := ins_get I.hok hb'
  obtain ⟨od, J, _⟩ := J.look
  obtain ⟨od', J', _⟩ := J'.look
  obtain ⟨m, hF⟩ := I.fr
  show wpAny (model X.prog X.w) X.A (richCompare .Eq (.ref a) (.ref b)) (EP X pins σ Q) X.xe s
  refine PySem.W.cmp_K (op := .Eq) (tb := .ref C) hr.units0 hF I.ok.mod.kin J J'.type (by simp [PySem.W.notFirst]) hs hf ?_
  have hl := F.count _ _ _ _ hq
  have bb := hb s [.ref a, .ref b] I.kIn (by rw [List.append_nil]; exact hl)
  rw [List.append_nil] at bb
  refine wpAny_call (codeAny_mono (F.goes X.A X.stack s H ⟨[.ref a, .ref b], []⟩ [.ref a, .ref b] [.ref a, .ref b] _ E0 hc hr I.env0 bb (.cons rfl (.cons rfl .nil)) hq) fun r s' hq' => ?_)
  match r, hq' with
  | .error er, hq' => exact False.elim hq'
  | .ok (.ret w), hq' =>
    obtain ⟨z, H', I', rz, t, ez, q⟩ := I.after hq'
    subst ez
    cases (show w = Value.bool t from rz)
    exact ⟨.bl t, H', I', rfl, q⟩
  | .ok .next, hq' => exact hq'.elim
  | .ok .brk, hq' => exact hq'.elim
  | .ok .cont, hq' => exact hq'.elim
end
end Xq
set_option Elab.async false
set_option linter.all false
set_option autoImplicit false
set_option maxRecDepth 100000
set_option maxHeartbeats 4000000
/-! Xv: the special methods of own classes in calm room: len, str, ==, != and o[i]; class methods; a class held by a local. -/
namespace Xv
open PySem PySem.Spec PyProof.Rows L2 Vb Xd Xo
section
variable {X : Cx} {k : Nat} {f C : Addr} {fd : FuncData} {ps : List Str} {sp : Sp} {E : XK} {W : WX} {pins : List (Addr × Obj)} {σ : L2.St} {H : Hp} {s : Shared} {Q : VK} {us : List Value} {vs : List V}
/-- a def that lets nothing out, entered n builtins deeper -/
theorem run_deep {A : Around} (hA : A.frames = X.A.frames) (F : FnG X.prog X.w X.K X.mg X.base k f fd ps sp) (hc : Calm A) (hr : Room k A) (hb : Binds X.K fd ps []) (I : Inv X pins σ H s) (r : Vals vs us) (h : sp vs H Q E0) : wpAny (model X.prog X.w) A (call (.ref f) us) (EP X pins σ Q) X.xe s := by
  have hl : us.length = ps.length := r.length ▸ F.count _ _ _ _ h
  have b := hb s us I.kIn (by rw [List.append_nil]; exact hl)
  rw [List.append_nil] at b
  have e0 : Env0 X.prog X.w X.K X.mg X.base A X.stack s H := by
    have e := I.env0
    exact ⟨by rw [hA]; exact e.frames, e.mod, e.bs, e.bsz, e.funs, e.frf, e.hok, e.bare⟩
  refine wpAny_call (codeAny_mono (F.goes A X.stack s H ⟨us, []⟩ us vs Q E0 hc hr e0 b r h) fun y s' hq => ?_)
  match y, hq with
  | .error er, hq => exact False.elim hq
  | .ok (.ret u), hq => exact I.after hq
  | .ok .next, hq => exact hq.elim
  | .ok .brk, hq => exact hq.elim
  | .ok .cont, hq => exact hq.elim
/-- .. that may let an error out -/
theorem run_deepE {A : Around} (hA : A.frames = X.A.frames) (F : FnE X.prog X.w X.K X.mg X.base k f fd ps sp) (hc : Calm A) (hr : Room k A) (hb : Binds X.K fd ps []) (tk : Takes X W) (hW : ∀ cls d σ H, E cls d H → W cls d σ H) (I : Inv X pins σ H s) (r : Vals vs us) (h : sp vs H Q E) :
    wpAny (model X.prog X.w) A (call (.ref f) us) (EP X pins σ Q) X.xe s := by
  have hl : us.length = ps.length := r.length ▸ F.count _ _ _ _ h
  have b := hb s us I.kIn (by rw [List.append_nil]; exact hl)
  rw [List.append_nil] at b
  have e0 : Env0 X.prog X.w X.K X.mg X.base A X.stack s H := by
    have e := I.env0
    exact ⟨by rw [hA]; exact e.frames, e.mod, e.bs, e.bsz, e.funs, e.frf, e.hok, e.bare⟩
  refine wpAny_call (codeAny_mono (F.goes A X.stack s H ⟨us, []⟩ us vs Q E hc hr e0 b r h) fun y s' hq => ?_)
  match y, hq with
  | .error er, hq => exact passes_call tk hW pins σ H s er s' I hq
  | .ok (.ret u), hq => exact I.after hq
  | .ok .next, hq => exact hq.elim
  | .ok .brk, hq => exact hq.elim
  | .ok .cont, hq => exact hq.elim
end
section
variable {X : Cx} {k : Nat} {f C : Addr} {fd : FuncData} {ps : List Str} {sp : Sp} {E : XK} {W : WX}
/-- len(o) -/
def rLenO (C : Addr) (sp : Sp) : List V → Hp → VK → Prop := fun xs H Q => ∃ a dx fs, xs = [.ref a] ∧ H a = some (.ins C dx fs) ∧ sp [.ref a] H (fun v H' => ∃ n : Int, v = .int n ∧ 0 ≤ n ∧ n < 2 ^ 63 ∧ Q (.int n) H') E0
theorem call_lenO (F : FnG X.prog X.w X.K X.mg X.base k f fd ps sp) (hs : PySem.W.findIn X.K (.ref C) "__len__" = some (some (.ref f))) (hf : PySem.W.isFn X.K (.ref f) = true) (hb : Binds X.K fd ps []) (hc : Calm X.A) (hr : Room (k + 1) X.A) : CallR X (.builtin "len") (rLenO C sp) := by
  intro pins s σ H xs us Q I r h
  obtain ⟨a, dx, fs, rfl, ha, hq⟩ := h
  obtain ⟨u, rfl, r1⟩ := vals1 r
  cases (show u = Value.ref a from r1)
  obtain ⟨mA, J, _⟩ := ins_get I.hok ha
  obtain ⟨od, J, _⟩ := J.look
  obtain ⟨m, hF⟩ := I.fr
  refine PySem.W.len_K hF I.ok.mod.kin J hs hf (thn (run_deep (vs := [.ref a]) rfl F hc hr.in1 hb I (.cons rfl .nil) hq) fun v s' hv => ?_)
  obtain ⟨z, H', I', rz, n, ez, n0, n1, q⟩ := hv
  subst ez
  obtain ⟨t, rfl⟩ := (show ∃ t, v = Value.int n t from rz)
  exact ⟨⟨n0, n1⟩, .int n, H', I'.tok _, ⟨_, rfl⟩, q⟩
/-- str(o) -/
def rStrO (C : Addr) (sp : Sp) : List V → Hp → VK → Prop := fun xs H Q => ∃ a dx fs, xs = [.ref a] ∧ H a = some (.ins C dx fs) ∧ sp [.ref a] H (fun v H' => ∃ z : Str, v = .str z ∧ Q (.str z) H') E0
theorem call_strO (F : FnG X.prog X.w X.K X.mg X.base k f fd ps sp) (hs : PySem.W.findIn X.K (.ref C) "__str__" = some (some (.ref f))) (hf : PySem.W.isFn X.K (.ref f) = true) (hb : Binds X.K fd ps []) (hc : Calm X.A) (hr : Room (k + 2) X.A) : CallR X (.type "str") (rStrO C sp) := by
  intro pins s σ H xs us Q I r h
  obtain ⟨a, dx, fs, rfl, ha, hq⟩ := h
  obtain ⟨u, rfl, r1⟩ := vals1 r
  cases (show u = Value.ref a from r1)
  obtain ⟨mA, J, _⟩ := ins_get I.hok ha
  obtain ⟨od, J, _⟩ := J.look
  have hr2 : Room k X.A.in1.in1 := (show Room (k + 1) X.A.in1 from hr.in1).in1
  refine PySem.W.kso_call hr2.units0 I.kIn J hs hf (thn (run_deep (vs := [.ref a]) rfl F hc hr2 hb I (.cons rfl .nil) hq) fun v s' hv => ?_)
  obtain ⟨z, H', I', rz, y, ez, q⟩ := hv
  subst ez
  obtain ⟨t, rfl⟩ := (show ∃ t, v = Value.str y t from rz)
  exact ⟨.str y, H', I', ⟨_, rfl⟩, q⟩
/-- o == v, v of any known kind -/
def rEqA (K : PySem.W.Frag) (C : Addr) (sp : Sp) : R2 := fun x y H Q => ∃ (a dx : Addr) (fs : List (Str × V)) (tb : Value), x = .ref a ∧ H a = some (.ins C dx fs) ∧ TyX K H y tb ∧ PySem.W.notFirst K C tb = true ∧ sp [.ref a, y] H (fun v H' => ∃ t, v = .bl t ∧ Q (.bl t) H') E0
theorem looks_ty {X : Cx} {pins : List (Addr × Obj)} {σ : L2.St} {H : Hp} {s : Shared} {x : V} {u t : Value} (I : Inv X pins σ H s) (rx : RelV x u) (ty : TyX X.K H x t) : PySem.W.Looks (model X.prog X.w) s.heap (typeOf u) t := by
  obtain ⟨P, Z, p, _⟩ := kit_of I rx ty
  exact Z.ty _ _ I.kIn p
theorem op_eqA (F : FnG X.prog X.w X.K X.mg X.base k f fd ps sp) (hs : PySem.W.findIn X.K (.ref C) "__eq__" = some (some (.ref f))) (hf : PySem.W.isFn X.K (.ref f) = true) (hb : Binds X.K fd ps []) (hc : Calm X.A) (hr : Room k X.A) : OpR X (compareOp .Eq) (rEqA X.K C sp) := by
  intro pins s σ H x y v u Q I rx ry h
  obtain ⟨a, dx, fs, tb, rfl, ha, ty, nf, hq⟩ := h
  cases rx
  obtain ⟨mA, J, _⟩ := ins_get I.hok ha
  obtain ⟨od, J, _⟩ := J.look
  obtain ⟨m, hF⟩ := I.fr
  show wpAny (model X.prog X.w) X.A (richCompare .Eq (.ref a) u) (EP X pins σ Q) X.xe s
  refine PySem.W.cmp_K (op := .Eq) (tb := tb) hr.units0 hF I.ok.mod.kin J (looks_ty I ry ty) nf hs hf (thn (run_deep (vs := [.ref a, y]) rfl F hc hr hb I (.cons rfl (.cons ry .nil)) hq) fun v s' hv => ?_)
  obtain ⟨z, H', I', rz, t, ez, q⟩ := hv
  subst ez
  cases (show v = Value.bool t from rz)
  exact ⟨.bl t, H', I', rfl, q⟩
end
/-! ### != of two objects whose class has an own == and no own != -/
open Builtin in
theorem ifBoundB {M : Model} {A : Around} {E : Value → Shared → Prop} {s : Shared} {K : PySem.W.Frag} {x C : Addr} {ox : Obj} {od : Option Obj} {name : Str} {id : String} {args : List Value} {Q : Option Value → Shared → Prop} (KX : K.In s.heap) (J : PySem.W.InstAt s.heap x ox C od)
    (hs : PySem.W.findIn K (.ref C) name = some (some (.builtin id))) (hb : ∀ self, bindSpecial (.builtin id) self = pure (.builtin id, [self])) (h : wpAny M A (call (.builtin id) (.ref x :: args)) (fun v => Q (some v)) E s) : wpAny M A (callSpecialIfBound? (.ref x) name args) Q E s := by
  unfold callSpecialIfBound? bindSpecialIfBound?
  have done_ : wpAny M A (call (.builtin id) ([.ref x] ++ args) >>= fun v => pure (some v)) Q E s := wpAny_bind (thn h fun v s' z => wpAny_pure z)
  refine wpAny_holding (wpAny_bind (wpAny_bind (wpAny_bind (J.type.here ((PySem.W.looks_findIn KX hs).here (wpAny_bind (wpAny_askSetting (wpAny_ite ?_))))))))
  have bd : PySem.W.Looks M s.heap (bindSpecial (.builtin id) (.ref x)) (.builtin id, [.ref x]) := PySem.W.Looks.of_pure (hb _)
  split
  · exact wpAny_bind (bd.here (wpAny_pure done_))
  · exact wpAny_tryCatch (wpAny_bind (bd.here (wpAny_pure done_)))
open Builtin in
theorem ne_in {P : Program} {w : World} {A : Around} {E : Value → Shared → Prop} {s : Shared} {K : PySem.W.Frag} {x C f : Addr} {b : Value} {ox : Obj} {od : Option Obj} {Q : PySem.Fin → Shared → Prop} (hu : A.units < cLine) (KX : K.In s.heap) (J : PySem.W.InstAt s.heap x ox C od)
    (he : PySem.W.findIn K (.ref C) "__eq__" = some (some (.ref f))) (hf : PySem.W.isFn K (.ref f) = true) (h : wpAny (model P w) A (call (.ref f) [.ref x, b]) (fun v s' => ∃ t, v = .bool t ∧ Q (.done (.ret (.bool (!t)))) s') E s) :
    wpAny (model P w) A (Builtin.«object.__ne__» ⟨[.ref x, b], []⟩) Q E s := by
  have back : ∀ r s', (∃ t, r = Value.bool t ∧ Q (.done (.ret (.bool (!t)))) s') → wpAny (model P w) A (match (some r : Option Value) with
      | some Value.notImplemented => ret Value.notImplemented
      | none => ret Value.notImplemented
      | some r => do
        let t ← truthy r
        ret (Value.bool !t)) Q E s' := fun r s' hr => by
    obtain ⟨t, rfl, hq⟩ := hr
    exact wpAny_bind (wpAny_truthy_bool (wpAny_pure hq))
  unfold Builtin.«object.__ne__»
  refine wpAny_bind (m := slotArgs "__ne__" 1 _) (wpAny_pure ?_)
  refine wpAny_bind (wpAny_cRoomFor hu ?_)
  exact wpAny_bind (m := callSpecialIfBound? (.ref x) (Str.ofString "__eq__") [b]) (PySem.W.ifBound_K KX J he hf (thn h back))
theorem ne_call {P : Program} {w : World} {A : Around} {E : Value → Shared → Prop} {s : Shared} {K : PySem.W.Frag} {x C f : Addr} {b : Value} {ox : Obj} {od : Option Obj} {Q : Value → Shared → Prop} (hu : A.in1.units < cLine) (KX : K.In s.heap) (J : PySem.W.InstAt s.heap x ox C od) (hm : PySem.W.mroIn K C (.type "object") = some true)
    (he : PySem.W.findIn K (.ref C) "__eq__" = some (some (.ref f))) (hf : PySem.W.isFn K (.ref f) = true) (h : wpAny (model P w) A.in1 (call (.ref f) [.ref x, b]) (fun v s' => ∃ t, v = .bool t ∧ Q (.bool (!t)) s') E s) :
    wpAny (model P w) A (call (.builtin "object.__ne__") [.ref x, b]) Q E s := by
  refine wpAny_call (codeAny_call_builtin PySem.F.cmp_object.ne.plain PySem.F.cmpEntry_ne (PySem.W.check_slot (i := "object.__ne__") (owner := "object") (n := "__ne__") PySem.F.cmpKind_ne PySem.F.cmpSplit_ne (J.type.andThen (PySem.W.looks_mroIn KX hm)) (PySem.F.cmpArgs_ne _ _) ?_))
  exact ne_in hu KX J he hf (thn h fun v s' hv => by
    obtain ⟨t, e, q⟩ := hv
    exact ⟨t, e, q⟩)
/-- o != p, of one class -/
def rNeO (C : Addr) (sp : Sp) : R2 := fun x y H Q => ∃ (a b dx dy : Addr) (fs gs : List (Str × V)), x = .ref a ∧ y = .ref b ∧ H a = some (.ins C dx fs) ∧ H b = some (.ins C dy gs) ∧ sp [.ref a, .ref b] H (fun v H' => ∃ t, v = .bl t ∧ Q (.bl (!t)) H') E0
section
variable {X : Cx} {k : Nat} {f C : Addr} {fd : FuncData} {ps : List Str} {sp : Sp}
theorem op_neO (F : FnG X.prog X.w X.K X.mg X.base k f fd ps sp) (hs : PySem.W.findIn X.K (.ref C) "__eq__" = some (some (.ref f))) (hf : PySem.W.isFn X.K (.ref f) = true) (hn : PySem.W.findIn X.K (.ref C) "__ne__" = some (some (.builtin "object.__ne__")))
    (hm : PySem.W.mroIn X.K C (.type "object") = some true) (hb : Binds X.K fd ps []) (hc : Calm X.A) (hr : Room (k + 1) X.A) : OpR X (compareOp .NotEq) (rNeO C sp) := by
  intro pins s σ H x y v u Q I rx ry h
  obtain ⟨a, b, dx, dy, fs, gs, rfl, rfl, ha, hb', hq⟩ := h
  cases rx
  cases ry
  obtain ⟨mA, J, _⟩ := ins_get I.hok ha
  obtain ⟨mB, J', _⟩ := ins_get I.hok hb'
  obtain ⟨od, J, _⟩ := J.look
  obtain ⟨od', J', _⟩ := J'.look
  have one : wpAny (model X.prog X.w) X.A (tryCompare (.ref a) "__ne__" (.ref b)) (fun r s' => ∃ v, r = some v ∧ EP X pins σ Q v s') X.xe s := by
    unfold tryCompare
    refine wpAny_bind (ifBoundB I.kIn J hn PySem.F.cmp_object.ne.bind (ne_call hr.in1.units0 I.kIn J hm hs hf (thn (run_deep (vs := [.ref a, .ref b]) rfl F hc hr.in1 hb I (.cons rfl (.cons rfl .nil)) hq) fun v s' hv => ?_)))
    obtain ⟨z, H', I', rz, t, ez, q⟩ := hv
    subst ez
    cases (show v = Value.bool t from rz)
    exact ⟨t, rfl, wpAny_pure ⟨_, rfl, .bl (!t), H', I', rfl, q⟩⟩
  show wpAny (model X.prog X.w) X.A (richCompare .NotEq (.ref a) (.ref b)) (EP X pins σ Q) X.xe s
  unfold richCompare
  simp only [oneThing_ref]
  refine wpAny_holding (wpAny_bind (wpAny_cRoomFor hr.units0 ?_))
  refine wpAny_bind (J.type.here (wpAny_bind (J'.type.here ?_)))
  rw [show (Value.ref C != Value.ref C) = false from by simp]
  simp only [Bool.false_eq_true, if_false]
  refine wpAny_bind (wpAny_pure ?_)
  simp only [Bool.false_eq_true, if_false]
  refine wpAny_bind (thn one fun r s' z => ?_)
  obtain ⟨v, rfl, q⟩ := z
  exact wpAny_pure q
/-- o[i], what __getitem__ lets out is taken -/
def tItO (C : Addr) (sp : Sp) (E : XK) (ta tb : TE) : TE := fun σ H Q => ta σ H fun x H1 => tb σ H1 fun y H2 => ∃ a dx fs, x = .ref a ∧ H2 a = some (.ins C dx fs) ∧ sp [.ref a, y] H2 Q E
theorem pe_itemO {W : WX} {E : XK} {o i : Expr} {ta tb : TE} {pos : Pos} (ho : PE X o ta) (hi : PE X i tb) (F : FnE X.prog X.w X.K X.mg X.base k f fd ps sp) (hs : PySem.W.findIn X.K (.ref C) "__getitem__" = some (some (.ref f))) (hfn : PySem.W.fnIn X.K f = true) (hf : PySem.W.isFn X.K (.ref f) = true) (hb : Binds X.K fd ps [])
    (hc : Calm X.A) (hr : Room (k + 1) X.A) (tk : Takes X W) (hW : ∀ cls d σ H, E cls d H → W cls d σ H) (hsl : ∀ (a : Addr) (v : Value), subscripted i true (.ref a) v = runValue (.builtin "lifetime.subscript" ⟨[.ref a, v], []⟩) := by with_unfolding_all (intro _ _; rfl)) :
    PE X (.Subscript o i pos) (tItO C sp E ta tb) := by
  refine ⟨fun pins s σ H Q I h => ?_⟩
  refine Subscript_ (binT ho hi I (R := fun x y H2 => ∃ a dx fs, x = V.ref a ∧ H2 a = some (.ins C dx fs) ∧ sp [.ref a, y] H2 Q E) h fun v u s2 x y H2 I2 rx ry q => ?_)
  obtain ⟨a, dx, fs, rfl, ha, hq⟩ := q
  cases rx
  obtain ⟨mA, J, _⟩ := ins_get I2.hok ha
  obtain ⟨od, J, _⟩ := J.look
  obtain ⟨m, hF⟩ := I2.fr
  exact PySem.W.sub_K hF I2.ok.mod.kin J hs hfn hf (run_deepE (vs := [.ref a, y]) rfl F hc hr.in1 hb tk hW I2 (.cons rfl (.cons ry .nil)) hq) (hsl _ _)
/-- C.m(e, ..), m a class method that may let an error out -/
theorem pe_cmethE {W : WX} {E : XK} {m : Str} {p g : Addr} {mc : Value} {o e : Expr} {es : List Expr} {ta : TE} {t : TA} {pl : Sem Bool} {pos apos : Pos} (he : PE X o ta) (r : ClX.CRead X.K C mc) (c : ClX.CMet X.K C mc m p g) (F : FnE X.prog X.w X.K X.mg X.base k g fd ps sp) (hb : Binds X.K fd ps []) (hc : Calm X.A) (hr : Room k X.A)
    (tk : Takes X W) (hW : ∀ cls d σ H, E cls d H → W cls d σ H) (ha : PA X (e :: es) t) (hst : starEach (e :: es) X.env = (false, eval e X.env) :: starEach es X.env := by rfl) (hpl : (backTo pos (starEach es X.env)).any (·.1) = false := by rfl)
    (ht : eval (.Call (.Attribute o m apos) (e :: es) [] pos) X.env = (do let ov ← eval o X.env; standAt apos.atName; let (f, first) ← holding [ov] (getMethod ov m pl); callWith pos f first (backTo pos (starEach (e :: es) X.env)) (backToKw pos (keywordEach [] X.env))) := by rfl) :
    PE X (.Call (.Attribute o m apos) (e :: es) [] pos) (ClX.tCMeth C sp E ta t) := by
  refine ⟨fun pins s σ H Q I h => PySem.W.methodCall_KW (pl := pl) (thn (he.run pins s σ H _ I h) fun u s1 ⟨x, H1, I1, rx, ex, q⟩ => ?_) ht⟩
  subst ex
  obtain rfl : u = Value.ref C := rx
  refine ClX.getmethcm_ok I1 r c fun s2 I2 => ClX.callwith_cm I2 (ClX.base_none I1 (Nat.le_refl _)) c.fi (thn (ha.run pos _ s2 σ H1 _ I2 q) fun us s3 ⟨vs, H2, I3, rv, q2⟩ => ⟨⟨ClX.pin_at I3, I3.kIn⟩, ?_⟩) hst hpl
  refine thn (Q := EP X ((s1.heap.objs.size, PySem.W.methodObj (.ref g) (.ref C)) :: pins) σ Q) (wpAny_call (PySem.W.method_call (ClX.pin_at I3) ?_)) fun _ _ y => ClX.unpinE y
  have rv' : Vals (V.ref C :: vs) (Value.ref C :: us) := .cons rfl rv
  have hl : (Value.ref C :: us).length = ps.length := rv'.length ▸ F.count _ _ _ _ q2
  have b := hb s3 (Value.ref C :: us) I3.kIn (by rw [List.append_nil]; exact hl)
  rw [List.append_nil] at b
  refine codeAny_mono (F.goes X.A X.stack s3 H2 ⟨Value.ref C :: us, []⟩ _ _ Q E hc hr I3.env0 b rv' q2) fun y s' hq => ?_
  match y, hq with
  | .error er, hq => exact passes_call tk hW _ σ H2 s3 er s' I3 hq
  | .ok (.ret u), hq => exact I3.after hq
  | .ok .next, hq => exact hq.elim
  | .ok .brk, hq => exact hq.elim
  | .ok .cont, hq => exact hq.elim
/-- x(e, ..), x a local that holds the class at C -/
def tMaL (i : Nat) (C : Addr) (sp : Sp) (E : XK) (t : TA) : TE := fun σ H Q => σ[i]? = some (some (.ref C)) ∧ tMaE C sp E t σ H Q
theorem pe_makeL {W : WX} {E : XK} {i : Nat} {x : Str} {q pos : Pos} {e : Expr} {es : List Expr} {t : TA} (M : L2.Mk X.K C f) (F : FnE X.prog X.w X.K X.mg X.base k f fd ps sp) (hc : Calm X.A) (hr : Room (k + 1) X.A) (hN : X.N[i]? = some x) (hv : Vis X.env.scope x) (hb : Binds X.K fd ps []) (tk : Takes X W) (hW : ∀ cls d σ H, E cls d H → W cls d σ H) (ha : PA X (e :: es) t)
    (hdb : (x == ("__debug__" : Str)) = false := by decide) (hcd : (x == ("__classdict__" : Str)) = false := by decide) (he : starEach (e :: es) X.env = (false, eval e X.env) :: starEach es X.env := by rfl) (hpl : (backTo pos (starEach es X.env)).any (·.1) = false := by rfl) : PE X (.Call (.Name x q) (e :: es) [] pos) (tMaL i C sp E t) := by
  refine ⟨fun pins s σ H Q I h => ?_⟩
  obtain ⟨hs, ht⟩ := h
  refine wpAny_Call_Name_kw (thn ((pe_var (pos := q) hN hv hdb hcd).run pins s σ H (fun v H1 => v = .ref C ∧ H1 = H) I ⟨.ref C, hs, rfl, rfl⟩) fun u s1 ⟨v, H1, I1, r1, q1⟩ => ?_)
  obtain ⟨rfl, rfl⟩ := q1
  cases r1
  exact PySem.W.callWith_K (h₀ := X.base) I.ok.mod.kin M.kp (thn (ha.run pos pins s1 σ _ _ I1 ht) fun us s2 ⟨vs, H2, I2, r, q2⟩ => ⟨I2.kIn, makes_inE M F hc hr hb tk hW I2 r q2⟩) he hpl
end
end Xv
set_option Elab.async false
set_option linter.all false
set_option autoImplicit false
set_option maxRecDepth 100000
set_option maxHeartbeats 4000000
namespace K12
open PySem PySem.Spec PyProof.Rows L2 Vb Wd Xd Xo Xq Xv StX
abbrev s_S_lines : Stmt := inB (topS 25) 7
theorem sc_S_lines : FnScope ["self", "forms", "form"] ["self"] (defScope s_S_lines) := ⟨rfl, rfl, rfl, by decide +kernel, rfl, by decide +kernel, by decide +kernel⟩
def fldsS (b : Str) (t bn nm f so : Addr) : List (Str × V) := [("_bare", .str b), ("_tops", .ref t), ("_by_name", .ref bn), ("_names", .ref nm), ("_forms", .ref f), ("_sorts", .ref so)]
def lineF (d : FD) : Str := lineT d.1 d.2.1 d.2.2
def spLinesS (C CS : Addr) : Sp := fun vs H Q _ => ∃ (a dx t bn nm f so : Addr) (b : Str) (ys : List Str) (fs : List Addr) (ds : List FD), vs = [.ref a] ∧ H a = some (.ins CS dx (fldsS b t bn nm f so)) ∧ H t = some (.tup (ys.map V.str)) ∧ H f = some (.tup (fs.map V.ref)) ∧ Forms H C fs ds ∧
  b.length ≤ 1000 ∧ ys.length ≤ 60 ∧ (∀ y ∈ ys, y.length ≤ 1000) ∧ fs.length ≤ 40 ∧ (∀ d ∈ ds, d.1.length ≤ 1000 ∧ d.2.1.length ≤ 1000) ∧
  ∀ (p : Addr) (H' : Hp), Same H H' → H' p = some (.tup ((("bare " ++ b) :: Txt.join " " ("tops" :: ys) :: ds.map lineF).map V.str)) → Q (.ref p) H'
section
variable {P : Program} {w : World} {K : PySem.W.Frag} {mg : Str → Option Value} {base : Heap} {C CS : Addr}
theorem ok_S_lines {f fS : Addr} {fd fdS : FuncData} (F : Fun K "lines" "Scheme.lines" s_S_lines f fd) (T : SchemeC K CS) (FS : FnG P w K mg base 1 fS fdS ["self"] (spStr C)) (eS : PySem.W.findIn K (.ref C) "__str__" = some (some (.ref fS))) (tS : PySem.W.isFn K (.ref fS) = true) (bS : Binds K fdS ["self"] []) (z_str : mg "str" = none) : FnG P w K mg base 4 f fd ["self"] (spLinesS C CS) := by
  refine goes_by F sc_S_lines (fun vs H Q E h => ?_) (fun cdv A outer s H vs Q E hc hr h => ?_)
  · obtain ⟨a, dx, t, bn, nm, f, so, b, ys, fs, ds, rfl, _⟩ := h
    rfl
  · obtain ⟨a, dx, t, bn, nm, f, so, b, ys, fs, ds, rfl, ha, ht, hf, FF, lb, ly, lys, lf, ld, q⟩ := h
    refine ⟨_, (pss_cons (ps_setLc (i := 1) (own := [("form", 2)]) (g := gName 2) (by rfl) sc_S_lines.nd rfl rfl (sw_true rfl rfl rfl (by decide +kernel)) (pi_tup (pe_fld (f := "_forms") (pv 0) (by rfl)))
        (blkOk_by (own := [("form", 2)]) (N := ["self", "forms", "form"]) (sc := defScope s_S_lines) (by decide +kernel)) (fun _ _ _ _ _ => pg_name (i := 2) sc_S_lines.nd rfl (Or.inl rfl)) (fun _ _ _ _ _ => pts_nil)
        (fun _ _ _ _ _ => (pe_callTy (call_strO FS eS tS bS hc (hr.mono (by decide))) (by rfl) z_str (by decide +kernel) (pa_cons (pv 2) pa_nil))))
      (pss_one (ps_ret (pe_tup (pa_cons (pe_joined (.cons pe_str (.cons (pe_fmt (pe_fld (f := "_bare") (pv 0) (by rfl))) .nil))) (pa_cons (pe_join pe_str (pe_lst (pa_cons pe_str (pa_star (pe_fld (f := "_tops") (pv 0) (by rfl)) pa_nil)))) (pa_star (pv 1) pa_nil))))))), ?_⟩
    have big : ∀ {n : Nat}, n ≤ 100 → n < sizeLine := fun h => Nat.lt_of_le_of_lt h (by decide)
    refine ⟨_, rfl, a, CS, dx, _, .ref f, rfl, ha, T.c, T.n "_forms" (by simp), by rfl, f, rfl, ⟨_, .inl (.inl hf)⟩, fun D nD => ?_⟩
    refine lc_tup (K := K) (a := f) (xs := fs.map V.ref) (g := gName 2) (vs := [2]) (fun i H' => Same H H' ∧ H' D = some (.lst (((ds.take i).map lineF).map V.str))) ⟨same_put nD (Same.refl H), upd_same⟩ (fun i H' _ h => .inl (.inl (h.1 _ _ hf))) (fun i x H1 hx h => ?_) (fun H1 h => ?_)
    · obtain ⟨s1, e1⟩ := h
      rw [List.getElem?_map] at hx
      obtain ⟨a', ha', rfl⟩ := Option.map_eq_some_iff.mp hx
      have il : i < ds.length := by
        have := (List.getElem?_eq_some_iff.mp ha').1
        have := FF.len
        omega
      obtain ⟨ch, ts, FA⟩ := FF.at_ i a' ds[i] ha' (List.getElem?_eq_getElem il)
      have hd : ds[i]? = some ds[i] := List.getElem?_eq_getElem il
      generalize ds[i] = d at FA hd
      obtain ⟨h1, h2⟩ := ld d (List.mem_of_getElem? hd)
      have F1 := FA.sm s1
      obtain ⟨⟨dx', fa⟩, _⟩ := id F1
      refine ⟨rfl, _, rfl, a', dx', _, rfl, fa, a', ch, d.1, d.2.1, ts, d.2.2, rfl, F1, h1, h2, fun H2 s2 => ⟨_, rfl, _, s2 _ _ e1, ?_, same_put nD (s1.trans s2), ?_⟩⟩
      · rw [List.length_map, List.length_map, List.length_take]
        have := FF.len
        exact big (by omega)
      · rw [upd_same, List.take_add_one, hd, List.map_append, List.map_append]
        rfl
    · obtain ⟨s1, e1⟩ := h
      rw [List.length_map, FF.len, List.take_of_length_le (Nat.le_refl _)] at e1
      have l5 : ("bare " : Str).length = 5 := by decide +kernel
      have l4 : ("tops" : Str).length = 4 := by decide +kernel
      have l1' : (" " : Str).length = 1 := by decide +kernel
      have tsum := words_sum ys 1000 lys
      have tm : ys.length * 1000 ≤ 60 * 1000 := Nat.mul_le_mul_right _ ly
      refine ⟨"bare ", rfl, by rw [empty_app, l5]; decide, _, rfl, a, CS, dx, _, .str b, rfl, s1 _ _ ha, T.c, T.n "_bare" (by simp), by rfl, .inl ⟨b, rfl, fits_million (by omega), b, rfl, by rw [empty_app, PySem.Str.length_append, l5]; exact fits_million (by omega), ?_⟩⟩
      refine ⟨⟨_, rfl⟩, _, rfl, a, CS, dx, _, .ref t, rfl, s1 _ _ ha, T.c, T.n "_tops" (by simp), by rfl, t, _, rfl, .inl (.inl (.inl (s1 _ _ ht))), ?_, fun p np => ⟨" ", p, "tops" :: ys, rfl, rfl, .inl (.inl (.inl ?_)), ?_, ?_⟩⟩
      · simp only [List.length_cons, List.length_append, List.length_map, List.length_nil]
        exact Nat.le_of_lt (big (by omega))
      · rw [upd_same, List.append_nil]
        rfl
      · simp only [List.map_cons, List.sum_cons, List.length_cons]
        rw [l4, l1']
        omega
      · have sp := same_new (o := .lst (V.str "tops" :: (ys.map V.str ++ []))) np
        have eD := sp _ _ e1
        refine ⟨_, rfl, D, _, rfl, .inr (.inl (.inl eD)), ?_, fun r nr => ?_⟩
        · simp only [List.length_cons, List.length_append, List.length_map, List.length_nil]
          have := FF.len
          exact Nat.le_of_lt (big (by omega))
        · refine q r _ ((s1.trans sp).trans (same_new nr)) ?_
          rw [upd_same, empty_app, List.append_nil]
          rfl
end
end K12
set_option Elab.async false
set_option linter.all false
set_option autoImplicit false
set_option maxRecDepth 100000
set_option maxHeartbeats 4000000
/-! Na: what a search among tuples of any depth asks of them; lists without repetition. -/
namespace Na
open PySem PySem.Spec PyProof.Rows L2 Vb
/-! ### lists without repetition -/
theorem same_count {α : Type} [DecidableEq α] : ∀ (ys out : List α), out.Nodup → (∀ k, k ∈ out ↔ k ∈ ys) → out.length ≤ ys.length ∧ (out.length = ys.length ↔ ys.Nodup)
  | [], out, nd, m => by
    have e : out = [] := List.eq_nil_iff_forall_not_mem.mpr fun k hk => nomatch (m k).mp hk
    subst e
    exact ⟨Nat.le_refl _, fun _ => List.nodup_nil, fun _ => rfl⟩
  | y :: ys, out, nd, m => by
    have few := Ts.nodup_len out (y :: ys) nd fun k hk => (m k).mp hk
    refine ⟨few, fun e => ?_, fun nd' => ?_⟩
    · by_cases hy : y ∈ ys
      · have := Ts.nodup_len out ys nd fun k hk => (List.mem_cons.mp ((m k).mp hk)).elim (fun q => q ▸ hy) id
        rw [List.length_cons] at e
        omega
      · have my : y ∈ out := (m y).mpr List.mem_cons_self
        have nd2 : (out.erase y).Nodup := nd.erase y
        have m2 : ∀ k, k ∈ out.erase y ↔ k ∈ ys := fun k => by
          rw [nd.mem_erase_iff]
          refine ⟨fun ⟨n, h⟩ => (List.mem_cons.mp ((m k).mp h)).resolve_left n, fun h => ⟨fun q => hy (q ▸ h), (m k).mpr (List.mem_cons_of_mem _ h)⟩⟩
        have l2 : (out.erase y).length = ys.length := by
          rw [List.length_erase_of_mem my, e]
          rfl
        exact List.nodup_cons.mpr ⟨hy, ((same_count ys (out.erase y) nd2 m2).2).mp l2⟩
    · exact Nat.le_antisymm few (Ts.nodup_len (y :: ys) out nd' fun k hk => (m k).mpr hk)
/-! ### what is asked of a tuple -/
section
variable {P : Program} {w : World} {s : Shared}
/-- the question f about v is answered by some b of which p is true, and nothing else happens -/
def Ans (P : Program) (w : World) (f : Value → Sem Bool) (s : Shared) (p : Bool → Prop) (v : Value) : Prop := ∀ (A : Around) (E : Value → Shared → Prop) (Q : Bool → Shared → Prop), (∀ b, p b → Q b s) → wpAny (model P w) A (f v) Q E s
theorem cls_of_tup {n m : Nat} {a : Addr} {ob : Obj} {us : Array Value} (eo : s.heap.get? a = some ob) (ec : ob.cls = .type "tuple") (ed : ob.data = .seq us m) (all : ∀ u ∈ us.toList, Ans P w (ofAClassStatement n) s (· = false) u) :
    Ans P w (ofAClassStatement (n + 1)) s (· = false) (.ref a) := fun A E Q q => by
  have ty : s.TypeIs (.ref a) "tuple" := ⟨ob, eo, ec⟩
  unfold ofAClassStatement
  refine wpAny_bind (wpAny_typeOf ty ?_)
  dsimp only
  simp only [beq_self_eq_true, if_true]
  refine wpAny_bind (wpAny_pure ?_)
  simp only [Bool.not_true, Bool.false_eq_true, if_false]
  show wpAny _ _ (seqItems? (.ref a) >>= _) _ _ s
  refine wpAny_bind (wpAny_seqItems eo ed ?_)
  dsimp only
  refine wpAny_bind ?_
  show wpAny _ _ (forIn us _ _) _ _ s
  rw [← Array.forIn_toList]
  refine wpAny_forIn_list _ (fun l r s1 => s1 = s ∧ r.1 = none ∧ ∀ u ∈ l, Ans P w (ofAClassStatement n) s (· = false) u) _ ?_ ?_ _ _ ⟨rfl, rfl, all⟩
  · rintro u l r s1 ⟨rfl, er, h⟩
    refine wpAny_bind (h u List.mem_cons_self A _ _ fun b hb => ?_)
    subst hb
    simp only [Bool.false_eq_true, if_false]
    exact wpAny_pure ⟨rfl, rfl, fun u' hu => h u' (List.mem_cons_of_mem _ hu)⟩
  · rintro ⟨r1, r2⟩ s1 ⟨rfl, er, _⟩
    simp only at er
    subst er
    exact wpAny_pure (q false rfl)
theorem val_of_tup {n m : Nat} {a : Addr} {ob : Obj} {us : Array Value} (eo : s.heap.get? a = some ob) (ec : ob.cls = .type "tuple") (ed : ob.data = .seq us m) (all : ∀ u ∈ us.toList, Ans P w (hashByValue n) s (fun _ => True) u) :
    Ans P w (hashByValue (n + 1)) s (fun _ => True) (.ref a) := fun A E Q q => by
  have ty : s.TypeIs (.ref a) "tuple" := ⟨ob, eo, ec⟩
  unfold hashByValue
  refine wpAny_bind (wpAny_specialOf ty PySem.F.slot_tuple_hash.lookup ?_)
  show wpAny _ _ (seqItems? (.ref a) >>= _) _ _ s
  refine wpAny_bind (wpAny_seqItems eo ed (wpAny_bind ?_))
  show wpAny _ _ (forIn us _ _) _ _ s
  rw [← Array.forIn_toList]
  refine wpAny_forIn_list _ (fun l r s1 => s1 = s ∧ r.1 = none ∧ ∀ u ∈ l, Ans P w (hashByValue n) s (fun _ => True) u) _ ?_ ?_ _ _ ⟨rfl, rfl, all⟩
  · rintro u l r s1 ⟨rfl, er, h⟩
    refine wpAny_bind (h u List.mem_cons_self A _ _ fun b _ => ?_)
    cases b with
    | true =>
      simp only [Bool.not_true, Bool.false_eq_true, if_false]
      exact wpAny_pure ⟨rfl, rfl, fun u' hu => h u' (List.mem_cons_of_mem _ hu)⟩
    | false =>
      simp only [Bool.not_false, if_true]
      exact wpAny_pure (wpAny_pure (q false trivial))
  · rintro ⟨r1, r2⟩ s1 ⟨rfl, er, _⟩
    simp only at er
    subst er
    exact wpAny_pure (q true trivial)
theorem cls_flat (n : Nat) {v : Value} (h : ∀ a, v ≠ .ref a) : Ans P w (ofAClassStatement n) s (· = false) v := fun A E Q q => by
  have e : ofAClassStatement n v = pure false := by
    cases v with
    | ref a => exact absurd rfl (h a)
    | _ => cases n <;> rfl
  rw [e]
  exact wpAny_pure (q false rfl)
mutual
theorem cls_key : ∀ (k : NestedKey) (v : Value) (n : Nat), NestedIs s.heap k v → k.depth ≤ n → Ans P w (ofAClassStatement n) s (· = false) v
  | .none, _, n, x, _ => by cases x; exact cls_flat n fun a z => nomatch z
  | .num _, _, n, x, _ => by cases x <;> exact cls_flat n fun a z => nomatch z
  | .text _, _, n, x, _ => by cases x; exact cls_flat n fun a z => nomatch z
  | .tup ks, _, n, x, d => by
    cases x with
    | tup eo ec ed al =>
      simp only [NestedKey.depth] at d
      cases n with
      | zero => omega
      | succ n => exact cls_of_tup eo ec ed (cls_keys ks _ n al (by omega))
theorem cls_keys : ∀ (ks : List NestedKey) (us : List Value) (n : Nat), NestedAll s.heap ks us → NestedKey.depthAll ks ≤ n → ∀ u ∈ us, Ans P w (ofAClassStatement n) s (· = false) u
  | [], _, _, x, _, u, hu => by cases x; cases hu
  | k :: ks, _, n, x, d, u, hu => by
    cases x with
    | cons x1 x2 =>
      simp only [NestedKey.depthAll] at d
      rcases List.mem_cons.mp hu with rfl | hu
      · exact cls_key k _ n x1 (by omega)
      · exact cls_keys ks _ n x2 (by omega) u hu
end
mutual
theorem val_key : ∀ (k : NestedKey) (v : Value) (n : Nat), NestedIs s.heap k v → k.depth ≤ n → Ans P w (hashByValue n) s (fun _ => True) v
  | .none, _, n, x, _ => by
    cases x
    exact fun A E Q q => by cases n <;> exact wpAny_pure (q true trivial)
  | .num _, _, n, x, _ => by cases x <;> exact fun A E Q q => by cases n <;> exact wpAny_pure (q true trivial)
  | .text _, _, n, x, _ => by
    cases x
    exact fun A E Q q => by cases n <;> exact wpAny_pure (q false trivial)
  | .tup ks, _, n, x, d => by
    cases x with
    | tup eo ec ed al =>
      simp only [NestedKey.depth] at d
      cases n with
      | zero => omega
      | succ n => exact val_of_tup eo ec ed (val_keys ks _ n al (by omega))
theorem val_keys : ∀ (ks : List NestedKey) (us : List Value) (n : Nat), NestedAll s.heap ks us → NestedKey.depthAll ks ≤ n → ∀ u ∈ us, Ans P w (hashByValue n) s (fun _ => True) u
  | [], _, _, x, _, u, hu => by cases x; cases hu
  | k :: ks, _, n, x, d, u, hu => by
    cases x with
    | cons x1 x2 =>
      simp only [NestedKey.depthAll] at d
      rcases List.mem_cons.mp hu with rfl | hu
      · exact val_key k _ n x1 (by omega)
      · exact val_keys ks _ n x2 (by omega) u hu
end
/-- the key k, a tuple, stands at b -/
def Key (h : Heap) (k : NestedKey) (b : Addr) : Prop := NestedIs h k (.ref b) ∧ k.depth ≤ 8
theorem Key.at {h h' : Heap} {k : NestedKey} {b : Addr} (x : Key h k b) (hk : ∀ c o us n, h.get? c = some o → o.data = .seq us n → h'.get? c = some o) : Key h' k b := ⟨x.1.at hk k _, x.2⟩
theorem Key.ext {h h' : Heap} {k : NestedKey} {b : Addr} (x : Key h k b) (hk : ∀ c o, h.get? c = some o → h'.get? c = some o) : Key h' k b := x.at fun c o _ _ e _ => hk c o e
theorem Key.but {h h' : Heap} {k : NestedKey} {a b : Addr} {ob : Obj} {es : Array (Int × Value)} {ep : Nat} {t : SetTable} (x : Key h k b) (eo : h.get? a = some ob) (ed : ob.data = .set es ep t) (sb : Heap.SameBut a h h') : Key h' k b :=
  x.at fun c o us n e d => (sb.2 c fun z => by
    rw [z, eo] at e
    cases e
    rw [ed] at d
    cases d).trans e
/-- a search among tuples shows nothing -/
theorem unseen {A : Around} {E : Value → Shared → Prop} {Q : Bool → Shared → Prop} {k : NestedKey} {b : Addr} (x : Key s.heap k b) {ys : List Value} (hy : ∀ y ∈ ys, ∃ k' c, y = Value.ref c ∧ Key s.heap k' c) (q : Q false s) : wpAny (model P w) A (searchCouldBeSeen (.ref b) ys) Q E s := by
  unfold searchCouldBeSeen
  refine wpAny_bind ?_
  refine wpAny_forIn_list _ (fun l r s1 => s1 = s ∧ r.1 = none ∧ ∀ y ∈ l, ∃ k' c, y = Value.ref c ∧ Key s.heap k' c) _ ?_ ?_ _ _ ⟨rfl, rfl, hy⟩
  · rintro y l r s1 ⟨rfl, er, h⟩
    obtain ⟨k', c, rfl, xc⟩ := h y List.mem_cons_self
    have h' : ∀ y ∈ l, ∃ k' c, y = Value.ref c ∧ Key s1.heap k' c := fun u hu => h u (List.mem_cons_of_mem _ hu)
    dsimp only
    by_cases same : (b == c || (carriedByValue (.ref b) && carriedByValue (.ref c))) = true
    · exact wp_if_pos same (wpAny_pure ⟨rfl, rfl, h'⟩)
    · refine wp_if_neg same (wpAny_bind ((nestedKind P w).quiet x ?_))
      simp only [Bool.not_true, Bool.false_eq_true, if_false]
      refine wpAny_bind ((nestedKind P w).quiet xc ?_)
      simp only [Bool.not_true, Bool.false_eq_true, if_false]
      refine wpAny_bind (cls_key k _ 8 x.1 x.2 A _ _ fun b1 e1 => ?_)
      subst e1
      simp only [Bool.false_eq_true, if_false]
      refine wpAny_bind (cls_key k' _ 8 xc.1 xc.2 A _ _ fun b1 e1 => ?_)
      subst e1
      simp only [Bool.false_eq_true, if_false]
      exact wpAny_pure ⟨rfl, rfl, h'⟩
  · rintro ⟨r1, r2⟩ s1 ⟨rfl, er, _⟩
    simp only at er
    subst er
    exact wpAny_pure q
end
end Na
set_option Elab.async false
set_option linter.all false
set_option autoImplicit false
set_option maxRecDepth 100000
set_option maxHeartbeats 4000000
/-! Nb: the table of a set of tuples of any depth: a search in it, one more put in, the table laid anew. -/
namespace Nb
open PySem PySem.Spec PyProof.Rows L2 Vb Na
section
variable {P : Program} {w : World} {A : Around} {E : Value → Shared → Prop} {s : Shared}
abbrev Mem := NestedKey × Addr
def ents (w : World) (ms : List Mem) : List (Int × Value) := ms.map fun m => (m.1.hash w, Value.ref m.2)
def hshs (w : World) (ms : List Mem) : List Int := ms.map fun m => m.1.hash w
/-- the state of a search behind c steps -/
def stn (m : Nat) (h : Int) (c : Nat) : SetTable.Probe := nth m (runAt m (SetTable.bits h % (m + 1)) (SetTable.bits h)) c
theorem stn_j (m : Nat) (h : Int) (c : Nat) : (stn m h c).j = way m h c := rfl
theorem stn_add (m : Nat) (h : Int) (c q : Nat) : nth m (stn m h c) q = stn m h (c + q) := (nth_add m c _ q).symm
theorem nth_dummy (m : Nat) : ∀ (n : Nat) (p : SetTable.Probe), p.dummy = none → (nth m p n).dummy = none
  | 0, _, h => h
  | n + 1, p, h => nth_dummy m n (adv m p) (by
      unfold adv
      split <;> exact h)
theorem stn_dummy (m : Nat) (h : Int) (c : Nat) : (stn m h c).dummy = none := nth_dummy m c _ rfl
/-- the set at a has just the keys of ms, each once -/
structure Tab (w : World) (h : Heap) (a : Addr) (ms : List Mem) (es : Array (Int × Value)) (ep : Nat) (t : SetTable) : Prop where
  obj : ∃ ob, h.get? a = some ob ∧ ob.ExactSet ∧ ob.data = .set es ep t
  rows : es.toList = ents w ms
  tab : TabOk t (hshs w ms)
  once : (ms.map (·.1)).Nodup
  keys : ∀ m ∈ ms, Key h m.1 m.2
  room : ms.length * 5 < t.mask * 3
  few : ms.length < 64
variable {a : Addr} {ms : List Mem} {es : Array (Int × Value)} {ep : Nat} {t : SetTable}
theorem ents_len (w : World) (ms : List Mem) : (ents w ms).length = ms.length := List.length_map ..
theorem hshs_len (w : World) (ms : List Mem) : (hshs w ms).length = ms.length := List.length_map ..
theorem Tab.size (T : Tab w s.heap a ms es ep t) : es.size = ms.length := by
  rw [← Array.length_toList, T.rows, ents_len]
theorem Tab.psize (T : Tab w s.heap a ms es ep t) : t.place.size = ms.length := T.tab.sz.trans (hshs_len w ms)
theorem fits_of {t : SetTable} {n : Nat} (dm : t.dummies = #[]) (p : t.place.size = n) (h : n ≤ t.mask) : t.fits n = true := by
  unfold SetTable.fits SetTable.fill
  rw [dm, p]
  simp only [List.size_toArray, List.length_nil, Nat.add_zero, beq_self_eq_true, Bool.true_and, decide_eq_true_eq]
  exact h
theorem Tab.fit (T : Tab w s.heap a ms es ep t) : t.fits es.size = true := fits_of T.tab.dm (T.psize.trans T.size.symm) (by
  have := T.room
  have := T.size
  omega)
theorem Tab.row (T : Tab w s.heap a ms es ep t) {i : Nat} {m : Mem} (e : ms[i]? = some m) : es[i]? = some (m.1.hash w, Value.ref m.2) := by
  have q : es.toList[i]? = some (m.1.hash w, Value.ref m.2) := by
    rw [T.rows]
    show (ms.map _)[i]? = _
    rw [List.getElem?_map, e]
    rfl
  rw [Array.getElem?_toList] at q
  exact q
theorem Tab.stays (T : Tab w s.heap a ms es ep t) : ¬ t.gaveWay = true := by
  unfold SetTable.gaveWay
  rw [mask_odd T.tab.mok]
  decide
/-- the search, c steps behind its start -/
theorem look_from (T : Tab w s.heap a ms es ep t) {k : NestedKey} {b : Addr} (x : Key s.heap k b) (hu : A.units + 8 < cLine) {z : Nat} (lz : z < 10 * SetTable.turns t.mask) (free : way t.mask (k.hash w) z ∉ t.place.toList) (full : ∀ c, c < z → way t.mask (k.hash w) c ∈ t.place.toList)
    {Q : SetFound → Shared → Prop} (there : k ∈ ms.map (·.1) → Q (.there none) s) (gone : k ∉ ms.map (·.1) → Q (.free (way t.mask (k.hash w) z) false) s) :
    ∀ (f c : Nat) (p : Option SetTable.Probe), p.getD (t.probeStart (k.hash w)) = stn t.mask (k.hash w) c → c ≤ z → z < f + c → (∀ (i : Nat) (m : Mem), ms[i]? = some m → m.1 = k → ∃ c', c ≤ c' ∧ c' < z ∧ t.place.toList[i]? = some (way t.mask (k.hash w) c')) →
      wpAny (model P w) A (setSearchFrom a (.ref b) (k.hash w) true f p) Q E s := by
  intro f
  induction f with
  | zero =>
    intro c p _ h1 h2 _
    omega
  | succ f again =>
    intro c p ep0 hc hf ahead
    obtain ⟨ob, eo, _, ed⟩ := T.obj
    have hashAt : ∀ (i : Nat) (m : Mem), ms[i]? = some m → (es[i]?.map (·.1)).getD 0 = m.1.hash w := fun i m e => by
      rw [T.row e]
      rfl
    have onway : ∀ q, (nth t.mask (stn t.mask (k.hash w) c) q).j = way t.mask (k.hash w) (c + q) := fun q => by
      rw [stn_add]
      rfl
    have spec := go_spec t T.tab.ris T.tab.dm (fun i => (es[i]?.map (·.1)).getD 0) (k.hash w) (10 * SetTable.turns t.mask) (z - c) (stn t.mask (k.hash w) c) (stn_dummy ..) (by omega)
      (fun q hq => by
        rw [onway]
        exact full _ (by omega))
      (by
        rw [onway, show c + (z - c) = z by omega]
        exact free)
    rw [setSearchFrom_succ]
    refine wpAny_bind (wpAny_setState_of eo ed T.fit ?_)
    dsimp only
    refine wp_if_neg T.stays ?_
    refine wpAny_bind (wpAny_pure ?_)
    rcases spec with ⟨q, i, hq, pi, _, earlier, found⟩ | ⟨never, found⟩
    · -- what has the same hash
      rw [onway] at pi
      have met : t.probe (fun i => (es[i]?.map (·.1)).getD 0) (k.hash w) (p.getD (t.probeStart (k.hash w))) = some (.candidate (way t.mask (k.hash w) (c + q)) i (stn t.mask (k.hash w) (c + (q + 1)))) := by
        rw [ep0, ← onway, ← stn_add]
        exact found
      rw [met]
      dsimp only
      have il : i < ms.length := by
        have h1 := (List.getElem?_eq_some_iff.mp pi).1
        have h2 := T.psize
        rw [Array.length_toList] at h1
        omega
      have em : ms[i]? = some ms[i] := List.getElem?_eq_getElem il
      generalize ms[i] = m at em
      have mm : m ∈ ms := List.mem_of_getElem? em
      have live : t.slot (way t.mask (k.hash w) (c + q)) = .live i := slot_live T.tab.ris pi
      have behind : wpAny (model P w) A (searchRest a (.ref b) (k.hash w) true f es t (way t.mask (k.hash w) (c + q)) i (stn t.mask (k.hash w) (c + (q + 1)))) Q E s := by
        unfold searchRest
        rw [T.row em]
        dsimp only
        refine wpAny_bind (wpAny_holding ((nestedKind P w).eqBool hu (T.keys m mm) x ?_))
        refine wpAny_bind (wpAny_setState_of eo ed T.fit ?_)
        dsimp only
        by_cases same : m.1 = k
        · refine wp_if_pos (by simp [same]) (wpAny_pure (there ?_))
          exact List.mem_map.mpr ⟨m, mm, same⟩
        · refine wp_if_neg (by simp [same]) ?_
          refine wpAny_bind (wpAny_pure ?_)
          rw [sameMem]
          dsimp only
          simp only [if_true, live, T.row em]
          refine wpAny_bind (wpAny_isSame_ref_self (wpAny_bind (wpAny_pure ?_)))
          simp only [if_true]
          refine wp_if_neg (by simp [same]) (again (c + (q + 1)) _ rfl (by omega) (by omega) fun i' m' e' k' => ?_)
          obtain ⟨c', l1, l2, pc⟩ := ahead i' m' e' k'
          refine ⟨c', ?_, l2, pc⟩
          rcases Nat.lt_trichotomy c' (c + q) with g | g | g
          · refine absurd ((hashAt i' m' e').trans (congrArg (NestedKey.hash w) k')) (earlier (c' - c) i' (by omega) ?_)
            rw [onway, show c + (c' - c) = c' by omega]
            exact pc
          · rw [g] at pc
            have l' := slot_live T.tab.ris pc
            rw [live] at l'
            cases l'
            cases em.symm.trans e'
            exact absurd k' same
          · omega
      by_cases led : t.led = true
      · refine wp_if_neg (by simp [led]) ?_
        exact wpAny_bind (wpAny_pure behind)
      · refine wp_if_pos (by simp [led]) (wpAny_bind (unseen x (fun y hy => ?_) ?_))
        · obtain ⟨e, he, rfl⟩ := List.mem_map.mp hy
          have he' : e ∈ es ∧ e.1 = k.hash w := by simpa using he
          have he2 : e ∈ ents w ms := by
            rw [← T.rows]
            simpa using he'.1
          obtain ⟨m', hm', rfl⟩ := List.mem_map.mp he2
          exact ⟨m'.1, m'.2, rfl, T.keys m' hm'⟩
        · refine wp_if_neg (by decide) ?_
          exact wpAny_bind (wpAny_pure behind)
    · -- the first free place
      have met : t.probe (fun i => (es[i]?.map (·.1)).getD 0) (k.hash w) (p.getD (t.probeStart (k.hash w))) = some (.empty (way t.mask (k.hash w) z) none) := by
        have e2 := onway (z - c)
        rw [show c + (z - c) = z by omega] at e2
        rw [ep0, ← e2]
        exact found
      rw [met]
      dsimp only
      refine wpAny_pure (gone fun mem => ?_)
      obtain ⟨m, hm, ek⟩ := List.mem_map.mp mem
      obtain ⟨i, il, e⟩ := List.getElem_of_mem hm
      have ei : ms[i]? = some m := by rw [List.getElem?_eq_getElem il, e]
      obtain ⟨c', l1, l2, pc⟩ := ahead i m ei ek
      refine never (c' - c) i (by omega) ?_ ((hashAt i m ei).trans (congrArg (NestedKey.hash w) ek))
      rw [onway, show c + (c' - c) = c' by omega]
      exact pc
/-- the search ahead of putting in -/
theorem look (T : Tab w s.heap a ms es ep t) {k : NestedKey} {b : Addr} (x : Key s.heap k b) (hu : A.units + 8 < cLine) {Q : SetFound → Shared → Prop} (there : k ∈ ms.map (·.1) → Q (.there none) s)
    (gone : ∀ z, k ∉ ms.map (·.1) → way t.mask (k.hash w) z ∉ t.place.toList → (∀ c, c < z → way t.mask (k.hash w) c ∈ t.place.toList) → Q (.free (way t.mask (k.hash w) z) false) s) : wpAny (model P w) A (setSearch a (.ref b) (k.hash w) true) Q E s := by
  have room := T.room
  obtain ⟨z, lz, free, full⟩ := T.tab.first (by
    rw [hshs_len]
    omega) (k.hash w)
  have turns : 10 * SetTable.turns t.mask < 100000 := by
    unfold SetTable.turns
    rcases T.tab.mok with e | e | e <;> omega
  unfold setSearch
  refine look_from T x hu lz free full there (fun n => gone z n free full) 100000 0 none rfl (Nat.zero_le _) (by omega) fun i m em ek => ?_
  have hi : (hshs w ms)[i]? = some (k.hash w) := by
    show (ms.map _)[i]? = _
    rw [List.getElem?_map, em, ← ek]
    rfl
  have il : i < t.place.toList.length := by
    have h1 := (List.getElem?_eq_some_iff.mp em).1
    have h2 := T.psize
    rw [Array.length_toList]
    omega
  obtain ⟨c, hc, e⟩ := T.tab.before free hi (List.getElem?_eq_getElem il)
  exact ⟨c, Nat.zero_le _, hc, by rw [List.getElem?_eq_getElem il, e]⟩
/-! ### one more -/
theorem ents_put (ms : List Mem) (p : Nat) (m : Mem) : ents w (ms.take p ++ m :: ms.drop p) = (ents w ms).take p ++ (m.1.hash w, Value.ref m.2) :: (ents w ms).drop p := by
  simp [ents, List.map_take, List.map_drop]
theorem hshs_put (ms : List Mem) (p : Nat) (m : Mem) : hshs w (ms.take p ++ m :: ms.drop p) = (hshs w ms).take p ++ m.1.hash w :: (hshs w ms).drop p := by
  simp [hshs, List.map_take, List.map_drop]
theorem picked {α : Type} (l : List α) : ∀ n, n ≤ l.length → (List.range n).filterMap (fun i => l[i]?) = l.take n
  | 0, _ => rfl
  | n + 1, h => by
    have lt : n < l.length := h
    rw [List.range_succ, List.filterMap_append, picked l n (Nat.le_of_lt lt), List.take_add_one, List.getElem?_eq_getElem lt]
    simp [List.filterMap_cons, List.getElem?_eq_getElem lt]
/-- entries taken in another order -/
theorem ents_order (ms : List Mem) (es : Array (Int × Value)) (r : es.toList = ents w ms) : ∀ l : List Nat, (∀ i ∈ l, i < ms.length) →
    ∃ ms', l.filterMap (fun i => ms[i]?) = ms' ∧ l.filterMap (fun i => es[i]?) = ents w ms' ∧ hshs w ms' = l.map fun i => (es.map (·.1)).getD i 0
  | [], _ => ⟨[], rfl, rfl, rfl⟩
  | i :: l, h => by
    obtain ⟨ms', e1, e2, e3⟩ := ents_order ms es r l fun j hj => h j (List.mem_cons_of_mem _ hj)
    have il := h i List.mem_cons_self
    have en : es[i]? = some ((ms[i]).1.hash w, Value.ref (ms[i]).2) := by
      rw [← Array.getElem?_toList, r]
      show (ms.map _)[i]? = _
      rw [List.getElem?_map, List.getElem?_eq_getElem il]
      rfl
    refine ⟨ms[i] :: ms', ?_, ?_, ?_⟩
    · rw [List.filterMap_cons_some (List.getElem?_eq_getElem il), e1]
    · rw [List.filterMap_cons_some en, e2]
      rfl
    · have e5 : (es.map (·.1))[i]? = some ((ms[i]).1.hash w) := by
        rw [Array.getElem?_map, en]
        rfl
      rw [List.map_cons, ← e3, Array.getD_eq_getD_getElem?, e5]
      rfl
/-- the table is laid anew, and is larger -/
theorem relay {ob : Obj} (eo : s.heap.get? a = some ob) (ex : ob.ExactSet) (ed : ob.data = .set es ep t) (r : es.toList = ents w ms) (dm : t.dummies = #[]) (ps : t.place.size = ms.length) (le : ms.length ≤ t.mask) (once : (ms.map (·.1)).Nodup) (keys : ∀ m ∈ ms, Key s.heap m.1 m.2) (few : ms.length < 64)
    {n M : Nat} (hM : SetTable.sizeAbove n - 1 = M) (ok : MaskOk M) (small : SetTable.sizeAbove n ≤ 128) (room : ms.length * 5 < M * 3) {Q : Unit → Shared → Prop} (q : ∀ h' ms' es' ep' t', Heap.SameBut a s.heap h' → Tab w h' a ms' es' ep' t' → ms'.Perm ms → Q () { s with heap := h' }) :
    wpAny (model P w) A (setRelay a n) Q E s := by
  have sz : es.size = ms.length := by rw [← Array.length_toList, r, ents_len]
  obtain ⟨t', order, e, pm, T, em, _, _, _⟩ := relaid_ok t (hs := es.map (·.1)) (wanted := n) hM ok (by
    rw [Array.size_map, sz]
    omega)
  rw [Array.size_map, sz] at pm
  obtain ⟨ms', o1, o2, o3⟩ := ents_order (w := w) ms es r order.toList fun i hi => List.mem_range.mp (pm.mem_iff.mp hi)
  rw [← o3] at T
  have pm' : ms'.Perm ms := by
    rw [← o1]
    have := pm.filterMap fun i => ms[i]?
    rw [picked ms ms.length (Nat.le_refl _), List.take_length] at this
    exact this
  have r' : (order.filterMap (es[·]?)).toList = ents w ms' := by
    rw [Array.toList_filterMap]
    exact o2
  have sz' : (order.filterMap (es[·]?)).size = ms.length := by rw [← Array.length_toList, r', ents_len, pm'.length_eq]
  have fit : t.fits es.size = true := fits_of dm (ps.trans sz.symm) (by omega)
  rw [setRelay_eq]
  refine wpAny_bind (wpAny_setState_of eo ed fit ?_)
  dsimp only
  refine wp_if_neg (by
    rw [sizeLine_eq]
    omega) ?_
  rw [e]
  dsimp only
  refine wpAny_bind ?_
  refine wp_if_neg (by
    rw [sz', sz]
    simp) (wpAny_pure ?_)
  dsimp only
  have sb : Heap.SameBut a s.heap (s.heap.update a (Obj.putSet (order.filterMap (es[·]?)) t')) := Heap.SameBut.update ..
  refine wpAny_storeSet_of eo ed ?_ (by
    rw [sz', sizeLine_eq]
    omega)
  refine q _ ms' (order.filterMap (es[·]?)) (ep + 1) t' sb ?_ pm'
  exact ⟨⟨_, store_at eo ed, ⟨ex.1, ex.2.1, ex.2.2⟩, rfl⟩, r', T, (pm'.map (·.1)).nodup_iff.mpr once, fun m hm => (keys m (pm'.mem_iff.mp hm)).but eo ed sb, by
    rw [pm'.length_eq, em]
    exact room, by
    rw [pm'.length_eq]
    exact few⟩
/-- one key is added -/
theorem add (T : Tab w s.heap a ms es ep t) {k : NestedKey} {b : Addr} (x : Key s.heap k b) (hu : A.units + 8 < cLine) (lt : ms.length + 1 < 64) {Q : Bool → Shared → Prop}
    (q : ∀ d h' ms' es' ep' t', Heap.SameBut a s.heap h' → Tab w h' a ms' es' ep' t' → (k ∈ ms.map (·.1) → ms' = ms) → (k ∉ ms.map (·.1) → ms'.Perm ((k, b) :: ms)) → Q d { s with heap := h' }) : wpAny (model P w) A (setAddHashed a (.ref b) (k.hash w)) Q E s := by
  obtain ⟨ob, eo, ex, ed⟩ := T.obj
  have sz := T.size
  have room := T.room
  unfold setAddHashed
  refine wpAny_holding ?_
  rw [show (100000 : Nat) = 99999 + 1 from rfl, setAddHashedIn_succ]
  refine wpAny_bind (wpAny_setState_of eo ed T.fit ?_)
  dsimp only
  refine wp_if_neg (by simp [byScan, Value.scannable]) ?_
  refine wpAny_bind (look T x hu (fun mem => ?_) fun z out free full => ?_)
  · exact wpAny_pure (q false s.heap ms es ep t (Heap.SameBut.refl a s.heap) T (fun _ => rfl) fun n => absurd mem n)
  · dsimp only
    refine wpAny_bind (wpAny_setState_of eo ed T.fit ?_)
    dsimp only
    obtain ⟨p1, p2, p3, p4, _, _, _, _, p9⟩ := T.tab.put free full
    generalize way t.mask (k.hash w) z = j at p1 p2 p3 p4 p9 ⊢
    generalize t.put j = pt at p1 p2 p3 p4 p9 ⊢
    obtain ⟨t1, pl⟩ := pt
    dsimp only at p1 p2 p3 p4 p9 ⊢
    rw [← p1] at p2 p3
    rw [hshs_len] at p2
    have mid := put_perm ms pl (k, b)
    rw [← hshs_put ms pl (k, b)] at p3
    have rows1 : (SetTable.insertAt es pl (k.hash w, Value.ref b)).toList = ents w (ms.take pl ++ (k, b) :: ms.drop pl) := by rw [SetTable.toList_insertAt, ents_put, T.rows]
    have len1 : (ms.take pl ++ (k, b) :: ms.drop pl).length = ms.length + 1 := mid.length_eq
    have once1 : ((ms.take pl ++ (k, b) :: ms.drop pl).map (·.1)).Nodup := (mid.map (·.1)).nodup_iff.mpr (List.nodup_cons.mpr ⟨out, T.once⟩)
    have size1 : (SetTable.insertAt es pl (k.hash w, Value.ref b)).size = ms.length + 1 := by rw [← Array.length_toList, rows1, ents_len, len1]
    generalize SetTable.insertAt es pl (k.hash w, Value.ref b) = es1 at rows1 size1 ⊢
    generalize ms.take pl ++ (k, b) :: ms.drop pl = ms1 at mid p3 rows1 len1 once1
    have rest : ∀ t2 : SetTable, t2.place = t1.place → t2.mask = t1.mask → t2.dummies = t1.dummies → wpAny (model P w) A (do
          storeSet a es1 t2
          if (!false && t2.tooFull) = true then setRelay a (SetTable.grown (es.size + 1))
          return true) Q E s := fun t2 ePl eMa eDu => by
      have tab2 : TabOk t2 (hshs w ms1) := ⟨by rw [ePl]; exact p3.ris, by rw [eDu]; exact p3.dm, by rw [ePl]; exact p3.sz, by rw [eMa]; exact p3.mok, by rw [ePl, eMa]; exact p3.bd, by rw [ePl, eMa]; exact p3.reach⟩
      have fill2 : t2.fill = ms.length + 1 := by
        have : t2.fill = t1.fill := by
          unfold SetTable.fill
          rw [ePl, eDu]
        rw [this, p9, hshs_len]
      have mask2 : t2.mask = t.mask := eMa.trans p4
      have ps2 : t2.place.size = ms1.length := tab2.sz.trans (hshs_len ..)
      refine wpAny_bind (wpAny_storeSet_of eo ed ?_ (by
        rw [size1, sizeLine_eq]
        omega))
      have sb : Heap.SameBut a s.heap (s.heap.update a (Obj.putSet es1 t2)) := Heap.SameBut.update ..
      have eo1 := store_at (es' := es1) (t' := t2) eo ed
      generalize s.heap.update a (Obj.putSet es1 t2) = h1 at sb eo1 ⊢
      have keys1 : ∀ m ∈ ms1, Key h1 m.1 m.2 := fun m hm => by
        rcases List.mem_cons.mp (mid.mem_iff.mp hm) with rfl | hm
        · exact x.but eo ed sb
        · exact (T.keys m hm).but eo ed sb
      by_cases full2 : t2.tooFull = true
      · refine wp_if_pos (by simp [full2]) (wpAny_bind ?_)
        have over : (ms.length + 1) * 5 ≥ t2.mask * 3 := by
          have h := full2
          unfold SetTable.tooFull at h
          rw [decide_eq_true_eq, fill2] at h
          exact h
        rw [sz]
        have cs : (t.mask = 7 ∧ ms.length = 4) ∨ (t.mask = 31 ∧ ms.length = 18) := by
          rcases T.tab.mok with e | e | e
          · rw [mask2, e] at over
            rw [e] at room
            exact .inl ⟨e, by omega⟩
          · rw [mask2, e] at over
            rw [e] at room
            exact .inr ⟨e, by omega⟩
          · rw [mask2, e] at over
            omega
        have go : ∀ M, SetTable.sizeAbove (SetTable.grown (ms.length + 1)) - 1 = M → MaskOk M → SetTable.sizeAbove (SetTable.grown (ms.length + 1)) ≤ 128 → (ms.length + 1) * 5 < M * 3 →
            wpAny (model P w) A (setRelay a (SetTable.grown (ms.length + 1))) (fun _ s' => wpAny (model P w) A (pure true) Q E s') E { s with heap := h1 } := fun M g1 g2 g3 g4 => by
          refine relay (s := { s with heap := h1 }) eo1 ⟨ex.1, ex.2.1, ex.2.2⟩ rfl rows1 tab2.dm ps2 (by
            rw [len1, mask2]
            rcases cs with ⟨e, e2⟩ | ⟨e, e2⟩ <;> omega) once1 keys1 (by
            rw [len1]
            exact lt) g1 g2 g3 (by
            rw [len1]
            exact g4) fun h2 ms2 es2 ep2 t3 sb2 T2 pm2 => ?_
          exact wpAny_pure (q true h2 ms2 es2 ep2 t3 (sb.trans sb2) T2 (fun y => absurd y out) fun _ => pm2.trans mid)
        rcases cs with ⟨_, e2⟩ | ⟨_, e2⟩
        · exact go 31 (by rw [e2, size_20]) (.inr (.inl rfl)) (by rw [e2, size_20]; decide) (by omega)
        · exact go 127 (by rw [e2, size_76]) (.inr (.inr rfl)) (by rw [e2, size_76]; decide) (by omega)
      · refine wp_if_neg (by simp [full2]) (wpAny_pure (q true h1 ms1 es1 (ep + 1) t2 sb ⟨⟨_, eo1, ⟨ex.1, ex.2.1, ex.2.2⟩, rfl⟩, rows1, tab2, once1, keys1, ?_, by
          rw [len1]
          exact lt⟩ (fun y => absurd y out) fun _ => mid))
        have h := full2
        unfold SetTable.tooFull at h
        rw [decide_eq_true_eq, fill2] at h
        rw [len1]
        omega
    by_cases plain : t1.plain = true
    · refine wp_if_pos plain (wpAny_bind (val_key k _ 8 x.1 x.2 A _ _ fun v _ => ?_))
      cases v with
      | true =>
        simp only [if_true]
        exact rest t1 rfl rfl rfl
      | false =>
        simp only [Bool.false_eq_true, if_false]
        exact rest { t1 with plain := false } rfl rfl rfl
    · refine wp_if_neg plain (wpAny_bind (wpAny_pure ?_))
      simp only [if_true]
      exact rest t1 rfl rfl rfl
end
end Nb
set_option Elab.async false
set_option linter.all false
set_option autoImplicit false
set_option maxRecDepth 100000
set_option maxHeartbeats 4000000
/-! Nc: set(xs) of a list of tuples of any depth; len of a set. -/
namespace Nc
open PySem PySem.Spec PyProof.Rows L2 Vb Na Nb
section
variable {P : Program} {w : World} {A : Around} {E : Value → Shared → Prop} {s : Shared}
/-- what is in behind i items -/
structure In (xs : List Mem) (i : Nat) (ms : List Mem) : Prop where
  of : ∀ m ∈ ms, m ∈ xs.take i
  all : ∀ m ∈ xs.take i, m.1 ∈ ms.map (·.1)
  few : ms.length ≤ i
theorem In.old {xs ms : List Mem} {i : Nat} {x : Mem} (g : In xs i ms) (e : xs[i]? = some x) (h : x.1 ∈ ms.map (·.1)) : In xs (i + 1) ms := by
  have et : xs.take (i + 1) = xs.take i ++ [x] := by
    rw [List.take_add_one, e]
    rfl
  refine ⟨fun m hm => ?_, fun m hm => ?_, Nat.le_succ_of_le g.few⟩
  · rw [et]
    exact List.mem_append_left _ (g.of m hm)
  · rw [et] at hm
    rcases List.mem_append.mp hm with q | q
    · exact g.all m q
    · rw [List.mem_singleton.mp q]
      exact h
theorem In.new {xs ms ms' : List Mem} {i : Nat} {x : Mem} (g : In xs i ms) (e : xs[i]? = some x) (pm : ms'.Perm (x :: ms)) : In xs (i + 1) ms' := by
  have et : xs.take (i + 1) = xs.take i ++ [x] := by
    rw [List.take_add_one, e]
    rfl
  refine ⟨fun m hm => ?_, fun m hm => ?_, ?_⟩
  · rw [et]
    rcases List.mem_cons.mp (pm.mem_iff.mp hm) with rfl | q
    · exact List.mem_append_right _ List.mem_cons_self
    · exact List.mem_append_left _ (g.of m q)
  · rw [(pm.map (·.1)).mem_iff, List.map_cons]
    rw [et] at hm
    rcases List.mem_append.mp hm with q | q
    · exact List.mem_cons_of_mem _ (g.all m q)
    · rw [List.mem_singleton.mp q]
      exact List.mem_cons_self
  · rw [pm.length_eq]
    exact Nat.succ_le_succ g.few
theorem tab_keep {h h' : Heap} {a : Addr} {ms : List Mem} {es : Array (Int × Value)} {ep : Nat} {t : SetTable} (T : Tab w h a ms es ep t) (ka : ∀ o, h.get? a = some o → h'.get? a = some o) (kk : ∀ m ∈ ms, Na.Key h' m.1 m.2) : Tab w h' a ms es ep t := by
  obtain ⟨ob, eo, r⟩ := T.obj
  exact ⟨⟨ob, ka ob eo, r⟩, T.rows, T.tab, T.once, kk, T.room, T.few⟩
theorem tab_new {h : Heap} {a : Addr} {led : Bool} (e : h.get? a = some { cls := .type "set", dict := none, data := .set #[] 0 (.fresh 0 0 led) }) : Tab w h a [] #[] 0 (.fresh 0 0 led) :=
  ⟨⟨_, e, ⟨rfl, rfl, rfl⟩, rfl⟩, rfl, ⟨List.Pairwise.nil, rfl, rfl, .inl rfl, fun x hx => (by cases hx), fun i h j hi => (by simp [hshs] at hi)⟩, List.nodup_nil, (fun m hm => nomatch hm), (by show 0 * 5 < 7 * 3; decide), (by show 0 < 64; decide)⟩
/-- the loop that puts all items in -/
theorem fill_keys {I : Addr} {fp wr : List Addr} {G : Array GenState → Array GenState → Prop} {n : Nat} {Pv : Nat → Value → Prop} {St : Nat → Shared → Prop} {R : Result → Shared → Prop} (W : WalksS P w A.in1 I fp wr G n Pv St) (D : Addr) (hD : D ∉ fp) (xs : List Mem)
    (hn : xs.length = n) (few : n < 64) (val : ∀ i v, Pv i v → ∃ m, xs[i]? = some m ∧ v = .ref m.2) (h0 : Heap) (kx : ∀ m ∈ xs, Na.Key h0 m.1 m.2) (D0 : h0.get? D = none) (wr0 : ∀ b ∈ wr, h0.get? b = none) (hu : A.in1.units + 8 < cLine) :
    ∀ (left i : Nat) (s : Shared), n - i = left → i ≤ n → St i s → (∀ b o, h0.get? b = some o → s.heap.get? b = some o) → (∃ ms es ep t, Tab w s.heap D ms es ep t ∧ In xs i ms) →
      (∀ s' ms es ep t, Moved (D :: wr) G s s' → Tab w s'.heap D ms es ep t → In xs n ms → R (.ok (.ret .none)) s') → codeAny (model P w) A (.builtin "set.update.loop" ⟨[.ref D, .ref I], []⟩) R s := by
  have hDw : D ∉ wr := fun h => hD (W.sub _ h)
  have up : ∀ b ∈ wr, b ∈ D :: wr := fun b hb => List.mem_cons_of_mem _ hb
  have go : ∀ {s s' : Shared}, Moved wr G s s' → (∀ b o, h0.get? b = some o → s.heap.get? b = some o) → ∀ b o, h0.get? b = some o → s'.heap.get? b = some o := fun m k b o e =>
    m.heap b o (fun hb => by
      rw [wr0 b hb] at e
      cases e) (k b o e)
  have sub : ∀ {i : Nat} {ms : List Mem}, In xs i ms → ∀ m ∈ ms, m ∈ xs := fun g m hm => List.mem_of_mem_take (g.of m hm)
  intro left
  induction left with
  | zero =>
    intro i s hl hi hst k0 ⟨ms, es, ep, t, T, g⟩ hR
    obtain rfl : i = n := by omega
    refine codeAny_builtin PyProof.Rows.F.entry_set_update_loop ?_
    rw [Around.under_plainId PyProof.Rows.F.plain_set_update_loop _]
    show wpAny _ A.in1 (pyNext (.ref I) >>= _) _ _ s
    refine wpAny_bind (W.done s _ _ hst fun s' hm => ?_)
    show wpAny _ A.in1 (ret Value.none) _ _ s'
    exact wpAny_pure (hR s' ms es ep t (hm.mono up) (tab_keep T (fun o e => hm.heap D o hDw e) fun m h => (kx m (sub g m h)).ext (go hm k0)) g)
  | succ left ih =>
    intro i s hl hi hst k0 ⟨ms, es, ep, t, T, g⟩ hR
    have lt : i < n := by omega
    refine codeAny_builtin PyProof.Rows.F.entry_set_update_loop ?_
    rw [Around.under_plainId PyProof.Rows.F.plain_set_update_loop _]
    show wpAny _ A.in1 (pyNext (.ref I) >>= _) _ _ s
    refine wpAny_bind (W.item i s _ _ lt hst fun v s' hP hst' hm => ?_)
    obtain ⟨m, em, rfl⟩ := val i v hP
    have k1 := go hm k0
    have T1 : Tab w s'.heap D ms es ep t := tab_keep T (fun o e => hm.heap D o hDw e) fun m h => (kx m (sub g m h)).ext k1
    have x : Na.Key s'.heap m.1 m.2 := (kx m (List.mem_of_getElem? em)).ext k1
    show wpAny _ A.in1 (holding [Value.ref m.2] (setAdd D (.ref m.2)) >>= _) _ _ s'
    refine wpAny_bind (wpAny_holding ?_)
    unfold setAdd
    refine wpAny_holding (wpAny_bind ((nestedKind P w).pyHash hu x ?_))
    refine add (s := { s' with toks := s'.toks + m.1.draws }) T1 x hu (by
      have := g.few
      omega) fun d h' ms' es' ep' t' sb T2 c1 c2 => ?_
    have g2 : In xs (i + 1) ms' := by
      by_cases mem : m.1 ∈ ms.map (·.1)
      · rw [c1 mem]
        exact g.old em mem
      · exact g.new em (c2 mem)
    have k2 : ∀ b o, h0.get? b = some o → h'.get? b = some o := fun b o e => (sb.2 b fun z => by
      rw [z, D0] at e
      cases e).trans (k1 b o e)
    refine wpAny_pure ⟨plainId_quiet PyProof.Rows.F.plain_set_update_loop _, ih (i + 1) _ (by omega) lt (W.frame _ s' _ _ hst' (Nat.le_add_right _ _) fun b hb o e => ?_) k2 ⟨ms', es', ep', t', T2, g2⟩ fun s3 ms3 es3 ep3 t3 hm3 T3 g3 => ?_⟩
    · rw [sb.2 b fun z : b = D => hD (z ▸ hb)]
      exact e
    · refine hR s3 ms3 es3 ep3 t3 (Moved.trans W.gtrans ((hm.mono up).then_heap (Nat.le_add_right _ _) fun b o hb e => ?_) hm3) T3 g3
      rw [sb.2 b fun z : b = D => hb (z ▸ List.mem_cons_self)]
      exact e
set_option maxHeartbeats 8000000 in
/-- set(xs) -/
theorem set_of_keys {l : Addr} {items : Array Value} {xs : List Mem} {Q : Value → Shared → Prop} (hh : A.handled = none) (hl : s.heap.IsList l items) (hi : items.toList = xs.map fun m => Value.ref m.2) (kx : ∀ m ∈ xs, Na.Key s.heap m.1 m.2) (few : xs.length < 64) (hu : A.units + 16 < cLine)
    (hQ : ∀ (h' : Heap) (tk : Nat) ms es ep t, Tab w h' s.heap.objs.size ms es ep t → In xs xs.length ms → (∀ b o, s.heap.get? b = some o → h'.get? b = some o) → Q (.ref s.heap.objs.size) { s with heap := h', toks := tk }) :
    wpAny (model P w) A (call (.type "set") [.ref l]) Q E s := by
  have hz : xs.length = items.size := by rw [← Array.length_toList, hi, List.length_map]
  obtain ⟨c, tl, hmro⟩ := PySem.F.called_set.mro
  have made := PySem.F.called_set.made
  have subs := PySem.F.called_set.sub
  refine wpAny_call (codeAny_of_tree ?_)
  show wpAny _ _ (callAny (.type "set") _) _ _ _
  refine wpAny_pure ⟨Code.quiet_builtin _ (by decide +kernel), codeAny_builtin PySem.F.entry_type_call ?_⟩
  rw [Around.under_plain (weight_type_call_type "set" [.ref l] []) rfl]
  have k1 := PySem.F.called_set.notType
  have k2 := PySem.F.called_set.canCreate
  have k3 := PySem.F.typeCall_set_1 (.ref l)
  repeat (any_goals (first | assumption | wp_step))
  refine codeAny_mono (code_set_led1 (.ref l) (E := E) (Q₁ := fun obj s₁ => obj = .ref s.heap.objs.size ∧ s₁ = { s with heap := s.heap.push { cls := .type "set", dict := none, data := .set #[] 0 (.fresh 0 0 (!w.params.followText "set-order")) } }) ⟨rfl, rfl⟩) fun r s₁ hr => ?_
  match r, hr with
  | .error _, hr => exact hr
  | .ok .next, hr => exact hr.elim
  | .ok .brk, hr => exact hr.elim
  | .ok .cont, hr => exact hr.elim
  | .ok (.ret obj), hr =>
    obtain ⟨rfl, rfl⟩ := hr
    have hS : (s.heap.push { cls := .type "set", dict := none, data := .set #[] 0 (.fresh 0 0 (!w.params.followText "set-order")) }).get? s.heap.objs.size = some { cls := .type "set", dict := none, data := .set #[] 0 (.fresh 0 0 (!w.params.followText "set-order")) } := Heap.get?_push_size _ rfl
    have hT : Shared.TypeIs { s with heap := s.heap.push { cls := .type "set", dict := none, data := .set #[] 0 (.fresh 0 0 (!w.params.followText "set-order")) } } (.ref s.heap.objs.size) "set" := ⟨_, hS, rfl⟩
    have k4 := PySem.F.called_set.init.lookup
    have k5 := PySem.F.called_set.init.bind (.ref s.heap.objs.size)
    repeat (any_goals (first | assumption | wp_step))
    refine codeAny_mono (codeAny_call_builtin (R := wants (fun r s₂ => r = .none ∧ ∃ h' tk ms es ep t, s₂ = { s with heap := h', toks := tk } ∧ Tab w h' s.heap.objs.size ms es ep t ∧ In xs xs.length ms ∧ (∀ b o, s.heap.get? b = some o → h'.get? b = some o)) E)
      PySem.F.called_set.init.plain PySem.F.entry_set_init (check_set_init_1 hT ?_)) fun r₂ s₂ hr₂ => ?_
    · obtain ⟨⟨ocls, odict, odata, oslots⟩, hol, hcl, nl, hdl⟩ := hl
      simp only at hcl hdl
      subst hcl
      subst hdl
      have hol' : (s.heap.push { cls := .type "set", dict := none, data := .set #[] 0 (.fresh 0 0 (!w.params.followText "set-order")) }).get? l = some { cls := .type "list", dict := odict, data := .seq items nl, slots := oslots } := Heap.get?_push_of_some _ hol
      have k6 := PySem.F.sub_list_set
      have k7 := PySem.F.sub_list_frozenset
      have k8 : (Value.type "list" == Value.type "dict") = false := by decide
      have hl1 : (s.heap.push { cls := .type "set", dict := none, data := .set #[] 0 (.fresh 0 0 (!w.params.followText "set-order")) }).IsList l items := ⟨_, hol', rfl, nl, rfl⟩
      unfold Builtin.«set.__init__» noKeywords Builtin.Frozenset.updateFrom
      generalize hPI : pyIter = PI
      wp_walk
      subst hPI
      refine wpAny_pyIter_list hl1 (wpAny_bind (wpAny_runValue ?_))
      have lS : l < s.heap.objs.size := Heap.lt_size hol
      have lI : l ≠ (s.heap.push { cls := .type "set", dict := none, data := .set #[] 0 (.fresh 0 0 (!w.params.followText "set-order")) }).objs.size := by
        rw [Heap.size_push]
        exact Nat.ne_of_lt (Nat.lt_succ_of_lt lS)
      have nS : s.heap.objs.size ∉ [(s.heap.push { cls := .type "set", dict := none, data := .set #[] 0 (.fresh 0 0 (!w.params.followText "set-order")) }).objs.size, l] := by
        rw [Heap.size_push]
        simp only [List.mem_cons, List.not_mem_nil, or_false, not_or]
        exact ⟨Nat.ne_of_lt (Nat.lt_succ_self _), Nat.ne_of_gt lS⟩
      have nothing : ∀ b, s.heap.objs.size ≤ b → s.heap.get? b = none := fun b hb => by
        cases q : s.heap.get? b with
        | none => rfl
        | some o => exact absurd (Nat.lt_of_lt_of_le (Heap.lt_size q) hb) (Nat.lt_irrefl _)
      refine fill_keys ((Walks.list (by simp [hh]) _ l lI items).toS) s.heap.objs.size nS xs hz (by omega) (fun i v hv => ?_) s.heap kx (nothing _ (Nat.le_refl _)) (fun b hb => nothing b (by
          rw [List.mem_singleton.mp hb, Heap.size_push]
          exact Nat.le_succ _)) (by simp only [Around.in1_units]; omega) (items.size - 0) 0 _ rfl (Nat.zero_le _) ⟨⟨_, Heap.get?_push_size _ rfl, rfl, rfl⟩, (hl1.push _)⟩ (fun b o e => Heap.get?_push_of_some _ (Heap.get?_push_of_some _ e)) ?e0 ?e1
      · have q : items.toList[i]? = some v := by rw [Array.getElem?_toList]; exact hv
        rw [hi, List.getElem?_map] at q
        obtain ⟨m, em, e⟩ := Option.map_eq_some_iff.mp q
        exact ⟨m, em, e.symm⟩
      case e0 => exact ⟨[], #[], 0, _, tab_new (Heap.get?_push_of_some _ hS), ⟨(fun m h => nomatch h), (fun m h => (by simp at h)), Nat.le_refl _⟩⟩
      case e1 =>
        intro s' ms es ep t hm T g
        obtain ⟨h', g2, d', tk', os'⟩ := s'
        have eg : g2 = s.gens := hm.gens
        have ed : d' = s.drawn := hm.drawn
        have eo : os' = s.os := hm.os
        subst eg
        subst ed
        subst eo
        show wpAny _ _ _ _ _ _
        refine wpAny_pure ?_
        show wpAny _ _ (ret Value.none) _ _ _
        rw [← hz] at g
        refine wpAny_pure ⟨rfl, h', tk', ms, es, ep, t, rfl, T, g, fun b o e => hm.heap b o ?_ (Heap.get?_push_of_some _ (Heap.get?_push_of_some _ e))⟩
        have lb : b < s.heap.objs.size := Heap.lt_size e
        rw [Heap.size_push]
        simp only [List.mem_cons, List.not_mem_nil, or_false, not_or]
        exact ⟨Nat.ne_of_lt lb, Nat.ne_of_lt (Nat.lt_succ_of_lt lb)⟩
    · match r₂, hr₂ with
      | .error _, hr₂ => exact hr₂
      | .ok .next, hr₂ => exact hr₂.elim
      | .ok .brk, hr₂ => exact hr₂.elim
      | .ok .cont, hr₂ => exact hr₂.elim
      | .ok (.ret r), hr₂ =>
        obtain ⟨rfl, h', tk, ms, es, ep, t, rfl, T, g, hk⟩ := hr₂
        repeat (any_goals (first | assumption | wp_step))
        exact hQ _ _ _ _ _ _ T g hk
end
/-! ### over the layer -/
section
variable {K : PySem.W.Frag}
/-- a set with n members -/
def SetN (a : Addr) (n : Nat) : HO := .ext fun h => ∃ (o : Obj) (es : Array (Int × Value)) (ep : Nat) (t : SetTable), h.get? a = some o ∧ o.ExactSet ∧ o.data = .set es ep t ∧ t.fits es.size = true ∧ es.size = n
theorem setN_new {P : Program} {w : World} {H : Hp} {h : Heap} {a : Addr} {n : Nat} (R : ∃ (o : Obj) (es : Array (Int × Value)) (ep : Nat) (t : SetTable), h.get? a = some o ∧ o.ExactSet ∧ o.data = .set es ep t ∧ t.fits es.size = true ∧ es.size = n) : ObjOk P w H h a (SetN a n) := by
  have ⟨o, es, ep, t, eo, q⟩ := R
  exact ⟨R, ⟨o, eo⟩, fun h1 h2 p k => by
    obtain ⟨o', es', ep', t', eo', q'⟩ := p
    exact ⟨o', es', ep', t', k o' eo', q'⟩⟩
mutual
/-- data that is a key -/
theorem key_of_data {X : Cx} {pins : List (Addr × Obj)} {σ : L2.St} {H : Hp} {s : Shared} (I : Inv X pins σ H s) : ∀ (k : NestedKey) (v : V) (u : Value), Dp X.K H v k.data → RelV v u → NestedIs s.heap k u
  | .none, _, _, d, r => by
    cases d
    cases r
    exact .none
  | .num i, _, _, d, r => by
    cases d
    obtain ⟨t, rfl⟩ := r
    exact .int i t
  | .text x, _, _, d, r => by
    cases d
    obtain ⟨t, rfl⟩ := r
    exact .text x t
  | .tup ks, _, _, d, r => by
    cases d with
    | tup sq al =>
      cases r
      obtain ⟨its, rv, ⟨o, eo, ec, n, ed⟩, _⟩ := I.tuple sq
      exact .tup eo ec ed (by
        have := keys_of_data I ks _ _ al rv
        simpa using this)
theorem keys_of_data {X : Cx} {pins : List (Addr × Obj)} {σ : L2.St} {H : Hp} {s : Shared} (I : Inv X pins σ H s) : ∀ (ks : List NestedKey) (vs : List V) (us : List Value), DpAll X.K H vs (NestedKey.datas ks) → Vals vs us → NestedAll s.heap ks us
  | [], _, _, d, r => by
    cases d
    cases r
    exact .nil
  | k :: ks, _, _, d, r => by
    cases d with
    | cons d1 d2 =>
      cases r with
      | cons r1 r2 => exact .cons (key_of_data I k _ _ d1 r1) (keys_of_data I ks _ _ d2 r2)
end
section
variable {X : Cx}
/-- set(xs), xs a list of tuples -/
def rSetKeys (K : PySem.W.Frag) : List V → Hp → VK → Prop := fun xs H Q => ∃ (l : Addr) (ks : List Mem), xs = [.ref l] ∧ SqL K H l (ks.map fun m => V.ref m.2) ∧ (∀ m ∈ ks, Dp K H (.ref m.2) m.1.data ∧ m.1.depth ≤ 8) ∧ ks.length < 64 ∧
  ∀ a n, H a = none → n ≤ ks.length → (n = ks.length ↔ (ks.map (·.1)).Nodup) → Q (.ref a) (upd H a (SetN a n))
theorem refs_vals : ∀ {ks : List Mem} {us : List Value}, Vals (ks.map fun m => V.ref m.2) us → us = ks.map fun m => Value.ref m.2
  | [], _, .nil => rfl
  | m :: ks, _, .cons r t => by
    cases r
    rw [refs_vals t]
    rfl
theorem cr_setKeys (hc : X.calm = true) (hu : X.A.units + 64 < cLine) : CallR X (.type "set") (rSetKeys X.K) := by
  intro pins s σ H xs us Q I r h
  obtain ⟨l, ks, rfl, hl, hk, few, q⟩ := h
  rw [Vals.ref1 r]
  obtain ⟨its, rv, pl, hz⟩ := I.list hl
  have hn : H s.heap.objs.size = none := I.hok.fresh (Nat.le_refl _)
  refine set_of_keys (P := X.prog) (w := X.w) (xs := ks) (I.ok.hd hc) pl.isList (by simpa using refs_vals rv) (fun m hm => ⟨key_of_data I m.1 _ _ (hk m hm).1 rfl, (hk m hm).2⟩) few (by omega) fun h' tk ms es ep t T g k => ?_
  obtain ⟨o, eo, ex, ed⟩ := T.obj
  have cnt := same_count (ks.map (·.1)) (ms.map (·.1)) T.once fun y => by
    constructor
    · intro hy
      obtain ⟨m, hm, rfl⟩ := List.mem_map.mp hy
      exact List.mem_map.mpr ⟨m, List.mem_of_mem_take (g.of m hm), rfl⟩
    · intro hy
      obtain ⟨m, hm, rfl⟩ := List.mem_map.mp hy
      exact g.all m (by rw [List.take_length]; exact hm)
  rw [List.length_map, List.length_map] at cnt
  exact ⟨.ref s.heap.objs.size, upd H s.heap.objs.size (SetN s.heap.objs.size ms.length), I.laid (t' := tk) k (Nat.le_refl _) (setN_new ⟨o, es, ep, t, eo, ex, ed, Tab.fit (s := { s with heap := h' }) T, Tab.size (s := { s with heap := h' }) T⟩), rfl, q _ ms.length hn cnt.1 cnt.2⟩
/-- set(xs), xs a list or a tuple of texts; how many there are -/
def rSetCnt (K : PySem.W.Frag) : List V → Hp → VK → Prop := fun xs H Q => ∃ (l : Addr) (ys : List Str), xs = [.ref l] ∧ (SqL K H l (ys.map V.str) ∨ SqT K H l (ys.map V.str)) ∧ ys.length ≤ 1000 ∧
  ∀ a n, H a = none → n ≤ ys.length → (n = ys.length ↔ ys.Nodup) → Q (.ref a) (upd H a (SetN a n))
theorem cnt_of {P : Program} {w : World} {h : Heap} {a : Addr} {ys : List Str} {c : Nat} (T : Ts.TxtSet P w h a (Ts.among ys ys.length) c) : c ≤ ys.length ∧ (c = ys.length ↔ ys.Nodup) := by
  obtain ⟨o, es, ep, t, _, _, _, G, ec⟩ := T
  obtain ⟨_, nd, mem⟩ := Ts.Good.texts G (List.Perm.refl _)
  have cnt := same_count ys _ nd fun k => by
    rw [mem k]
    unfold Ts.among
    rw [List.take_length, decide_eq_true_eq]
  rw [List.length_map, List.length_map, Array.length_toList, ec] at cnt
  exact cnt
theorem txt_setN {P : Program} {w : World} {h : Heap} {a : Addr} {S : Str → Bool} {c : Nat} (T : Ts.TxtSet P w h a S c) : ∃ (o : Obj) (es : Array (Int × Value)) (ep : Nat) (t : SetTable), h.get? a = some o ∧ o.ExactSet ∧ o.data = .set es ep t ∧ t.fits es.size = true ∧ es.size = c := by
  obtain ⟨o, es, ep, t, eo, ex, ed, G, ec⟩ := T
  exact ⟨o, es, ep, t, eo, ex, ed, G.fit, ec⟩
theorem cr_setCnt (hc : X.calm = true) : CallR X (.type "set") (rSetCnt X.K) := by
  intro pins s σ H xs us Q I r h
  obtain ⟨l, ys, rfl, hl, few, q⟩ := h
  rw [Vals.ref1 r]
  have hn : H s.heap.objs.size = none := I.hok.fresh (Nat.le_refl _)
  have sc : ys.length + 1 < scanBound := by unfold scanBound; omega
  have fin : ∀ (h' : Heap) (tk c : Nat), Ts.TxtSet X.prog X.w h' s.heap.objs.size (Ts.among ys ys.length) c → (∀ b o, s.heap.get? b = some o → h'.get? b = some o) → EP X pins σ Q (.ref s.heap.objs.size) { s with heap := h', toks := tk } := fun h' tk c T k =>
    ⟨.ref s.heap.objs.size, upd H s.heap.objs.size (SetN s.heap.objs.size c), I.laid (t' := tk) k (Nat.le_refl _) (setN_new (txt_setN T)), rfl, q _ c hn (cnt_of T).1 (cnt_of T).2⟩
  rcases hl with hl | hl
  · obtain ⟨its, rv, pl, hz⟩ := I.list hl
    exact Ts.set_of_list (P := X.prog) (w := X.w) (I.ok.hd hc) pl.isList (by simpa using rv.strs) sc fun h' tk c T _ k => fin h' tk c T k
  · obtain ⟨its, rv, pl, hz⟩ := I.tuple hl
    exact Ts.set_of_tuple (P := X.prog) (w := X.w) (I.ok.hd hc) pl (by simpa using rv.strs) sc fun h' tk c T _ k => fin h' tk c T k
/-- len(s) -/
def rLenSet : List V → Hp → VK → Prop := fun xs H Q => ∃ (a : Addr) (n : Nat), xs = [.ref a] ∧ H a = some (SetN a n) ∧ n ≤ 1000 ∧ Q (.int n) H
theorem cr_lenSet : CallR X (.builtin "len") rLenSet := by
  intro pins s σ H xs us Q I r h
  obtain ⟨a, n, rfl, ha, few, q⟩ := h
  rw [Vals.ref1 r]
  obtain ⟨o, es, ep, t, eo, ex, ed, ef, rfl⟩ := (I.hok a _ ha).1
  exact call_len_set eo ex ed ef (by omega) ⟨.int es.size, H, I.tok _, ⟨_, rfl⟩, q⟩
end
end
end Nc
set_option Elab.async false
set_option linter.all false
set_option autoImplicit false
set_option maxRecDepth 100000
set_option maxHeartbeats 4000000
/-! Nd: data that is a key stays one while lists change. -/
namespace Nd
open PySem PySem.Spec PyProof.Rows L2 Vb Na Nb Nc
section
variable {K : PySem.W.Frag} {H H' : Hp} {D : Addr} {xs : List V}
theorem seqT_but (hD : H D = some (.lst xs)) (h : ∀ b x, b ≠ D → H b = some x → H' b = some x) {a : Addr} {ys : List V} (s : SqT K H a ys) : SqT K H' a ys := by
  rcases s with (s | ⟨o, s⟩) | s
  · exact .inl (.inl (h _ _ (fun e => by
      rw [e, hD] at s
      cases s) s))
  · exact .inl (.inr ⟨o, h _ _ (fun e => by
      rw [e, hD] at s
      cases s) s⟩)
  · exact .inr s
mutual
theorem dp_but (hD : H D = some (.lst xs)) (h : ∀ b x, b ≠ D → H b = some x → H' b = some x) : ∀ (k : NestedKey) (v : V), Dp K H v k.data → Dp K H' v k.data
  | .none, _, d => by
    cases d
    exact .non
  | .num i, _, d => by
    cases d
    exact .int i
  | .text x, _, d => by
    cases d
    exact .str x
  | .tup ks, _, d => by
    cases d with
    | tup sq al => exact .tup (seqT_but hD h sq) (dps_but hD h ks _ al)
theorem dps_but (hD : H D = some (.lst xs)) (h : ∀ b x, b ≠ D → H b = some x → H' b = some x) : ∀ (ks : List NestedKey) (vs : List V), DpAll K H vs (NestedKey.datas ks) → DpAll K H' vs (NestedKey.datas ks)
  | [], _, d => by
    cases d
    exact .nil
  | k :: ks, _, d => by
    cases d with
    | cons d1 d2 => exact .cons (dp_but hD h k _ d1) (dps_but hD h ks _ d2)
end
end
end Nd
set_option Elab.async false
set_option linter.all false
set_option autoImplicit false
set_option maxRecDepth 100000
set_option maxHeartbeats 4000000
namespace K12
open PySem PySem.Spec PyProof.Rows L2 Vb Wd Xd Xo Ts K01 Nc Nd
abbrev s_is_scheme : Stmt := topS 29
theorem sc_is_scheme : FnScope ["bare", "tops", "forms", "names", "kinds", "form"] ["bare", "tops", "forms"] (defScope s_is_scheme) := ⟨rfl, rfl, rfl, by decide +kernel, rfl, by decide +kernel, by decide +kernel⟩
/-- the tops that a value tells, if it does -/
def TopsAt (K : PySem.W.Frag) (H : Hp) (tv : V) : Option (List Str) → Prop
  | some ys => ∃ t, tv = .ref t ∧ H t = some (.tup (ys.map V.str)) ∧ (∀ y ∈ ys, Fine y) ∧ ys.length ≤ 60 ∧ (ys.all nam && asc ys) = true
  | none => Asked K H tv false
/-- a kind of forms as a key -/
def kidK (c : Str × Int) : NestedKey := .tup [.text c.1, .num c.2]
def kindK (d : Str × List (Str × Int)) : NestedKey := .tup [.text d.1, .tup (d.2.map kidK)]
theorem kidK_inj {c d : Str × Int} (h : kidK c = kidK d) : c = d := by
  obtain ⟨a, i⟩ := c
  obtain ⟨b, j⟩ := d
  unfold kidK at h
  injection h with h
  injection h with h1 h2
  injection h1 with h1
  injection h2 with h2
  injection h2 with h2
  exact Prod.ext h1 h2
theorem kidsK_inj : ∀ {cs ds : List (Str × Int)}, cs.map kidK = ds.map kidK → cs = ds
  | [], [], _ => rfl
  | [], _ :: _, h => by cases h
  | _ :: _, [], h => by cases h
  | c :: cs, d :: ds, h => by
    rw [List.map_cons, List.map_cons] at h
    injection h with h1 h2
    rw [kidK_inj h1, kidsK_inj h2]
theorem kindK_inj {c d : Str × List (Str × Int)} (h : kindK c = kindK d) : c = d := by
  obtain ⟨a, cs⟩ := c
  obtain ⟨b, ds⟩ := d
  unfold kindK at h
  injection h with h
  injection h with h1 h2
  injection h1 with h1
  injection h2 with h2
  injection h2 with h2
  exact Prod.ext h1 (kidsK_inj h2)
theorem kids_datas : ∀ cs : List (Str × Int), NestedKey.datas (cs.map kidK) = cs.map kidD
  | [] => rfl
  | c :: cs => by
    rw [List.map_cons, List.map_cons, NestedKey.datas, kids_datas cs]
    rfl
theorem kids_depth : ∀ cs : List (Str × Int), NestedKey.depthAll (cs.map kidK) ≤ 1
  | [] => Nat.zero_le _
  | c :: cs => by
    rw [List.map_cons, NestedKey.depthAll]
    exact Nat.max_le.mpr ⟨Nat.le_refl 1, kids_depth cs⟩
theorem kind_data (d : Str × List (Str × Int)) : (kindK d).data = .tuple [.str d.1, .tuple (d.2.map kidD)] := by
  show PyData.tuple [.str d.1, .tuple (NestedKey.datas (d.2.map kidK))] = _
  rw [kids_datas]
theorem kind_depth (d : Str × List (Str × Int)) : (kindK d).depth ≤ 8 := by
  have h := kids_depth d.2
  show max 0 (max (NestedKey.depthAll (d.2.map kidK) + 1) 0) + 1 ≤ 8
  omega
theorem nodup_kinds (ds : List FD) : (ds.map fun d => kindK d.2).Nodup ↔ (ds.map (·.2)).Nodup := by
  unfold List.Nodup
  rw [List.pairwise_map, List.pairwise_map]
  exact ⟨fun h => h.imp fun n e => n (congrArg kindK e), fun h => h.imp fun n e => n (kindK_inj e)⟩
/-- how many different texts there are -/
def dd : List Str → List Str
  | [] => []
  | y :: l => if y ∈ l then dd l else y :: dd l
theorem mem_dd : ∀ (l : List Str) (k : Str), k ∈ dd l ↔ k ∈ l
  | [], k => Iff.rfl
  | y :: l, k => by
    unfold dd
    by_cases h : y ∈ l
    · rw [if_pos h, mem_dd l k, List.mem_cons]
      exact ⟨.inr, fun q => q.elim (fun e => e ▸ h) id⟩
    · rw [if_neg h, List.mem_cons, List.mem_cons, mem_dd l k]
theorem nodup_dd : ∀ l : List Str, (dd l).Nodup
  | [] => List.nodup_nil
  | y :: l => by
    unfold dd
    by_cases h : y ∈ l
    · rw [if_pos h]
      exact nodup_dd l
    · rw [if_neg h]
      exact List.nodup_cons.mpr ⟨fun q => h ((mem_dd l y).mp q), nodup_dd l⟩
theorem len_dd {zs l : List Str} (nd : zs.Nodup) (m : ∀ k, k ∈ zs ↔ k ∈ l) : zs.length = (dd l).length :=
  Nat.le_antisymm (nodup_len zs (dd l) nd fun k hk => (mem_dd l k).mpr ((m k).mp hk)) (nodup_len (dd l) zs (nodup_dd l) fun k hk => (m k).mpr ((mem_dd l k).mp hk))
/-- whether these make a scheme -/
def schB (bare : V) : Option (List Str) → List FD → Bool
  | none, _ => false
  | some ys, ds => inV bare (ys.map V.str) && (decide (1 ≤ ds.length) && decide (ds.length ≤ 24)) && decide ((dd (ys ++ said ds)).length ≤ 8) && (decide (ds.map (·.1)).Nodup && decide (ds.map (·.2)).Nodup)
theorem schB_some (bare : V) (ys : List Str) (ds : List FD) : schB bare (some ys) ds = (inV bare (ys.map V.str) && (decide (1 ≤ ds.length) && decide (ds.length ≤ 24)) && decide ((dd (ys ++ said ds)).length ≤ 8) && (decide (ds.map (·.1)).Nodup && decide (ds.map (·.2)).Nodup)) := rfl
def spIsS (K : PySem.W.Frag) (C : Addr) : Sp := fun vs H Q _ => ∃ (bv tv : V) (to : Option (List Str)) (f : Addr) (fs : List Addr) (ds : List FD) (L : List Str), vs = [bv, tv, .ref f] ∧ flatV bv = true ∧ TopsAt K H tv to ∧ H f = some (.tup (fs.map V.ref)) ∧ Forms H C fs ds ∧ fs.length ≤ 40 ∧
  (∀ ys, to = some ys → ∀ y ∈ ys ++ said ds, y ∈ L) ∧ L.length < 64 ∧ ∀ H', Same H H' → Q (.bl (schB bv to ds)) H'
theorem flat_strs (ys : List Str) : (ys.map V.str).all flatV = true := List.all_eq_true.mpr fun x hx => by
  obtain ⟨y, _, rfl⟩ := List.mem_map.mp hx
  rfl
theorem chain_dec {a b n : Nat} {p q : Prop} [Decidable p] [Decidable q] (ha : a = n ↔ p) (hb : b = n ↔ q) : (if decide (V.int (a : Int) = V.int (b : Int)) = true then decide (V.int (b : Int) = V.int (n : Int)) else false) = (decide p && decide q) := by
  have e : ∀ x y : Nat, decide (V.int (x : Int) = V.int (y : Int)) = decide (x = y) := fun x y => decide_eq_decide.mpr ⟨fun z => by have := V.int.inj z; omega, fun z => by rw [z]⟩
  rw [e, e, show decide p = decide (a = n) from (decide_eq_decide.mpr ha).symm, show decide q = decide (b = n) from (decide_eq_decide.mpr hb).symm]
  by_cases h1 : a = n <;> by_cases h2 : b = n <;> by_cases h3 : a = b <;> simp_all
section
variable {P : Program} {w : World} {K : PySem.W.Frag} {mg : Str → Option Value} {base : Heap} {C : Addr}
theorem ki_tu : kitB "tuple" "tuple" = some true := by decide +kernel
theorem ok_is_scheme {tf ts' : Tok} (D : Df K mg "_is_scheme" s_is_scheme ["bare", "tops", "forms"]) (T : FormC K C) (TI : FormI K C) (TP : FormP P w K mg base C) (gF : mg "Form" = some (.ref C)) (G_is_names : Cg P w K mg base 2 "is_names" (spNames K)) (G_sorts_of : Cg P w K mg base 3 "_sorts_of" (spSorts K C))
    (z_isinstance : mg "isinstance" = none) (z_tuple : mg "tuple" = none) (z_all : mg "all" = none) (z_len : mg "len" = none) (z_set : mg "set" = none) (c_MAX_FORMS : mg "MAX_FORMS" = some (.int 24 tf)) (c_MAX_SORTS : mg "MAX_SORTS" = some (.int 8 ts')) : Cg P w K mg base 4 "_is_scheme" (spIsS K C) := by
  obtain ⟨p1, g1, fd1, o1, G1, b1⟩ := TP.get ("called", "_called") (by simp)
  obtain ⟨p2, g2, fd2, o2, G2, b2⟩ := TP.get ("sort_name", "_sort_name") (by simp)
  obtain ⟨p3, g3, fd3, o3, G3, b3⟩ := TP.get ("children", "_children") (by simp)
  refine D.ok sc_is_scheme (fun vs H Q E h => ?_) (fun cdv A outer s H vs Q E f0 hc hr h => ?_)
  · obtain ⟨bv, tv, to, f, fs, ds, L, rfl, _⟩ := h
    rfl
  · obtain ⟨bv, tv, to, f, fs, ds, L, rfl, fl, ta, hf, F, lf, sub, lL, q⟩ := h
    refine ⟨_, (pss_cons (ps_if (PW.pt (pw_or (pt_not (pt_val (pe_cg G_is_names hc hr (by rfl) (pa_cons (pv 1) pa_nil)))) (pw_or1 (pt_cmpR op_notIn_seq (pv 0) (pv 1) (by rfl)))))
      (pss_one (ps_ret pe_bl))
      pss_nil)
      (pss_cons (ps_if (PW.pt (pw_or (pt_not (pt_val (pe_callB call_isi (by rfl) z_isinstance (by decide +kernel) (pa_cons (pv 2) (pa_cons (pe_bltn (v := .ty "tuple") (by rfl) z_tuple (by decide +kernel) rfl) pa_nil))))) (pw_or1 (pt_not (pt_val (pe_callB (cr_all rfl) (by rfl) z_all (by decide +kernel)
        (pa_cons (pe_lc (own := [("form", 5)]) (g := gName 5) (by rfl) sc_is_scheme.nd (pi_tup (pv 2)) (blkOk_by (own := [("form", 5)]) (N := ["bare", "tops", "forms", "names", "kinds", "form"]) (sc := defScope s_is_scheme) (by decide +kernel)) (fun _ _ _ _ _ => pg_name (i := 5) sc_is_scheme.nd rfl (Or.inl rfl)) (fun _ _ _ _ _ => pts_nil)
          (fun _ _ _ _ _ => (pe_callB (call_isi : CallR _ _ (rIsi K)) (by rfl) z_isinstance (by decide +kernel) (pa_cons (pv 5) (pa_cons (pe_glob (v := .ref C) (by rfl) gF rfl) pa_nil))))) pa_nil)))))))
      (pss_one (ps_ret pe_bl))
      pss_nil)
      (pss_cons (ps_if (PW.pt (pw_or (pt_not (pt_chain op_le op_le pe_int (pe_callB call_len_seq (by rfl) z_len PySem.boot_len (pa_cons (pv 2) pa_nil)) (pe_glob (v := .int 24) rfl c_MAX_FORMS ⟨_, rfl⟩)))
        (pw_or1 (pt_cmpR op_gt (pe_callB call_len_seq (by rfl) z_len PySem.boot_len (pa_cons (pe_cg G_sorts_of hc hr (by rfl) (pa_cons (pv 1) (pa_cons (pv 2) pa_nil))) pa_nil)) (pe_glob (v := .int 8) rfl c_MAX_SORTS ⟨_, rfl⟩) (nomark _)))))
      (pss_one (ps_ret pe_bl))
      pss_nil)
      (pss_cons (ps_set (i := 3) sc_is_scheme.nd rfl (Or.inl rfl) (pe_callB cr_lenSet (by rfl) z_len (by decide +kernel) (pa_cons (pe_callTy (cr_setCnt rfl) (by rfl) z_set (by decide +kernel)
        (pa_cons (pe_lc (own := [("form", 5)]) (g := gName 5) (by rfl) sc_is_scheme.nd (pi_tup (pv 2)) (blkOk_by (own := [("form", 5)]) (N := ["bare", "tops", "forms", "names", "kinds", "form"]) (sc := defScope s_is_scheme) (by decide +kernel)) (fun _ _ _ _ _ => pg_name (i := 5) sc_is_scheme.nd rfl (Or.inl rfl)) (fun _ _ _ _ _ => pts_nil)
          (fun _ _ _ _ _ => (pe_propG (n := "called") (pv 5) T.c o1 G1 hc (hr.mono (by decide)) b1))) pa_nil)) pa_nil)))
      (pss_cons (ps_set (i := 4) sc_is_scheme.nd rfl (Or.inl rfl) (pe_callB cr_lenSet (by rfl) z_len (by decide +kernel) (pa_cons (pe_callTy (cr_setKeys rfl hr.units) (by rfl) z_set (by decide +kernel)
        (pa_cons (pe_lc (own := [("form", 5)]) (g := gName 5) (by rfl) sc_is_scheme.nd (pi_tup (pv 2)) (blkOk_by (own := [("form", 5)]) (N := ["bare", "tops", "forms", "names", "kinds", "form"]) (sc := defScope s_is_scheme) (by decide +kernel)) (fun _ _ _ _ _ => pg_name (i := 5) sc_is_scheme.nd rfl (Or.inl rfl)) (fun _ _ _ _ _ => pts_nil)
          (fun _ _ _ _ _ => (pe_tup (pa_cons (pe_propG (n := "sort_name") (pv 5) T.c o2 G2 hc (hr.mono (by decide)) b2) (pa_cons (pe_propG (n := "children") (pv 5) T.c o3 G3 hc (hr.mono (by decide)) b3) pa_nil))))) pa_nil)) pa_nil)))
      (pss_one (ps_ret (pe_chain op_eq op_eq (pv 3) (pv 4) (pe_callB call_len_seq (by rfl) z_len PySem.boot_len (pa_cons (pv 2) pa_nil)))))))))), ?_⟩
    have big : ∀ {n : Nat}, n ≤ 200 → n < sizeLine := fun h => Nat.lt_of_le_of_lt h (by decide)
    cases to with
    | none =>
      exact ⟨_, rfl, tv, false, rfl, ta, fun H1 s1 => ⟨_, rfl, iteT (q H1 s1)⟩⟩
    | some ys =>
      obtain ⟨t, rfl, ht, fy, ly, ny⟩ := ta
      refine ⟨_, rfl, .ref t, true, rfl, .inl ⟨t, ys, rfl, ht, fy, by omega, ny.symm⟩, fun H1 s1 => ⟨_, rfl, iteF ⟨_, rfl, _, rfl, t, _, rfl, .inr (.inl (.inl (s1 _ _ ht))), fl, flat_strs ys, _, rfl, ?_⟩⟩⟩
      have q1 : ∀ H', Same H1 H' → Q (.bl (schB bv (some ys) ds)) H' := fun H' s => q H' (s1.trans s)
      rw [schB_some] at q1
      cases mem : inV bv (ys.map V.str) with
      | false =>
        rw [mem] at q1
        simp only [Bool.false_and] at q1
        exact iteT (q1 H1 (Same.refl _))
      | true =>
        rw [mem] at q1
        simp only [Bool.true_and] at q1
        refine iteF ?_
        have hf1 := s1 _ _ hf
        have F1 : ∀ {H' : Hp}, Same H1 H' → ∀ (i : Nat) (a : Addr) (d : FD), fs[i]? = some a → ds[i]? = some d → ∃ ch ts, FormAt H' C a ch d.1 d.2.1 ts d.2.2 := fun s i a d e1 e2 => by
          obtain ⟨ch, ts, FA⟩ := F.at_ i a d e1 e2
          exact ⟨ch, ts, FA.sm (s1.trans s)⟩
        have hT : ∀ {H' : Hp}, Same H1 H' → SqT K H' f (fs.map V.ref) := fun s => .inl (.inl (s _ _ hf1))
        have next : ∀ {i : Nat} {x : V}, (fs.map V.ref)[i]? = some x → ∃ a d, x = .ref a ∧ fs[i]? = some a ∧ ds[i]? = some d := fun {i x} hx => by
          rw [List.getElem?_map] at hx
          obtain ⟨a, ha, rfl⟩ := Option.map_eq_some_iff.mp hx
          have il : i < ds.length := by
            have := (List.getElem?_eq_some_iff.mp ha).1
            have := F.len
            omega
          exact ⟨a, ds[i], rfl, ha, List.getElem?_eq_getElem il⟩
        refine ⟨_, rfl, _, _, _, _, true, rfl, .ty _, .base (.tup hf1), kit_ty ki_tu, _, rfl, iteF ⟨_, rfl, f, rfl, ⟨_, hT (Same.refl _)⟩, fun D1 nD1 => ?_⟩⟩
        refine lc_tup (K := K) (a := f) (xs := fs.map V.ref) (fun i H' => Same H1 H' ∧ H' D1 = some (.lst ((List.replicate i true).map V.bl))) ⟨same_put nD1 (Same.refl _), upd_same⟩ (fun i H' _ h => hT h.1) (fun i x H2 hx h => ?_) (fun H2 h => ?_)
        · obtain ⟨s2, e2⟩ := h
          obtain ⟨a, d, rfl, ha, hd⟩ := next hx
          obtain ⟨ch, ts, ⟨dx, fa⟩, _⟩ := F1 s2 i a d ha hd
          refine ⟨rfl, _, rfl, _, _, _, _, true, rfl, .own C, .base (.ins fa T.c TI.ca TI.sp TI.tk TI.mo), TI.yes, _, e2, ?_, same_put nD1 s2, ?_⟩
          · rw [List.length_map, List.length_replicate]
            have := (List.getElem?_eq_some_iff.mp ha).1
            exact big (by omega)
          · rw [upd_same, List.replicate_succ', List.map_append]
            rfl
        · obtain ⟨s2, e2⟩ := h
          refine ⟨D1, List.replicate (fs.map V.ref).length true, rfl, .inl (.inl e2), _, rfl, ?_⟩
          have al : (List.replicate (fs.map V.ref).length true).all id = true := List.all_eq_true.mpr fun b hb => (List.mem_replicate.mp hb).2
          rw [al]
          refine iteF ?_
          have ln : ds.length = fs.length := F.len.symm
          have len : (fs.map V.ref).length = ds.length := by rw [List.length_map, F.len]
          -- how many forms there are
          have q2 : ∀ H', Same H2 H' → Q _ H' := fun H' s => q1 H' (s2.trans s)
          refine ⟨_, rfl, f, _, rfl, .inr (hT s2), _, _, rfl, rfl, _, rfl, ?_⟩
          rw [len]
          by_cases h1 : 1 ≤ ds.length
          · rw [decide_eq_true (show (1 : Int) ≤ (ds.length : Int) by omega)]
            rw [decide_eq_true h1, Bool.true_and] at q2
            refine iteT ⟨_, _, rfl, rfl, _, rfl, ?_⟩
            by_cases h24 : ds.length ≤ 24
            · rw [decide_eq_true (show (ds.length : Int) ≤ 24 by omega)]
              rw [decide_eq_true h24, Bool.true_and] at q2
              have s12 := s1.trans s2
              refine iteF ⟨_, rfl, _, rfl, t, f, ys, L, fs, ds, rfl, s12 _ _ ht, s2 _ _ hf1, ⟨F.len, F1 s2⟩, ly, lf, sub ys rfl, lL, fun p zs H3 s3 e3 mz srt nd => ?_⟩
              refine ⟨p, _, rfl, .inr (.inl (.inl e3)), _, _, rfl, rfl, _, rfl, ?_⟩
              have lz : zs.length = (dd (ys ++ said ds)).length := len_dd nd mz
              rw [List.length_map, lz]
              have q3 : ∀ H', Same H3 H' → Q _ H' := fun H' s => q2 H' (s3.trans s)
              have s13 := s2.trans s3
              by_cases h8 : (dd (ys ++ said ds)).length ≤ 8
              · rw [decide_eq_false (show ¬ (8 : Int) < ((dd (ys ++ said ds)).length : Int) by omega)]
                rw [decide_eq_true h8, Bool.true_and] at q3
                refine iteF ?_
                -- the names
                refine ⟨_, rfl, f, rfl, ⟨_, hT s13⟩, fun D2 nD2 => ?_⟩
                refine lc_tup (K := K) (a := f) (xs := fs.map V.ref) (fun i H' => Same H3 H' ∧ H' D2 = some (.lst (((ds.take i).map (·.1)).map V.str))) ⟨same_put nD2 (Same.refl _), upd_same⟩ (fun i H' _ h => hT (s13.trans h.1)) (fun i x H4 hx h => ?_) (fun H4 h => ?_)
                · obtain ⟨s4, e4⟩ := h
                  obtain ⟨a, d, rfl, ha, hd⟩ := next hx
                  obtain ⟨ch, ts, ⟨dx, fa⟩, _⟩ := F1 (s13.trans s4) i a d ha hd
                  refine ⟨rfl, _, rfl, a, dx, _, rfl, fa, a, ch, dx, d.1, d.2.1, .str d.1, rfl, fa, by rfl, _, e4, ?_, same_put nD2 s4, ?_⟩
                  · rw [List.length_map, List.length_map, List.length_take]
                    exact big (by omega)
                  · rw [upd_same, List.take_add_one, hd, List.map_append, List.map_append]
                    rfl
                · obtain ⟨s4, e4⟩ := h
                  rw [len, List.take_of_length_le (Nat.le_refl _)] at e4
                  refine ⟨D2, ds.map (·.1), rfl, .inl (.inl (.inl e4)), by rw [List.length_map]; omega, fun st n1 nst le1 cnt1 => ?_⟩
                  have s5 := same_new (o := SetN st n1) nst
                  rw [List.length_map] at le1 cnt1
                  refine ⟨st, n1, rfl, upd_same, by omega, ?_⟩
                  have s14 := (s13.trans s4).trans s5
                  generalize upd H4 st (SetN st n1) = H5 at s5 s14 ⊢
                  -- the kinds
                  refine ⟨_, rfl, f, rfl, ⟨_, hT s14⟩, fun D3 nD3 => ?_⟩
                  refine lc_tup (K := K) (a := f) (xs := fs.map V.ref) (fun i H' => Same H5 H' ∧ ∃ ms : List Nb.Mem, H' D3 = some (.lst (ms.map fun m => V.ref m.2)) ∧ ms.map (·.1) = (ds.take i).map (fun d => kindK d.2) ∧ ∀ m ∈ ms, Dp K H' (.ref m.2) m.1.data) ⟨same_put nD3 (Same.refl _), [], upd_same, rfl, fun m hm => nomatch hm⟩
                    (fun i H' _ h => hT (s14.trans h.1)) (fun i x H6 hx h => ?_) (fun H6 h => ?_)
                  · obtain ⟨s6, ms, e6, em, dm⟩ := h
                    obtain ⟨a, d, rfl, ha, hd⟩ := next hx
                    obtain ⟨ch, ts, ⟨dx, fa⟩, kd⟩ := F1 (s14.trans s6) i a d ha hd
                    refine ⟨rfl, _, rfl, a, dx, _, rfl, fa, a, ch, dx, d.1, d.2.1, .str d.2.1, rfl, fa, by rfl, _, rfl, a, dx, _, rfl, fa, a, ch, dx, d.1, d.2.1, .ref ch, rfl, fa, by rfl, by show 2 ≤ sizeLine; decide, fun u nu => ?_⟩
                    have s7 := same_new (o := .tup [.str d.2.1, .ref ch]) nu
                    have tD : u ≠ D3 := fun z => by
                      rw [z, e6] at nu
                      cases nu
                    have ml : ms.length ≤ i := by
                      have := congrArg List.length em
                      rw [List.length_map, List.length_map, List.length_take] at this
                      omega
                    have il : i < 24 := by
                      have := (List.getElem?_eq_some_iff.mp hd).1
                      omega
                    refine ⟨_, s7 _ _ e6, by rw [List.length_map]; exact big (by omega), same_put nD3 (s6.trans s7), ms ++ [(kindK d.2, u)], ?_, ?_, fun m hm => ?_⟩
                    · rw [upd_same, List.map_append]
                      rfl
                    · rw [List.map_append, em, List.take_add_one, hd, List.map_append]
                      rfl
                    · have keep : ∀ b x, b ≠ D3 → (upd H6 u (.tup [.str d.2.1, .ref ch])) b = some x → (upd (upd H6 u (.tup [.str d.2.1, .ref ch])) D3 (.lst (ms.map (fun m => V.ref m.2) ++ [.ref u]))) b = some x := fun b x n e => by rw [upd_ne n]; exact e
                      refine dp_but (s7 _ _ e6) keep _ _ ?_
                      rcases List.mem_append.mp hm with hm | hm
                      · exact Gd.Dp.same s7 _ _ (dm m hm)
                      · cases List.mem_singleton.mp hm
                        show Dp K _ (.ref u) (kindK d.2).data
                        rw [kind_data]
                        exact .tup (.inl (.inl upd_same)) (.cons (.str _) (.cons (kd.same s7).dp .nil))
                  · obtain ⟨s6, ms, e6, em, dm⟩ := h
                    rw [len, List.take_of_length_le (Nat.le_refl _)] at em
                    have lm : ms.length = ds.length := by
                      have := congrArg List.length em
                      rw [List.length_map, List.length_map] at this
                      exact this
                    refine ⟨D3, ms, rfl, .inl (.inl e6), fun m hm => ⟨dm m hm, ?_⟩, by omega, fun st2 n2 nst2 le2 cnt2 => ?_⟩
                    · have : m.1 ∈ ds.map fun d => kindK d.2 := by
                        rw [← em]
                        exact List.mem_map.mpr ⟨m, hm, rfl⟩
                      obtain ⟨d, _, e⟩ := List.mem_map.mp this
                      rw [← e]
                      exact kind_depth _
                    · have s8 := same_new (o := SetN st2 n2) nst2
                      rw [em, lm, nodup_kinds] at cnt2
                      refine ⟨st2, n2, rfl, upd_same, by omega, ?_⟩
                      have s15 := (s14.trans s6).trans s8
                      have fin := q3 _ (((s4.trans s5).trans s6).trans s8)
                      rw [← chain_dec cnt1 cnt2] at fin
                      refine ⟨_, rfl, _, rfl, rfl, _, rfl, ?_⟩
                      cases e12 : decide (V.int (n1 : Int) = V.int (n2 : Int)) with
                      | false =>
                        rw [e12] at fin
                        exact iteF fin
                      | true =>
                        rw [e12] at fin
                        refine iteT ⟨_, rfl, f, _, rfl, .inr (hT s15), rfl, ?_⟩
                        rw [len]
                        exact fin
              · rw [decide_eq_true (show (8 : Int) < ((dd (ys ++ said ds)).length : Int) by omega)]
                rw [decide_eq_false h8, Bool.false_and] at q3
                exact iteT (q3 H3 (Same.refl _))
            · rw [decide_eq_false (show ¬ (ds.length : Int) ≤ 24 by omega)]
              rw [decide_eq_false h24, Bool.false_and, Bool.false_and] at q2
              exact iteT (q2 H2 (Same.refl _))
          · rw [decide_eq_false (show ¬ (1 : Int) ≤ (ds.length : Int) by omega)]
            rw [decide_eq_false h1, Bool.false_and, Bool.false_and, Bool.false_and] at q2
            exact iteF ⟨_, rfl, iteT (q2 H2 (Same.refl _))⟩
end
end K12
set_option Elab.async false
set_option linter.all false
set_option autoImplicit false
set_option maxRecDepth 100000
set_option maxHeartbeats 4000000
namespace K12
open PySem PySem.Spec PyProof.Rows L2 Vb Wd Xd Xo Ts K01
abbrev s_S_init : Stmt := inB (topS 25) 0
theorem sc_S_init : FnScope ["self", "bare", "tops", "forms", "by_name", "form", "name"] ["self", "bare", "tops", "forms"] (defScope s_S_init) := ⟨rfl, rfl, rfl, by decide +kernel, rfl, by decide +kernel, by decide +kernel⟩
/-- all but what stands at a stays -/
def But (a : Addr) (H H' : Hp) : Prop := ∀ x o, x ≠ a → H x = some o → H' x = some o
theorem But.refl (a : Addr) (H : Hp) : But a H H := fun _ _ _ e => e
theorem But.trans {a : Addr} {H H1 H2 : Hp} (s : But a H H1) (t : But a H1 H2) : But a H H2 := fun x o n e => t x o n (s x o n e)
theorem But.of {a : Addr} {H H1 : Hp} (s : Same H H1) : But a H H1 := fun x o _ e => s x o e
theorem But.put {a : Addr} {H : Hp} (o : HO) : But a H (upd H a o) := fun x y n e => by
  rw [upd_ne n]
  exact e
theorem Kid.but {H H' : Hp} {a t : Addr} {n : Str} {s : Int} {C dx : Addr} {gs : List (Str × V)} (ha : H a = some (.ins C dx gs)) (b : But a H H') (k : Kid H t n s) : Kid H' t n s :=
  ⟨b _ _ (fun z => by
    have := k.at_
    rw [z, ha] at this
    cases this) k.at_, k.nam, k.plain, k.lo, k.hi⟩
theorem Kids.but {H H' : Hp} {a c : Addr} {ts : List Addr} {cs : List (Str × Int)} {C dx : Addr} {gs : List (Str × V)} (ha : H a = some (.ins C dx gs)) (b : But a H H') (k : Kids H c ts cs) : Kids H' c ts cs :=
  ⟨b _ _ (fun z => by
    have := k.at_
    rw [z, ha] at this
    cases this) k.at_, k.len, k.lo, k.hi, fun i t c' h1 h2 => (k.kid i t c' h1 h2).but ha b⟩
/-- the scheme at a: its bare sort, its tops, its forms ascending by name -/
structure SchemeAt (H : Hp) (C CS a : Addr) (b : Str) (ys : List Str) (ds : List FD) : Prop where
  ex : ∃ (dx t bn nm f so : Addr) (kvs : List (L2.Key × V)) (fs : List Addr) (zs : List Str), H a = some (.ins CS dx (fldsS b t bn nm f so)) ∧ H t = some (.tup (ys.map V.str)) ∧ H nm = some (.tup ((ds.map (·.1)).map V.str)) ∧ H f = some (.tup (fs.map V.ref)) ∧ Forms H C fs ds ∧
    H bn = some (.dK kvs) ∧ (∀ (i : Nat) (a' : Addr) (d : FD), fs[i]? = some a' → ds[i]? = some d → valV kvs (Sum.inr d.1) = some (.ref a')) ∧ H so = some (.tup (zs.map V.str)) ∧ (∀ k, k ∈ zs ↔ k ∈ ys ++ said ds) ∧ sortedS zs = true ∧ zs.Nodup
  srt : sortedS (ds.map (·.1)) = true
  once : (ds.map (·.1)).Nodup
  few : 1 ≤ ds.length ∧ ds.length ≤ 24
  nams : ∀ d ∈ ds, isNam (.str d.1) = true ∧ isNam (.str d.2.1) = true
  tops : (∀ y ∈ ys, Fine y) ∧ ys.length ≤ 60 ∧ (ys.all nam && asc ys) = true ∧ b ∈ ys
  sorts : (dd (ys ++ said ds)).length ≤ 8
theorem inV_str {v : V} (fl : flatV v = true) {ys : List Str} (h : inV v (ys.map V.str) = true) : ∃ b, v = .str b ∧ b ∈ ys := by
  unfold inV at h
  obtain ⟨y, hy, e⟩ := List.any_eq_true.mp h
  obtain ⟨z, hz, rfl⟩ := List.mem_map.mp hy
  cases v with
  | str b =>
    have : z = b := by simpa [eqV] using e
    exact ⟨b, rfl, this ▸ hz⟩
  | non => simp [eqV] at e
  | bl _ => simp [eqV] at e
  | int _ => simp [eqV] at e
  | byt _ => cases fl
  | flt _ => cases fl
  | ref _ => cases fl
  | ty _ => cases fl
/-- what a call of Scheme is asked with -/
structure SArgs (K : PySem.W.Frag) (H : Hp) (C f : Addr) (bv tv : V) (to : Option (List Str)) (fs : List Addr) (ds : List FD) (L : List Str) : Prop where
  flat : flatV bv = true
  tops : TopsAt K H tv to
  at_ : H f = some (.tup (fs.map V.ref))
  forms : Forms H C fs ds
  few : fs.length ≤ 40
  sub : ∀ ys, to = some ys → ∀ y ∈ ys ++ said ds, y ∈ L
  lL : L.length < 64
  nams : ∀ d ∈ ds, isNam (.str d.1) = true ∧ isNam (.str d.2.1) = true
def spInitS (K : PySem.W.Frag) (C CS CI : Addr) : Sp := fun vs H Q E => ∃ (a dx f : Addr) (bv tv : V) (to : Option (List Str)) (fs : List Addr) (ds : List FD) (L : List Str), vs = [.ref a, bv, tv, .ref f] ∧ H a = some (.ins CS dx []) ∧ SArgs K H C f bv tv to fs ds L ∧
  (∀ b ys, bv = .str b → to = some ys → schB bv to ds = true → ∀ H' ds', But a H H' → SchemeAt H' C CS a b ys ds' → ds'.Perm ds → Q .non H') ∧ (schB bv to ds = false → ∀ H', Same H H' → E (.ref CI) none H')
/-! ### forms by their names -/
def kvsP (ps : List (FD × Addr)) : List (L2.Key × V) := ps.map fun p => (Sum.inr p.1.1, V.ref p.2)
def pOf (ps : List (FD × Addr)) (y : Str) : FD × Addr := (ps.find? fun p => decide (p.1.1 = y)).getD (("", "", []), 0)
theorem pOf_mem {ps : List (FD × Addr)} {y : Str} (h : y ∈ ps.map (·.1.1)) : pOf ps y ∈ ps ∧ (pOf ps y).1.1 = y := by
  obtain ⟨p, hp, rfl⟩ := List.mem_map.mp h
  have hs : (ps.find? fun q => decide (q.1.1 = p.1.1)).isSome = true := List.find?_isSome.mpr ⟨p, hp, by simp⟩
  obtain ⟨q, hq⟩ := Option.isSome_iff_exists.mp hs
  have e : pOf ps p.1.1 = q := by
    unfold pOf
    rw [hq]
    rfl
  rw [e]
  have := List.find?_some hq
  exact ⟨List.mem_of_find?_eq_some hq, of_decide_eq_true this⟩
theorem once_at {ps : List (FD × Addr)} (nd : (ps.map (·.1.1)).Nodup) {p q : FD × Addr} (hp : p ∈ ps) (hq : q ∈ ps) (e : p.1.1 = q.1.1) : p = q := by
  induction ps with
  | nil => cases hp
  | cons r ps ih =>
    rw [List.map_cons] at nd
    obtain ⟨n1, n2⟩ := List.nodup_cons.mp nd
    rcases List.mem_cons.mp hp with ep | hp2
    · rcases List.mem_cons.mp hq with eq | hq2
      · rw [ep, eq]
      · exact (n1 (List.mem_map.mpr ⟨q, hq2, by rw [← e, ep]⟩)).elim
    · rcases List.mem_cons.mp hq with eq | hq2
      · exact (n1 (List.mem_map.mpr ⟨p, hp2, by rw [e, eq]⟩)).elim
      · exact ih n2 hp2 hq2
theorem pOf_self {ps : List (FD × Addr)} (nd : (ps.map (·.1.1)).Nodup) {p : FD × Addr} (hp : p ∈ ps) : pOf ps p.1.1 = p := by
  obtain ⟨h1, h2⟩ := pOf_mem (List.mem_map.mpr ⟨p, hp, rfl⟩)
  exact once_at nd h1 hp h2
theorem pOf_perm {ps : List (FD × Addr)} (nd : (ps.map (·.1.1)).Nodup) {ys : List Str} (pm : ys.Perm (ps.map (·.1.1))) : (ys.map (pOf ps)).Perm ps := by
  have h := pm.map (pOf ps)
  rw [List.map_map] at h
  have e : ps.map (pOf ps ∘ fun p => p.1.1) = ps := by
    have : ps.map (pOf ps ∘ fun p => p.1.1) = ps.map id := List.map_congr_left fun p hp => pOf_self nd hp
    rw [this, List.map_id]
  rw [e] at h
  exact h
theorem kvsP_keys (ps : List (FD × Addr)) : (kvsP ps).map (·.1) = (ps.map (·.1.1)).map Sum.inr := by
  unfold kvsP
  rw [List.map_map, List.map_map]
  rfl
theorem kvsP_nodup {ps : List (FD × Addr)} (nd : (ps.map (·.1.1)).Nodup) : ((kvsP ps).map (·.1)).Nodup := by
  rw [kvsP_keys]
  unfold List.Nodup
  rw [List.pairwise_map]
  exact List.Pairwise.imp (fun n e => n (Sum.inr.inj e)) nd
theorem kvsP_val {ps : List (FD × Addr)} (nd : (ps.map (·.1.1)).Nodup) {p : FD × Addr} (hp : p ∈ ps) : valV (kvsP ps) (Sum.inr p.1.1) = some (.ref p.2) := by
  have := val_nodup (kvsP_nodup nd) (Sum.inr p.1.1, V.ref p.2) (List.mem_map.mpr ⟨p, hp, rfl⟩)
  exact this
theorem kvsP_put {ps : List (FD × Addr)} {p : FD × Addr} (h : p.1.1 ∉ ps.map (·.1.1)) : putK (kvsP ps) (Sum.inr p.1.1) (V.ref p.2) = kvsP (ps ++ [p]) := by
  have none_ : valV (kvsP ps) (Sum.inr p.1.1) = none := by
    cases e : valV (kvsP ps) (Sum.inr p.1.1) with
    | none => rfl
    | some v =>
      have m := valV_in e
      rw [kvsP_keys] at m
      obtain ⟨y, hy, e2⟩ := List.mem_map.mp m
      exact absurd (Sum.inr.inj e2 ▸ hy) h
  rw [putK_new _ none_]
  unfold kvsP
  rw [List.map_append]
  rfl
theorem said_perm {ds ds' : List FD} (pm : ds'.Perm ds) (k : Str) : k ∈ said ds' ↔ k ∈ said ds := by
  unfold said
  rw [List.mem_flatMap, List.mem_flatMap]
  exact ⟨fun ⟨d, h, m⟩ => ⟨d, pm.mem_iff.mp h, m⟩, fun ⟨d, h, m⟩ => ⟨d, pm.mem_iff.mpr h, m⟩⟩
/-- what is known of an error class without an __init__ of its own, over ValueError -/
structure ErrC (K : PySem.W.Frag) (mg : Str → Option Value) (x : Str) (C : Addr) : Prop where
  e : PySem.W.excIn K C [.type "ValueError", .type "Exception", .type "BaseException", .type "object"] "ValueError.__new__" = true
  g : mg x = some (.ref C)
  k : PySem.W.keepIn K (.ref C) = true
  b : PySem.W.subIn K (.ref C) (.type "BaseException") = some true
  t : PySem.W.typeIn K (.ref C) = some (.type "type")
section
variable {P : Program} {w : World} {K : PySem.W.Frag} {mg : Str → Option Value} {base : Heap} {C CS CI : Addr}
theorem ok_S_init {f0 : Addr} {fd : FuncData} (F : Fun K "__init__" "Scheme.__init__" s_S_init f0 fd) (T : FormC K C) (TS : SchemeC K CS) (TP : FormP P w K mg base C) (TE : ErrC K mg "InvalidScheme" CI) (G_is_scheme : Cg P w K mg base 4 "_is_scheme" (spIsS K C)) (G_sorts_of : Cg P w K mg base 3 "_sorts_of" (spSorts K C))
    (z_tuple : mg "tuple" = none) (z_sorted : mg "sorted" = none) : FnE P w K mg base 5 f0 fd ["self", "bare", "tops", "forms"] (spInitS K C CS CI) := by
  obtain ⟨p1, g1, fd1, o1, G1, b1⟩ := TP.get ("called", "_called") (by simp)
  refine goes_exc F sc_S_init (fun vs H Q E h => ?_) (fun cdv A outer s H vs Q E hc hr tk h => ?_)
  · obtain ⟨a, dx, f, bv, tv, to, fs, ds, L, rfl, _⟩ := h
    rfl
  · obtain ⟨a, dx, f, bv, tv, to, fs, ds, L, rfl, ha, X, q1, q2⟩ := h
    refine ⟨_, (pss_cons (ps_if (pt_not (pt_val (pe_cg G_is_scheme hc hr (by rfl) (pa_cons (pv 1) (pa_cons (pv 2) (pa_cons (pv 3) pa_nil))) (hx := pass0)))) (pss_one (ps_raise (by rfl) tk (pmk_own PySem.F.excBase_ValueError TE.e TE.g TE.k (raises_own TE.b TE.t) (by rfl)))) pss_nil)
      (pss_cons (ps_set (i := 4) sc_S_init.nd rfl (Or.inr rfl) (pe_dc (own := [("form", 5)]) (g := gName 5) (by rfl) sc_S_init.nd (pi_tup (pv 3)) (blkOk_by (own := [("form", 5)]) (N := ["self", "bare", "tops", "forms", "by_name", "form", "name"]) (sc := defScope s_S_init) (by decide +kernel)) (fun _ _ _ _ _ => pg_name (i := 5) sc_S_init.nd rfl (Or.inl rfl)) (fun _ _ _ _ _ => pts_nil)
        (fun _ _ _ _ _ => (pe_propG (n := "called") (pv 5) T.c o1 G1 hc (hr.mono (by decide)) b1)) (fun _ _ _ _ _ => pv 5)))
      (pss_cons (ps_fld (f := "_bare") (pv 0) (pv 1) (by rfl))
      (pss_cons (ps_fld (f := "_tops") (pv 0) (pv 2) (by rfl))
      (pss_cons (ps_fld (f := "_by_name") (pv 0) (pv 4) (by rfl))
      (pss_cons (ps_fld (f := "_names") (pv 0) (pe_callTy (cr_tuple : CallR _ _ (rTup K)) (by rfl) z_tuple (by decide +kernel) (pa_cons (pe_callB (call_sortedD rfl) (by rfl) z_sorted (by decide +kernel) (pa_cons (pv 4) pa_nil)) pa_nil)) (by rfl))
      (pss_cons (ps_fld (f := "_forms") (pv 0) (pe_callTy (cr_tuple : CallR _ _ (rTup K)) (by rfl) z_tuple (by decide +kernel) (pa_cons (pe_lc (own := [("name", 6)]) (g := gName 6) (by rfl) sc_S_init.nd (pi_tup (pe_fld (f := "_names") (pv 0) (by rfl))) (blkOk_by (own := [("name", 6)]) (N := ["self", "bare", "tops", "forms", "by_name", "form", "name"]) (sc := defScope s_S_init) (by decide +kernel)) (fun _ _ _ _ _ => pg_name (i := 6) sc_S_init.nd rfl (Or.inl rfl)) (fun _ _ _ _ _ => pts_nil)
        (fun _ _ _ _ _ => (pe_dget (hu_of hr) (pv 4) (pv 6) (fun _ _ => rfl)))) pa_nil)) (by rfl))
      (pss_one (ps_fld (f := "_sorts") (pv 0) (pe_cg G_sorts_of hc hr (by rfl) (pa_cons (pv 2) (pa_cons (pv 3) pa_nil)) (hx := pass0)) (by rfl)))))))))), ?_⟩
    refine ⟨_, rfl, _, rfl, _, rfl, bv, tv, to, f, fs, ds, L, rfl, X.flat, X.tops, X.at_, X.forms, X.few, X.sub, X.lL, fun H1 s1 => ⟨_, rfl, ?_⟩⟩
    cases e : schB bv to ds with
    | false => exact iteT (q2 e H1 s1)
    | true =>
      have big : ∀ {n : Nat}, n ≤ 200 → n < sizeLine := fun h => Nat.lt_of_le_of_lt h (by decide)
      cases to with
      | none => cases e
      | some ys =>
        have es := e
        rw [schB_some] at es
        simp only [Bool.and_eq_true, decide_eq_true_eq] at es
        obtain ⟨⟨⟨mem, d1, d24⟩, d8⟩, once, kinds⟩ := es
        obtain ⟨b, rfl, bm⟩ := inV_str X.flat mem
        obtain ⟨t, rfl, ht, fy, ly, ny⟩ := X.tops
        have FL := X.forms.len
        generalize eps : ds.zip fs = ps
        have psl : ps.length = ds.length := by rw [← eps, List.length_zip, FL, Nat.min_self]
        have ps1 : ps.map (·.1) = ds := by rw [← eps]; exact List.map_fst_zip (by omega)
        have psn : ps.map (·.1.1) = ds.map (·.1) := by rw [← ps1, List.map_map]; rfl
        have nd : (ps.map (·.1.1)).Nodup := by rw [psn]; exact once
        have atp : ∀ p ∈ ps, ∃ i : Nat, ds[i]? = some p.1 ∧ fs[i]? = some p.2 := fun p hp => by
          obtain ⟨i, hi⟩ := List.mem_iff_getElem?.mp hp
          rw [← eps, List.getElem?_zip_eq_some] at hi
          exact ⟨i, hi.1, hi.2⟩
        have hf1 := s1 _ _ X.at_
        have ha1 := s1 _ _ ha
        have ht1 := s1 _ _ ht
        refine iteF ⟨_, rfl, f, rfl, ⟨_, .inl (.inl hf1)⟩, fun D nD => ?_⟩
        refine dc_tup (K := K) (a := f) (xs := fs.map V.ref) (fun i H' => Same H1 H' ∧ H' D = some (.dK (kvsP (ps.take i)))) ⟨same_put nD (Same.refl _), by rw [upd_same]; rfl⟩ (fun i H' _ h => .inl (.inl (h.1 _ _ hf1))) (fun i x H2 hx h => ?_) (fun H2 h => ?_)
        · obtain ⟨s2, e2⟩ := h
          rw [List.getElem?_map] at hx
          obtain ⟨a', ha', rfl⟩ := Option.map_eq_some_iff.mp hx
          have il : i < ds.length := by
            have := (List.getElem?_eq_some_iff.mp ha').1
            omega
          obtain ⟨ch, ts, FA⟩ := X.forms.at_ i a' ds[i] ha' (List.getElem?_eq_getElem il)
          have hd : ds[i]? = some ds[i] := List.getElem?_eq_getElem il
          generalize ds[i] = d at FA hd
          obtain ⟨⟨dx', fa⟩, _⟩ := FA.sm (s1.trans s2)
          have hp : ps[i]? = some (d, a') := by rw [← eps, List.getElem?_zip_eq_some]; exact ⟨hd, ha'⟩
          have out : d.1 ∉ (ps.take i).map (·.1.1) := fun m => by
            obtain ⟨q, hq, eq⟩ := List.mem_map.mp m
            have hq' := List.mem_of_mem_take hq
            have := once_at nd hq' (List.mem_of_getElem? hp) eq
            rw [this] at hq
            obtain ⟨j, hj⟩ := List.mem_iff_getElem?.mp hq
            rw [List.getElem?_take] at hj
            split at hj
            · rename_i ji
              have nd2 : ps.Nodup := by
                unfold List.Nodup at nd ⊢
                rw [List.pairwise_map] at nd
                exact nd.imp fun n e => n (by rw [e])
              have := (List.getElem?_inj (by rw [psl]; omega) nd2).mp (hj.trans hp.symm)
              omega
            · cases hj
          refine ⟨rfl, _, rfl, a', dx', _, rfl, fa, a', ch, dx', d.1, d.2.1, .str d.1, rfl, fa, by rfl, _, rfl, kvsP (ps.take i), Sum.inr d.1, rfl, e2, ?_, same_put nD s2, ?_⟩
          · unfold kvsP
            rw [List.length_map, List.length_take]
            exact big (by omega)
          · rw [upd_same, List.take_add_one, hp]
            exact congrArg (fun z => some (HO.dK z)) (kvsP_put (p := (d, a')) out)
        · obtain ⟨s2, e2⟩ := h
          rw [List.length_map, FL, ← psl, List.take_length] at e2
          have aD : a ≠ D := fun z => by
            rw [z] at ha1
            rw [ha1] at nD
            cases nD
          refine ⟨_, rfl, _, rfl, a, CS, dx, _, rfl, s2 _ _ ha1, TS.c, TS.n _ (by simp), by decide, _, rfl, _, rfl, a, CS, dx, _, rfl, upd_same, TS.c, TS.n _ (by simp), by show 1 < 1000; decide, _, rfl, _, rfl, a, CS, dx, _, rfl, upd_same, TS.c, TS.n _ (by simp), by show 2 < 1000; decide, ?_⟩
          rw [upd_upd, upd_upd]
          have s12 := s1.trans s2
          generalize eg3 : (upd H2 a _ : Hp) = H3
          have b3 : But a H2 H3 := by rw [← eg3]; exact But.put _
          have a3 : H3 a = some (.ins CS dx [("_bare", .str b), ("_tops", .ref t), ("_by_name", .ref D)]) := by rw [← eg3]; exact upd_same
          have e3 : H3 D = some (.dK (kvsP ps)) := b3 _ _ (fun z => aD z.symm) e2
          refine ⟨_, rfl, D, kvsP ps, ds.map (·.1), rfl, Rd.of e3, by rw [kvsP_keys, psn], by rw [List.length_map]; omega, fun zs p pm srt np => ?_⟩
          have zl : zs.length = ds.length := by rw [pm.length_eq, List.length_map]
          refine ⟨p, _, rfl, .inl ⟨.inl (.inl upd_same), fun nm nnm => ?_⟩⟩
          have s4 := (same_new (o := .lst (zs.map V.str)) np).trans (same_new (o := .tup (zs.map V.str)) nnm)
          generalize eg4 : upd (upd H3 p (.lst (zs.map V.str))) nm (.tup (zs.map V.str)) = H4 at s4 ⊢
          have n4 : H4 nm = some (.tup (zs.map V.str)) := by rw [← eg4]; exact upd_same
          have anm : nm ≠ a := fun z => by
            have := s4 _ _ a3
            rw [← z, n4] at this
            cases this
          refine ⟨_, rfl, a, CS, dx, _, rfl, s4 _ _ a3, TS.c, TS.n _ (by simp), by show 3 < 1000; decide, ?_⟩
          have b5 : ∀ o, But a H4 (upd H4 a o) := fun o => But.put o
          generalize eg5 : (upd H4 a _ : Hp) = H5
          have b5 : But a H4 H5 := by rw [← eg5]; exact But.put _
          have a5 : H5 a = some (.ins CS dx [("_bare", .str b), ("_tops", .ref t), ("_by_name", .ref D), ("_names", .ref nm)]) := by rw [← eg5]; exact upd_same
          have n5 := b5 _ _ anm n4
          have e5 := b5 _ _ (fun z => aD z.symm) (s4 _ _ e3)
          refine ⟨_, rfl, a, CS, dx, _, .ref nm, rfl, a5, TS.c, TS.n _ (by simp), by rfl, nm, rfl, ⟨_, .inl (.inl n5)⟩, fun D2 nD2 => ?_⟩
          generalize eqs : zs.map (pOf ps) = qs
          have qpm : qs.Perm ps := by rw [← eqs]; exact pOf_perm nd (by rw [psn]; exact pm)
          refine lc_tup (K := K) (a := nm) (xs := zs.map V.str) (fun i H' => Same H5 H' ∧ H' D2 = some (.lst ((qs.take i).map fun q => V.ref q.2))) ⟨same_put nD2 (Same.refl _), upd_same⟩ (fun i H' _ h => .inl (.inl (h.1 _ _ n5))) (fun i x H6 hx h => ?_) (fun H6 h => ?_)
          · obtain ⟨s6, e6⟩ := h
            rw [List.getElem?_map] at hx
            obtain ⟨z, hz, rfl⟩ := Option.map_eq_some_iff.mp hx
            have hq : qs[i]? = some (pOf ps z) := by rw [← eqs, List.getElem?_map, hz]; rfl
            have zm : z ∈ ps.map (·.1.1) := by rw [psn]; exact pm.mem_iff.mp (List.mem_of_getElem? hz)
            obtain ⟨m1, m2⟩ := pOf_mem zm
            have vz := kvsP_val nd m1
            rw [m2] at vz
            refine ⟨rfl, _, rfl, _, rfl, D, .ref (pOf ps z).2, rfl, .inl ⟨kvsP ps, Sum.inr z, .inl (s6 _ _ e5), rfl, vz.symm⟩, _, e6, ?_, same_put nD2 s6, ?_⟩
            · rw [List.length_map, List.length_take]
              have := (List.getElem?_eq_some_iff.mp hz).1
              exact big (by omega)
            · rw [upd_same, List.take_add_one, hq, List.map_append]
              rfl
          · obtain ⟨s6, e6⟩ := h
            have ql : qs.length = ds.length := by rw [qpm.length_eq, psl]
            rw [List.length_map, zl, ← ql, List.take_length] at e6
            refine ⟨D2, _, rfl, .inl ⟨.inl (.inl e6), fun f2 nf2 => ?_⟩⟩
            have s7 := s6.trans (same_new (o := .tup (qs.map fun q => V.ref q.2)) nf2)
            generalize eg7 : upd H6 f2 (.tup (qs.map fun q => V.ref q.2)) = H7 at s7 ⊢
            have f7 : H7 f2 = some (.tup (qs.map fun q => V.ref q.2)) := by rw [← eg7]; exact upd_same
            have af : f2 ≠ a := fun z => by
              have := s7 _ _ a5
              rw [← z, f7] at this
              cases this
            refine ⟨_, rfl, a, CS, dx, _, rfl, s7 _ _ a5, TS.c, TS.n _ (by simp), by show 4 < 1000; decide, ?_⟩
            generalize eg8 : (upd H7 a _ : Hp) = H8
            have b8 : But a H7 H8 := by rw [← eg8]; exact But.put _
            have a8 : H8 a = some (.ins CS dx [("_bare", .str b), ("_tops", .ref t), ("_by_name", .ref D), ("_names", .ref nm), ("_forms", .ref f2)]) := by rw [← eg8]; exact upd_same
            -- all that was there is there
            have bb : But a H1 H8 := ((((But.of s2).trans b3).trans (But.of s4)).trans b5).trans ((But.of s7).trans b8)
            have fa : ∀ {g : Addr} {xs : List V}, H1 g = some (.tup xs) → g ≠ a := fun {g xs} h z => by
              rw [z, ha1] at h
              cases h
            have forms8 : ∀ (i : Nat) (a' : Addr) (d : FD), fs[i]? = some a' → ds[i]? = some d → ∃ ch ts, FormAt H8 C a' ch d.1 d.2.1 ts d.2.2 := fun i a' d h1 h2 => by
              obtain ⟨ch, ts, FA⟩ := X.forms.at_ i a' d h1 h2
              obtain ⟨⟨dx', q⟩, kd⟩ := FA.sm s1
              refine ⟨ch, ts, ⟨dx', bb _ _ (fun z => ?_) q⟩, kd.but ha1 bb⟩
              rw [z, ha1] at q
              cases q
            refine ⟨_, rfl, _, rfl, t, f, ys, L, fs, ds, rfl, bb _ _ (fa ht1) ht1, bb _ _ (fa hf1) hf1, ⟨FL, forms8⟩, ly, X.few, X.sub ys rfl, X.lL, fun so zs' H9 s9 e9 mz srt9 nd9 => ?_⟩
            have aso : so ≠ a := fun z => by
              have := s9 _ _ a8
              rw [← z, e9] at this
              cases this
            refine ⟨_, rfl, a, CS, dx, _, rfl, s9 _ _ a8, TS.c, TS.n _ (by simp), by show 5 < 1000; decide, ?_⟩
            have b9 : But a H9 (upd H9 a (.ins CS dx (fldsS b t D nm f2 so))) := But.put _
            have dpm : (qs.map (·.1)).Perm ds := by
              have := qpm.map (·.1)
              rw [ps1] at this
              exact this
            have bend := (bb.trans (But.of s9)).trans b9
            have names : (qs.map (·.1)).map (·.1) = zs := by
              rw [← eqs, List.map_map, List.map_map]
              have : zs.map (fun z => (pOf ps z).1.1) = zs.map id := List.map_congr_left fun z hz => by
                have zm : z ∈ ps.map (·.1.1) := by rw [psn]; exact pm.mem_iff.mp hz
                exact (pOf_mem zm).2
              rw [List.map_id] at this
              exact this
            have mz' : ∀ k, k ∈ zs' ↔ k ∈ ys ++ said (qs.map (·.1)) := fun k => by
              rw [mz k, List.mem_append, List.mem_append, said_perm dpm k]
            refine q1 b ys rfl rfl e (upd H9 a (.ins CS dx (fldsS b t D nm f2 so))) (qs.map (·.1)) ?_ ⟨⟨dx, t, D, nm, f2, so, kvsP ps, qs.map (·.2), zs', upd_same, ?_, ?_, ?_, ⟨?_, ?_⟩, ?_, ?_, ?_, mz', srt9, nd9⟩, ?_, ?_, ?_, ?_, ⟨fy, ly, ny, bm⟩, ?_⟩ dpm
            · exact fun x o n h => bend x o n (s1 x o h)
            · exact bend _ _ (fa ht1) ht1
            · rw [names]
              exact b9 _ _ anm (s9 _ _ (b8 _ _ anm (s7 _ _ n5)))
            · rw [List.map_map]
              exact b9 _ _ af (s9 _ _ (b8 _ _ af f7))
            · rw [List.length_map, List.length_map]
            · intro i a' d h1 h2
              rw [List.getElem?_map] at h1 h2
              obtain ⟨q, hq, rfl⟩ := Option.map_eq_some_iff.mp h1
              rw [hq] at h2
              cases h2
              obtain ⟨j, j1, j2⟩ := atp q (qpm.mem_iff.mp (List.mem_of_getElem? hq))
              obtain ⟨ch, ts, FA⟩ := X.forms.at_ j _ _ j2 j1
              obtain ⟨⟨dx', q'⟩, kd⟩ := FA.sm s1
              refine ⟨ch, ts, ⟨dx', bend _ _ (fun z => ?_) q'⟩, kd.but ha1 bend⟩
              rw [z, ha1] at q'
              cases q'
            · exact b9 _ _ (fun z => aD z.symm) (s9 _ _ (b8 _ _ (fun z => aD z.symm) (s7 _ _ e5)))
            · intro i a' d h1 h2
              rw [List.getElem?_map] at h1 h2
              obtain ⟨q, hq, rfl⟩ := Option.map_eq_some_iff.mp h1
              rw [hq] at h2
              cases h2
              exact kvsP_val nd (qpm.mem_iff.mp (List.mem_of_getElem? hq))
            · exact b9 _ _ aso e9
            · rw [names]
              exact srt
            · exact ((dpm.map (·.1)).nodup_iff.mpr once)
            · rw [dpm.length_eq]
              exact ⟨d1, d24⟩
            · exact fun d hd => X.nams d (dpm.mem_iff.mp hd)
            · rw [← len_dd nd9 mz', len_dd nd9 mz]
              exact d8
end
end K12
set_option Elab.async false
set_option linter.all false
set_option autoImplicit false
set_option maxRecDepth 100000
set_option maxHeartbeats 4000000
namespace K12
open PySem PySem.Spec PyProof.Rows L2 Vb Wd Xd Xo SX Pc Zc
/-- the fields of a picture -/
def fldsP (p : Pic) (pt nt : Addr) : List (Str × V) := [("_text", .str (S p.cs)), ("_called", calledV p), ("_parts", .ref pt), ("_holes", .int (p.holes : Nat)), ("_levels", .int (p.lev : Nat)), ("_names", .ref nt)]
mutual
/-- the picture p stands at v -/
def PicAt (H : Hp) (C : Addr) : Pic → V → Prop
  | .hole, v => ∃ a dx pt nt, v = .ref a ∧ H a = some (.ins C dx (fldsP .hole pt nt)) ∧ H pt = some (.tup []) ∧ H nt = some (.tup [])
  | .node n ps, v => ∃ a dx pt nt vs, v = .ref a ∧ H a = some (.ins C dx (fldsP (.node n ps) pt nt)) ∧ H pt = some (.tup vs) ∧ H nt = some (.tup (txts (Pic.node n ps).nms)) ∧ PicsAt H C ps vs
def PicsAt (H : Hp) (C : Addr) : List Pic → List V → Prop
  | [], vs => vs = []
  | p :: ps, vs => ∃ v r, vs = v :: r ∧ PicAt H C p v ∧ PicsAt H C ps r
end
theorem PicAt.ex {H : Hp} {C : Addr} {p : Pic} {v : V} (h : PicAt H C p v) : ∃ a dx pt nt vs, v = .ref a ∧ H a = some (.ins C dx (fldsP p pt nt)) ∧ H pt = some (.tup vs) ∧ H nt = some (.tup (txts p.nms)) ∧ PicsAt H C p.parts vs := by
  cases p with
  | hole =>
    obtain ⟨a, dx, pt, nt, e, h1, h2, h3⟩ : ∃ a dx pt nt, v = .ref a ∧ H a = some (.ins C dx (fldsP .hole pt nt)) ∧ H pt = some (.tup []) ∧ H nt = some (.tup []) := h
    exact ⟨a, dx, pt, nt, [], e, h1, h2, h3, rfl⟩
  | node n ps => exact h
theorem PicAt.mk {H : Hp} {C a dx pt nt : Addr} {p : Pic} {vs : List V} (h1 : H a = some (.ins C dx (fldsP p pt nt))) (h2 : H pt = some (.tup vs)) (h3 : H nt = some (.tup (txts p.nms))) (h4 : PicsAt H C p.parts vs) : PicAt H C p (.ref a) := by
  cases p with
  | hole =>
    have e : vs = [] := h4
    subst e
    exact (⟨a, dx, pt, nt, rfl, h1, h2, h3⟩ : ∃ a' dx pt nt, (V.ref a) = .ref a' ∧ H a' = some (.ins C dx (fldsP .hole pt nt)) ∧ H pt = some (.tup []) ∧ H nt = some (.tup []))
  | node n ps => exact (⟨a, dx, pt, nt, vs, rfl, h1, h2, h3, h4⟩ : ∃ a' dx pt nt vs, (V.ref a) = .ref a' ∧ H a' = some (.ins C dx (fldsP (.node n ps) pt nt)) ∧ H pt = some (.tup vs) ∧ H nt = some (.tup (txts (Pic.node n ps).nms)) ∧ PicsAt H C ps vs)
theorem PicsAt.len {H : Hp} {C : Addr} : ∀ {ps : List Pic} {vs : List V}, PicsAt H C ps vs → vs.length = ps.length
  | [], vs, h => by
    have e : vs = [] := h
    rw [e]
    rfl
  | p :: ps, vs, h => by
    obtain ⟨v, r, e, _, h2⟩ : ∃ v r, vs = v :: r ∧ PicAt H C p v ∧ PicsAt H C ps r := h
    rw [e, List.length_cons, List.length_cons, PicsAt.len h2]
theorem PicsAt.get {H : Hp} {C : Addr} : ∀ {ps : List Pic} {vs : List V} {i : Nat} {p : Pic} {v : V}, PicsAt H C ps vs → ps[i]? = some p → vs[i]? = some v → PicAt H C p v
  | [], _, i, _, _, _, h1, _ => by simp at h1
  | q :: ps, vs, i, p, v, h, h1, h2 => by
    obtain ⟨v0, r, e, a0, ar⟩ : ∃ v r, vs = v :: r ∧ PicAt H C q v ∧ PicsAt H C ps r := h
    subst e
    cases i with
    | zero =>
      simp at h1 h2
      rw [← h1, ← h2]
      exact a0
    | succ i => exact PicsAt.get ar (by simpa using h1) (by simpa using h2)
theorem PicsAt.of {H : Hp} {C : Addr} : ∀ {ps : List Pic} {vs : List V}, vs.length = ps.length → (∀ (i : Nat) (p : Pic) (v : V), ps[i]? = some p → vs[i]? = some v → PicAt H C p v) → PicsAt H C ps vs
  | [], vs, l, _ => by
    show vs = []
    exact List.length_eq_zero_iff.mp l
  | p :: ps, vs, l, h => by
    cases vs with
    | nil => simp at l
    | cons v r => exact (⟨v, r, rfl, h 0 p v rfl rfl, PicsAt.of (by simpa using l) fun i q u h1 h2 => h (i + 1) q u (by simpa using h1) (by simpa using h2)⟩ : ∃ v' r', v :: r = v' :: r' ∧ PicAt H C p v' ∧ PicsAt H C ps r')
/-- what stays for pictures to stay -/
def KeepP (H H' : Hp) : Prop := ∀ x o, H x = some o → (∃ C dx gs, o = HO.ins C dx gs ∧ gs.length = 6) ∨ (∃ xs, o = HO.tup xs) → H' x = some o
theorem KeepP.of {H H' : Hp} (s : Same H H') : KeepP H H' := fun x o h _ => s x o h
theorem KeepP.trans {H H1 H' : Hp} (a : KeepP H H1) (b : KeepP H1 H') : KeepP H H' := fun x o h k => b x o (a x o h k) k
theorem KeepP.but {H H' : Hp} {a C dx : Addr} {gs : List (Str × V)} (ha : H a = some (.ins C dx gs)) (l : gs.length ≠ 6) (b : But a H H') : KeepP H H' := fun x o h k => by
  refine b x o (fun z => ?_) h
  rw [z, ha] at h
  cases h
  rcases k with ⟨C', dx', gs', e, l'⟩ | ⟨xs, e⟩
  · cases e
    exact l l'
  · cases e
theorem KeepP.past {d : Addr} {H H' : Hp} (hd : Dice H d) (p : Past d H H') : KeepP H H' := fun x o h k => by
  refine p.1 x o (fun z => ?_) h
  obtain ⟨g, s, c, e⟩ := hd
  rw [z, e] at h
  cases h
  rcases k with ⟨C', dx', gs', e, l'⟩ | ⟨xs, e⟩ <;> cases e
theorem KeepP.putL {H : Hp} {l : Addr} {xs ys : List V} (h : H l = some (.lst xs)) : KeepP H (upd H l (.lst ys)) := fun x o hx k => by
  rw [upd_ne (fun z => ?_)]
  · exact hx
  · rw [z, h] at hx
    cases hx
    rcases k with ⟨C', dx', gs', e, l'⟩ | ⟨xs, e⟩ <;> cases e
theorem PicAt.keep {H H' : Hp} {C : Addr} (k : KeepP H H') (p : Pic) : ∀ v, PicAt H C p v → PicAt H' C p v := by
  refine Pic.ind (P := fun p => ∀ v, PicAt H C p v → PicAt H' C p v) (fun v h => ?_) (fun n ps ih v h => ?_) p
  · obtain ⟨a, dx, pt, nt, vs, rfl, h1, h2, h3, h4⟩ := h.ex
    exact PicAt.mk (k _ _ h1 (.inl ⟨_, _, _, rfl, rfl⟩)) (k _ _ h2 (.inr ⟨_, rfl⟩)) (k _ _ h3 (.inr ⟨_, rfl⟩)) h4
  · obtain ⟨a, dx, pt, nt, vs, rfl, h1, h2, h3, h4⟩ := h.ex
    have l := h4.len
    exact PicAt.mk (k _ _ h1 (.inl ⟨_, _, _, rfl, rfl⟩)) (k _ _ h2 (.inr ⟨_, rfl⟩)) (k _ _ h3 (.inr ⟨_, rfl⟩)) (PicsAt.of l fun i q u e1 e2 => ih q (List.mem_of_getElem? e1) u (h4.get e1 e2))
theorem PicsAt.keep {H H' : Hp} {C : Addr} (k : KeepP H H') {ps : List Pic} {vs : List V} (h : PicsAt H C ps vs) : PicsAt H' C ps vs :=
  PicsAt.of h.len fun i p v e1 e2 => (h.get e1 e2).keep k p v
theorem PicsAt.snoc {H : Hp} {C : Addr} {ps : List Pic} {vs : List V} {p : Pic} {v : V} (h : PicsAt H C ps vs) (hp : PicAt H C p v) : PicsAt H C (ps ++ [p]) (vs ++ [v]) :=
  PicsAt.of (by rw [List.length_append, List.length_append, h.len]; rfl) fun i q u e1 e2 => by
    have l := h.len
    rw [List.getElem?_append] at e1 e2
    by_cases il : i < ps.length
    · rw [if_pos il] at e1
      rw [if_pos (by omega)] at e2
      exact h.get e1 e2
    · rw [if_neg il] at e1
      rw [if_neg (by omega), l] at e2
      have e0 : i - ps.length = 0 := by
        have := (List.getElem?_eq_some_iff.mp e1).1
        simp at this
        omega
      rw [e0] at e1 e2
      simp at e1 e2
      rw [← e1, ← e2]
      exact hp
/-- what the written part tells of the class Picture -/
structure PictC (K : PySem.W.Frag) (C : Addr) : Prop where
  c : Cls K C
  n : ∀ f ∈ ["_text", "_called", "_parts", "_holes", "_levels", "_names"], NoAttr K C f
/-- the properties -/
structure PictP (P : Program) (w : World) (K : PySem.W.Frag) (mg : Str → Option Value) (base : Heap) (C : Addr) : Prop where
  get : ∀ x ∈ [(("text" : Str), ("_text" : Str)), ("called", "_called"), ("parts", "_parts"), ("holes", "_holes"), ("levels", "_levels"), ("names", "_names")], ∃ (p g : Addr) (fd : FuncData), PropOf K C x.1 p g ∧ FnG P w K mg base 1 g fd ["self"] (spFld C x.2) ∧ Binds K fd ["self"] []
abbrev s_P_init : Stmt := inB (topS 34) 0
theorem sc_P_init : FnScope ["self", "text", "called", "texts", "below", "part", "name"] ["self", "text"] (defScope s_P_init) := ⟨rfl, rfl, rfl, by decide +kernel, rfl, by decide +kernel, by decide +kernel⟩
abbrev s_P_text : Stmt := inB (topS 34) 2
theorem sc_P_text : FnScope ["self"] ["self"] (defScope s_P_text) := ⟨rfl, rfl, rfl, by decide +kernel, rfl, by decide +kernel, by decide +kernel⟩
abbrev s_P_called : Stmt := inB (topS 34) 3
theorem sc_P_called : FnScope ["self"] ["self"] (defScope s_P_called) := ⟨rfl, rfl, rfl, by decide +kernel, rfl, by decide +kernel, by decide +kernel⟩
abbrev s_P_parts : Stmt := inB (topS 34) 4
theorem sc_P_parts : FnScope ["self"] ["self"] (defScope s_P_parts) := ⟨rfl, rfl, rfl, by decide +kernel, rfl, by decide +kernel, by decide +kernel⟩
abbrev s_P_holes : Stmt := inB (topS 34) 5
theorem sc_P_holes : FnScope ["self"] ["self"] (defScope s_P_holes) := ⟨rfl, rfl, rfl, by decide +kernel, rfl, by decide +kernel, by decide +kernel⟩
abbrev s_P_levels : Stmt := inB (topS 34) 6
theorem sc_P_levels : FnScope ["self"] ["self"] (defScope s_P_levels) := ⟨rfl, rfl, rfl, by decide +kernel, rfl, by decide +kernel, by decide +kernel⟩
abbrev s_P_names : Stmt := inB (topS 34) 7
theorem sc_P_names : FnScope ["self"] ["self"] (defScope s_P_names) := ⟨rfl, rfl, rfl, by decide +kernel, rfl, by decide +kernel, by decide +kernel⟩
section
variable {P : Program} {w : World} {K : PySem.W.Frag} {mg : Str → Option Value} {base : Heap} {C : Addr}
theorem ok_P_text {f : Addr} {fd : FuncData} (F : Fun K "text" "Picture.text" s_P_text f fd) (T : PictC K C) : FnG P w K mg base 1 f fd ["self"] (spFld C "_text") := by
  refine goes_by F sc_P_text (fun vs H Q E h => ?_) (fun cdv A outer s H vs Q E hc hr h => ?_)
  · obtain ⟨a, dx, fs, v, rfl, _⟩ := h
    rfl
  · obtain ⟨a, dx, fs, v, rfl, ha, hv, q⟩ := h
    exact ⟨_, pss_one (ps_ret (pe_fld (f := "_text") (pv 0) (by rfl))), _, rfl, a, C, dx, fs, v, rfl, ha, T.c, T.n _ (by simp), hv, q⟩
theorem ok_P_called {f : Addr} {fd : FuncData} (F : Fun K "called" "Picture.called" s_P_called f fd) (T : PictC K C) : FnG P w K mg base 1 f fd ["self"] (spFld C "_called") := by
  refine goes_by F sc_P_called (fun vs H Q E h => ?_) (fun cdv A outer s H vs Q E hc hr h => ?_)
  · obtain ⟨a, dx, fs, v, rfl, _⟩ := h
    rfl
  · obtain ⟨a, dx, fs, v, rfl, ha, hv, q⟩ := h
    exact ⟨_, pss_one (ps_ret (pe_fld (f := "_called") (pv 0) (by rfl))), _, rfl, a, C, dx, fs, v, rfl, ha, T.c, T.n _ (by simp), hv, q⟩
theorem ok_P_parts {f : Addr} {fd : FuncData} (F : Fun K "parts" "Picture.parts" s_P_parts f fd) (T : PictC K C) : FnG P w K mg base 1 f fd ["self"] (spFld C "_parts") := by
  refine goes_by F sc_P_parts (fun vs H Q E h => ?_) (fun cdv A outer s H vs Q E hc hr h => ?_)
  · obtain ⟨a, dx, fs, v, rfl, _⟩ := h
    rfl
  · obtain ⟨a, dx, fs, v, rfl, ha, hv, q⟩ := h
    exact ⟨_, pss_one (ps_ret (pe_fld (f := "_parts") (pv 0) (by rfl))), _, rfl, a, C, dx, fs, v, rfl, ha, T.c, T.n _ (by simp), hv, q⟩
theorem ok_P_holes {f : Addr} {fd : FuncData} (F : Fun K "holes" "Picture.holes" s_P_holes f fd) (T : PictC K C) : FnG P w K mg base 1 f fd ["self"] (spFld C "_holes") := by
  refine goes_by F sc_P_holes (fun vs H Q E h => ?_) (fun cdv A outer s H vs Q E hc hr h => ?_)
  · obtain ⟨a, dx, fs, v, rfl, _⟩ := h
    rfl
  · obtain ⟨a, dx, fs, v, rfl, ha, hv, q⟩ := h
    exact ⟨_, pss_one (ps_ret (pe_fld (f := "_holes") (pv 0) (by rfl))), _, rfl, a, C, dx, fs, v, rfl, ha, T.c, T.n _ (by simp), hv, q⟩
theorem ok_P_levels {f : Addr} {fd : FuncData} (F : Fun K "levels" "Picture.levels" s_P_levels f fd) (T : PictC K C) : FnG P w K mg base 1 f fd ["self"] (spFld C "_levels") := by
  refine goes_by F sc_P_levels (fun vs H Q E h => ?_) (fun cdv A outer s H vs Q E hc hr h => ?_)
  · obtain ⟨a, dx, fs, v, rfl, _⟩ := h
    rfl
  · obtain ⟨a, dx, fs, v, rfl, ha, hv, q⟩ := h
    exact ⟨_, pss_one (ps_ret (pe_fld (f := "_levels") (pv 0) (by rfl))), _, rfl, a, C, dx, fs, v, rfl, ha, T.c, T.n _ (by simp), hv, q⟩
theorem ok_P_names {f : Addr} {fd : FuncData} (F : Fun K "names" "Picture.names" s_P_names f fd) (T : PictC K C) : FnG P w K mg base 1 f fd ["self"] (spFld C "_names") := by
  refine goes_by F sc_P_names (fun vs H Q E h => ?_) (fun cdv A outer s H vs Q E hc hr h => ?_)
  · obtain ⟨a, dx, fs, v, rfl, _⟩ := h
    rfl
  · obtain ⟨a, dx, fs, v, rfl, ha, hv, q⟩ := h
    exact ⟨_, pss_one (ps_ret (pe_fld (f := "_names") (pv 0) (by rfl))), _, rfl, a, C, dx, fs, v, rfl, ha, T.c, T.n _ (by simp), hv, q⟩
end
end K12
set_option Elab.async false
set_option linter.all false
set_option autoImplicit false
set_option maxRecDepth 100000
set_option maxHeartbeats 4000000
namespace K12
open PySem PySem.Spec PyProof.Rows L2 Vb Wd Xd Xo SX Pc Zc Ze
/-- what is known of the class Picture but its __init__'s promise -/
structure EnvQ (P : Program) (w : World) (K : PySem.W.Frag) (mg : Str → Option Value) (base : Heap) (C : Addr) where
  T : PictC K C
  TP : PictP P w K mg base C
  g : mg "Picture" = some (.ref C)
  fI : Addr
  fdI : FuncData
  M : L2.Mk K C fI
  bI : Binds K fdI ["self", "text"] []
def spInitP (C : Addr) (n : Nat) : Sp := fun vs H Q _ => ∃ (a dx : Addr) (p : Pic), vs = [.ref a, .str (S p.cs)] ∧ H a = some (.ins C dx []) ∧ p.Ok ∧ p.lev < n ∧ p.lev ≤ 4 ∧ ∀ H', But a H H' → PicAt H' C p (.ref a) → Q .non H'
theorem PicsAt.nilv {H : Hp} {C : Addr} {vs : List V} (h : PicsAt H C [] vs) : vs = [] := h
theorem sum_cast : ∀ ns : List Nat, (ns.map fun (n : Nat) => (n : Int)).sum = ((ns.sum : Nat) : Int)
  | [] => rfl
  | n :: ns => by
    rw [List.map_cons, List.sum_cons, List.sum_cons, sum_cast ns]
    omega
theorem levL_mem : ∀ {ps : List Pic}, ps ≠ [] → ∃ p ∈ ps, p.lev = levL ps
  | [], h => (h rfl).elim
  | [p], _ => ⟨p, List.mem_cons_self .., by show p.lev = max p.lev 0; omega⟩
  | p :: q :: ps, _ => by
    obtain ⟨r, hr, e⟩ := levL_mem (ps := q :: ps) (List.cons_ne_nil _ _)
    have e0 : levL (p :: q :: ps) = max p.lev (levL (q :: ps)) := rfl
    by_cases h : levL (q :: ps) ≤ p.lev
    · exact ⟨p, List.mem_cons_self .., by omega⟩
    · exact ⟨r, List.mem_cons_of_mem _ hr, by omega⟩
theorem flat_take {ps : List Pic} {i : Nat} {q : Pic} (h : ps[i]? = some q) : nmsL (ps.take (i + 1)) = nmsL (ps.take i) ++ q.nms := by
  rw [nms_flat, nms_flat, List.take_add_one, h, List.flatMap_append]
  simp
theorem nms_len (p : Pic) : p.Ok → p.nms.length ≤ lenB p.lev := by
  refine Pic.ind (P := fun p => p.Ok → p.nms.length ≤ lenB p.lev) (fun _ => Nat.zero_le _) (fun n ps ih ok => ?_) p
  obtain ⟨w, l2, l4, oks⟩ := ok_node ok
  have hb : ∀ p ∈ ps, p.nms.length ≤ lenB (levL ps) := fun p hp => Nat.le_trans (ih p hp (oks p hp)) (lenB_mono (lev_le hp))
  have all : ∀ qs : List Pic, (∀ p ∈ qs, p.nms.length ≤ lenB (levL ps)) → (nmsL qs).length ≤ qs.length * lenB (levL ps) := fun qs => by
    induction qs with
    | nil => intro _; exact Nat.zero_le _
    | cons q qs ihq =>
      intro h
      have h1 := h q (List.mem_cons_self ..)
      have h2 := ihq fun x hx => h x (List.mem_cons_of_mem _ hx)
      show (q.nms ++ nmsL qs).length ≤ _
      rw [List.length_append, List.length_cons, Nat.succ_mul]
      omega
  have h3 := all ps hb
  have h4 : ps.length * lenB (levL ps) ≤ 4 * lenB (levL ps) := Nat.mul_le_mul_right _ l4
  show (n :: nmsL ps).length ≤ lenB (1 + levL ps)
  rw [Nat.add_comm 1]
  show _ ≤ 14 + 4 * lenB (levL ps)
  rw [List.length_cons]
  omega
theorem len4 {p : Pic} (h : p.Ok) (l : p.lev ≤ 4) : p.cs.length ≤ 1446 := Nat.le_trans (cs_len p h) (Nat.le_trans (lenB_mono l) (by decide))
section
variable {P : Program} {w : World} {K : PySem.W.Frag} {mg : Str → Option Value} {base : Heap} {C : Addr}
theorem ok_P_init {t1 : Tok} (VQ : EnvQ P w K mg base C) (F : Fun K "__init__" "Picture.__init__" s_P_init VQ.fI VQ.fdI) (G_depth : Cg P w K mg base 1 "_depth" spDepth) (G_top_of : Cg P w K mg base 3 "_top_of" spTop) (c_MAX_LEVELS : mg "MAX_LEVELS" = some (.int 4 t1))
    (z_isinstance : mg "isinstance" = none) (z_str : mg "str" = none) (z_tuple : mg "tuple" = none) (z_sum : mg "sum" = none) (z_max : mg "max" = none) : ∀ n, FnG P w K mg base (4 + 2 * n) VQ.fI VQ.fdI ["self", "text"] (spInitP C n)
  | 0 => ⟨fun vs H Q E h => by obtain ⟨a, dx, p, _, _, _, l, _⟩ := h; omega, fun A outer s H args us vs Q E hc hr e0 hb r h => by obtain ⟨a, dx, p, _, _, _, l, _⟩ := h; omega⟩
  | n + 1 => by
    have IH := ok_P_init VQ F G_depth G_top_of c_MAX_LEVELS z_isinstance z_str z_tuple z_sum z_max n
    have e : 4 + 2 * (n + 1) = (4 + 2 * n + 1) + 1 := by omega
    rw [e]
    obtain ⟨p2, g2, fd2, o2, G2, b2⟩ := VQ.TP.get ("holes", "_holes") (by simp)
    obtain ⟨p3, g3, fd3, o3, G3, b3⟩ := VQ.TP.get ("levels", "_levels") (by simp)
    obtain ⟨p4, g4, fd4, o4, G4, b4⟩ := VQ.TP.get ("names", "_names") (by simp)
    refine goes_by F sc_P_init (fun vs H Q E h => ?_) (fun cdv A outer s H vs Q E hc hr h => ?_)
    · obtain ⟨a, dx, p, rfl, _⟩ := h
      rfl
    · obtain ⟨a, dx, p, rfl, ha, ok, ln, l4, q⟩ := h
      have hr3 := hr.mono (show 3 ≤ 4 + 2 * n + 1 by omega)
      have hr2 := hr.mono (show 2 ≤ 4 + 2 * n + 1 by omega)
      refine ⟨_, (pss_cons (ps_if (PW.pt (pw_or (pt_not (pt_val (pe_callB call_isi (by rfl) z_isinstance (by decide +kernel) (pa_cons (pv 1) (pa_cons (pe_bltn (v := .ty "str") (by rfl) z_str (by decide +kernel) rfl) pa_nil))))) (pw_or1 (pt_cmpR op_gt (pe_cg G_depth hc hr3 (by rfl) (pa_cons (pv 1) pa_nil)) (pe_glob (v := .int 4) rfl c_MAX_LEVELS ⟨_, rfl⟩) (nomark _)))))
      pss_never
      pss_nil)
      (pss_cons (ps_asg (pe_cg G_top_of hc hr3 (by rfl) (pa_cons (pv 1) pa_nil)) (pg_tup (by rfl) (pgs_cons (pg_name (i := 2) sc_P_init.nd rfl (Or.inl rfl)) (pgs_cons (pg_name (i := 3) sc_P_init.nd rfl (Or.inl rfl)) pgs_nil))))
      (pss_cons (ps_fld (f := "_text") (pv 0) (pv 1) (by rfl))
      (pss_cons (ps_fld (f := "_called") (pv 0) (pv 2) (by rfl))
      (pss_cons (ps_fld (f := "_parts") (pv 0) (pe_callTy (cr_tuple : CallR _ _ (rTup K)) (by rfl) z_tuple (by decide +kernel) (pa_cons (pe_lc (own := [("part", 5)]) (g := gName 5) (by rfl) sc_P_init.nd (pi_list (pv 3)) (blkOk_by (own := [("part", 5)]) (N := ["self", "text", "called", "texts", "below", "part", "name"]) (sc := defScope s_P_init) (by decide +kernel)) (fun _ _ _ _ _ => pg_name (i := 5) sc_P_init.nd rfl (Or.inl rfl)) (fun _ _ _ _ _ => pts_nil)
        (fun _ _ _ _ _ => (pe_makeE (E := fun _ _ _ => False) (W := fun _ _ _ _ => False) VQ.M (FnE.of IH) hc hr (by rfl) VQ.g VQ.bI LamX.takes0 (fun _ _ _ _ z => z) (pa_cons (pv 5) pa_nil)))) pa_nil)) (by rfl))
      (pss_one (ps_if (pt_cmpR op_isN (pv 2) pe_non (nomark _))
      (pss_cons (ps_fld (f := "_holes") (pv 0) pe_int (by rfl))
      (pss_cons (ps_fld (f := "_levels") (pv 0) pe_int (by rfl))
      (pss_one (ps_fld (f := "_names") (pv 0) (pe_tup pa_nil) (by rfl)))))
      (pss_cons (ps_fld (f := "_holes") (pv 0) (pe_callB (cr_sum rfl) (by rfl) z_sum (by decide +kernel) (pa_cons (pe_lc (own := [("part", 5)]) (g := gName 5) (by rfl) sc_P_init.nd (pi_tup (pe_fld (f := "_parts") (pv 0) (by rfl))) (blkOk_by (own := [("part", 5)]) (N := ["self", "text", "called", "texts", "below", "part", "name"]) (sc := defScope s_P_init) (by decide +kernel)) (fun _ _ _ _ _ => pg_name (i := 5) sc_P_init.nd rfl (Or.inl rfl)) (fun _ _ _ _ _ => pts_nil)
        (fun _ _ _ _ _ => pe_propG (n := "holes") (pv 5) VQ.T.c o2 G2 hc hr2 b2)) pa_nil)) (by rfl))
      (pss_cons (ps_fld (f := "_levels") (pv 0) (pe_op op_add pe_int (pe_callB (cr_max rfl) (by rfl) z_max (by decide +kernel) (pa_cons (pe_lc (own := [("part", 5)]) (g := gName 5) (by rfl) sc_P_init.nd (pi_tup (pe_fld (f := "_parts") (pv 0) (by rfl))) (blkOk_by (own := [("part", 5)]) (N := ["self", "text", "called", "texts", "below", "part", "name"]) (sc := defScope s_P_init) (by decide +kernel)) (fun _ _ _ _ _ => pg_name (i := 5) sc_P_init.nd rfl (Or.inl rfl)) (fun _ _ _ _ _ => pts_nil)
        (fun _ _ _ _ _ => pe_propG (n := "levels") (pv 5) VQ.T.c o3 G3 hc hr2 b3)) pa_nil))) (by rfl))
      (pss_cons (ps_setLc2 (i := 4) (own := [("part", 5), ("name", 6)]) (vs1 := [6]) (g := gName 5) (g1 := gName 6) (by rfl) sc_P_init.nd rfl rfl (sw_true rfl rfl rfl (by decide +kernel)) (pi_tup (pe_fld (f := "_parts") (pv 0) (by rfl)))
        (blkOk_by (own := [("part", 5), ("name", 6)]) (N := ["self", "text", "called", "texts", "below", "part", "name"]) (sc := defScope s_P_init) (by decide +kernel)) (by decide) (fun _ _ _ _ _ => pg_name (i := 5) sc_P_init.nd rfl (Or.inl rfl)) (fun _ _ _ _ _ => pts_nil)
        (fun _ _ _ _ _ => (pi_tup (pe_propG (n := "names") (pv 5) VQ.T.c o4 G4 hc hr2 b4) : PI _ _ _ (iTup K _))) (fun _ _ _ _ _ => pg_name (i := 6) sc_P_init.nd rfl (Or.inl rfl)) (fun _ _ _ _ _ => pts_nil) (fun _ _ _ _ _ => (pv 6)))
      (pss_one (ps_fld (f := "_names") (pv 0) (pe_tup (pa_cons (pv 2) (StX.pa_star (pv 4) pa_nil))) (by rfl))))))))))))), ?_⟩
      refine ⟨_, rfl, _, _, _, _, true, rfl, .ty _, .base (.str _), kit_ty (by decide +kernel), _, rfl, iteF ⟨_, rfl, p.cs, rfl, _, _, rfl, rfl, false, ?_, iteF ?_⟩⟩
      · show V.bl (decide ((4 : Int) < dep p.cs)) = _
        rw [dep_pic ok, decide_eq_false (by omega)]
      refine ⟨_, rfl, p, rfl, ok, Nat.le_trans (len4 ok l4) (by decide), fun t l H1 s1 et el => ?_⟩
      refine ⟨t, _, rfl, .inl (.inl et), rfl, _, _, rfl, _, _, rfl, rfl, ?_⟩
      have T := VQ.T
      refine ⟨_, rfl, _, rfl, a, C, dx, _, rfl, s1 _ _ ha, T.c, T.n _ (by simp), by decide, _, rfl, _, rfl, a, C, dx, _, rfl, upd_same, T.c, T.n _ (by simp), by show 1 < 1000; decide, ?_⟩
      rw [upd_upd, show putF "_called" (calledV p) (putF "_text" (V.str (S p.cs)) []) = ([("_text", V.str (S p.cs)), ("_called", calledV p)] : List (Str × V)) from rfl]
      have b1 : But a H (upd H1 a (.ins C dx [("_text", .str (S p.cs)), ("_called", calledV p)])) := (But.of s1).trans (But.put _)
      have la : l ≠ a := fun z => by
        have := s1 _ _ ha
        rw [← z, el] at this
        cases this
      have el2 : (upd H1 a (.ins C dx [("_text", .str (S p.cs)), ("_called", calledV p)])) l = some (.lst (txts (p.parts.map Pic.cs))) := by
        rw [upd_ne la]
        exact el
      have ea2 : (upd H1 a (.ins C dx [("_text", .str (S p.cs)), ("_called", calledV p)])) a = some (.ins C dx [("_text", .str (S p.cs)), ("_called", calledV p)]) := upd_same
      refine ⟨_, rfl, l, rfl, ⟨_, .inl (.inl el2)⟩, fun D nD => ?_⟩
      generalize upd H1 a (.ins C dx [("_text", .str (S p.cs)), ("_called", calledV p)]) = H2 at b1 el2 ea2 nD ⊢
      have few : p.parts.length ≤ 4 := by
        cases p with
        | hole => exact Nat.zero_le _
        | node m ps => exact (ok_node ok).2.2.1
      have big : ∀ {n : Nat}, n ≤ 4 → n < sizeLine := fun h => Nat.lt_of_le_of_lt h (by decide)
      refine lc_list (K := K) (a := l) (xs := txts (p.parts.map Pic.cs)) (fun i H' => Same H2 H' ∧ ∃ vs, H' D = some (.lst vs) ∧ PicsAt H' C (p.parts.take i) vs) ⟨same_put nD (Same.refl _), [], upd_same, rfl⟩ (fun i H' _ h => .inl (.inl (h.1 _ _ el2))) (fun i x H3 hx h => ?_) (fun H3 h => ?_)
      · obtain ⟨s3, vs, e3, pa⟩ := h
        unfold txts at hx
        rw [List.map_map, List.getElem?_map] at hx
        obtain ⟨r, hr', rfl⟩ := Option.map_eq_some_iff.mp hx
        have rm := List.mem_of_getElem? hr'
        have il := (List.getElem?_eq_some_iff.mp hr').1
        have lr := lev_part rm
        refine ⟨rfl, _, rfl, fun x dx' nx ndx ne => ?_⟩
        refine ⟨x, dx', r, rfl, upd_same, ok_part ok rm, by omega, by omega, fun H4 b4 pr => ⟨rfl, ?_⟩⟩
        have s34 : Same H3 H4 := fun y o hy => b4 _ _ (ne_of_none hy nx) (by
          rw [upd_ne (ne_of_none hy nx), upd_ne (ne_of_none hy ndx)]
          exact hy)
        have e4 := s34 _ _ e3
        have lv := pa.len
        rw [List.length_take] at lv
        refine ⟨vs, e4, big (by omega), same_put nD (s3.trans s34), vs ++ [.ref x], upd_same, ?_⟩
        rw [List.take_add_one, hr']
        have kp := KeepP.putL (ys := vs ++ [.ref x]) e4
        exact (pa.keep ((KeepP.of s34).trans kp)).snoc (pr.keep kp _ _)
      · obtain ⟨s3, vs, e3, pa⟩ := h
        have lx : (txts (p.parts.map Pic.cs)).length = p.parts.length := by rw [txts_len, List.length_map]
        rw [lx, List.take_of_length_le (Nat.le_refl _)] at pa
        refine ⟨D, _, rfl, .inl ⟨.inl (.inl e3), fun r nr => ?_⟩⟩
        have s4 := s3.trans (same_new (o := .tup vs) nr)
        have er : (upd H3 r (.tup vs)) r = some (.tup vs) := upd_same
        have pa4 := pa.keep (KeepP.of (same_new (o := .tup vs) nr))
        generalize upd H3 r (.tup vs) = H4 at s4 er pa4 ⊢
        have ea4 := s4 _ _ ea2
        refine ⟨_, rfl, a, C, dx, _, rfl, ea4, T.c, T.n _ (by simp), by show 2 < 1000; decide, ?_⟩
        rw [show putF "_parts" (V.ref r) ([("_text", V.str (S p.cs)), ("_called", calledV p)] : List (Str × V)) = ([("_text", V.str (S p.cs)), ("_called", calledV p), ("_parts", V.ref r)] : List (Str × V)) from rfl]
        have kp := KeepP.but (gs := [("_text", V.str (S p.cs)), ("_called", calledV p)]) ea4 (by show 2 ≠ 6; decide) (But.put (.ins C dx [("_text", V.str (S p.cs)), ("_called", calledV p), ("_parts", .ref r)]))
        have pa5 := pa4.keep kp
        have ra : r ≠ a := fun z => by
          rw [z, ea4] at er
          cases er
        have er5 : (upd H4 a (.ins C dx [("_text", V.str (S p.cs)), ("_called", calledV p), ("_parts", .ref r)])) r = some (.tup vs) := by
          rw [upd_ne ra]
          exact er
        have b5 : But a H (upd H4 a (.ins C dx [("_text", V.str (S p.cs)), ("_called", calledV p), ("_parts", .ref r)])) := (b1.trans (But.of s4)).trans (But.put _)
        have ea5 : (upd H4 a (.ins C dx [("_text", V.str (S p.cs)), ("_called", calledV p), ("_parts", .ref r)])) a = some (.ins C dx [("_text", V.str (S p.cs)), ("_called", calledV p), ("_parts", .ref r)]) := upd_same
        generalize upd H4 a (.ins C dx [("_text", V.str (S p.cs)), ("_called", calledV p), ("_parts", .ref r)]) = H5 at pa5 er5 b5 ea5 ⊢
        cases p with
        | hole =>
          have ev : vs = [] := pa5.nilv
          subst ev
          refine ⟨_, rfl, rfl, true, rfl, iteT ?_⟩
          refine ⟨_, rfl, a, C, dx, _, rfl, ea5, T.c, T.n _ (by simp), by show 3 < 1000; decide, _, rfl, a, C, dx, _, rfl, upd_same, T.c, T.n _ (by simp), by show 4 < 1000; decide, by show 0 ≤ sizeLine; decide, fun nt nnt => ?_⟩
          rw [upd_upd] at nnt ⊢
          have k6 := KeepP.but ea5 (by show 3 ≠ 6; decide) (But.put (.ins C dx (putF "_levels" (V.int 0) (putF "_holes" (V.int 1) [("_text", V.str (S Pic.hole.cs)), ("_called", calledV .hole), ("_parts", .ref r)]))))
          have b6 := b5.trans (But.put (a := a) (H := H5) (.ins C dx (putF "_levels" (V.int 0) (putF "_holes" (V.int 1) [("_text", V.str (S Pic.hole.cs)), ("_called", calledV .hole), ("_parts", .ref r)]))))
          have er6 := k6 _ _ er5 (.inr ⟨_, rfl⟩)
          have ea6 : (upd H5 a (.ins C dx (putF "_levels" (V.int 0) (putF "_holes" (V.int 1) [("_text", V.str (S Pic.hole.cs)), ("_called", calledV .hole), ("_parts", .ref r)])))) a = some (.ins C dx (putF "_levels" (V.int 0) (putF "_holes" (V.int 1) [("_text", V.str (S Pic.hole.cs)), ("_called", calledV .hole), ("_parts", .ref r)]))) := upd_same
          generalize upd H5 a (.ins C dx (putF "_levels" (V.int 0) (putF "_holes" (V.int 1) [("_text", V.str (S Pic.hole.cs)), ("_called", calledV .hole), ("_parts", .ref r)]))) = H6 at nnt k6 b6 er6 ea6 ⊢
          have s7 := same_new (o := .tup []) nnt
          refine ⟨_, rfl, a, C, dx, _, rfl, s7 _ _ ea6, T.c, T.n _ (by simp), by show 5 < 1000; decide, ?_⟩
          have na : nt ≠ a := fun z => by rw [z, ea6] at nnt; cases nnt
          refine q _ ((b6.trans (But.of s7)).trans (But.put _)) (PicAt.mk (p := .hole) (pt := r) (nt := nt) (vs := []) upd_same ?_ ?_ rfl)
          · rw [upd_ne ra]
            exact s7 _ _ er6
          · rw [upd_ne na]
            exact upd_same
        | node m ps =>
          obtain ⟨wm, l2, lm4, oks⟩ := ok_node ok
          have vl := pa5.len
          have getp : ∀ {H' : Hp}, KeepP H5 H' → ∀ (i : Nat) (x : V), vs[i]? = some x → ∃ q, ps[i]? = some q ∧ PicAt H' C q x := fun k i x hx => by
            have il : i < ps.length := by
              have := (List.getElem?_eq_some_iff.mp hx).1
              have e : (Pic.node m ps).parts.length = ps.length := rfl
              omega
            exact ⟨ps[i], List.getElem?_eq_getElem il, (pa5.get (List.getElem?_eq_getElem il) hx).keep k _ _⟩
          have vl2 : vs.length = ps.length := vl
          refine ⟨_, rfl, rfl, false, rfl, iteF ?_⟩
          refine ⟨_, rfl, a, C, dx, _, .ref r, rfl, ea5, T.c, T.n _ (by simp), by rfl, r, rfl, ⟨_, .inl (.inl er5)⟩, fun D1 nD1 => ?_⟩
          refine lc_tup (K := K) (a := r) (xs := vs) (fun i H' => Same H5 H' ∧ H' D1 = some (.lst (((ps.take i).map fun q => (q.holes : Int)).map V.int))) ⟨same_put nD1 (Same.refl _), upd_same⟩ (fun i H' _ h => .inl (.inl (h.1 _ _ er5))) (fun i x H6 hx h => ?_) (fun H6 h => ?_)
          · obtain ⟨s6, e6⟩ := h
            obtain ⟨q', hq, pq⟩ := getp (KeepP.of s6) i x hx
            obtain ⟨a', dx', pt', nt', vs', rfl, h1, h2, h3, h4⟩ := pq.ex
            refine ⟨rfl, _, rfl, a', dx', _, rfl, h1, a', dx', _, .int (q'.holes : Nat), rfl, h1, by rfl, _, e6, ?_, same_put nD1 s6, ?_⟩
            · rw [List.length_map, List.length_map, List.length_take]
              exact big (by omega)
            · rw [upd_same, List.take_add_one, hq, List.map_append, List.map_append]
              rfl
          · obtain ⟨s6, e6⟩ := h
            rw [vl2, List.take_of_length_le (Nat.le_refl _)] at e6
            refine ⟨D1, _, rfl, .inl (.inl e6), ?_⟩
            have ea6 := s6 _ _ ea5
            refine ⟨_, rfl, a, C, dx, _, rfl, ea6, T.c, T.n _ (by simp), by show 3 < 1000; decide, ?_⟩
            have eh : ((ps.map fun q => (q.holes : Int)).sum) = (((Pic.node m ps).holes : Nat) : Int) := by
              show _ = ((holesL ps : Nat) : Int)
              rw [holes_sum, ← sum_cast, List.map_map]
              rfl
            rw [eh, show putF "_holes" (V.int (((Pic.node m ps).holes : Nat) : Int)) ([("_text", V.str (S (Pic.node m ps).cs)), ("_called", calledV (Pic.node m ps)), ("_parts", V.ref r)] : List (Str × V)) = ([("_text", V.str (S (Pic.node m ps).cs)), ("_called", calledV (Pic.node m ps)), ("_parts", V.ref r), ("_holes", V.int (((Pic.node m ps).holes : Nat) : Int))] : List (Str × V)) from rfl]
            have k6 := (KeepP.of s6).trans (KeepP.but ea6 (by show 3 ≠ 6; decide) (But.put (.ins C dx [("_text", V.str (S (Pic.node m ps).cs)), ("_called", calledV (Pic.node m ps)), ("_parts", V.ref r), ("_holes", V.int (((Pic.node m ps).holes : Nat) : Int))])))
            have b6 := (b5.trans (But.of s6)).trans (But.put (a := a) (H := H6) (.ins C dx [("_text", V.str (S (Pic.node m ps).cs)), ("_called", calledV (Pic.node m ps)), ("_parts", V.ref r), ("_holes", V.int (((Pic.node m ps).holes : Nat) : Int))]))
            have ea7 : (upd H6 a (.ins C dx [("_text", V.str (S (Pic.node m ps).cs)), ("_called", calledV (Pic.node m ps)), ("_parts", V.ref r), ("_holes", V.int (((Pic.node m ps).holes : Nat) : Int))])) a = some (.ins C dx [("_text", V.str (S (Pic.node m ps).cs)), ("_called", calledV (Pic.node m ps)), ("_parts", V.ref r), ("_holes", V.int (((Pic.node m ps).holes : Nat) : Int))]) := upd_same
            generalize upd H6 a (.ins C dx [("_text", V.str (S (Pic.node m ps).cs)), ("_called", calledV (Pic.node m ps)), ("_parts", V.ref r), ("_holes", V.int (((Pic.node m ps).holes : Nat) : Int))]) = H7 at k6 b6 ea7 ⊢
            have er7 := k6 _ _ er5 (.inr ⟨_, rfl⟩)
            refine ⟨_, rfl, a, C, dx, _, .ref r, rfl, ea7, T.c, T.n _ (by simp), by rfl, r, rfl, ⟨_, .inl (.inl er7)⟩, fun D2 nD2 => ?_⟩
            refine lc_tup (K := K) (a := r) (xs := vs) (fun i H' => Same H7 H' ∧ H' D2 = some (.lst (((ps.take i).map fun q => (q.lev : Int)).map V.int))) ⟨same_put nD2 (Same.refl _), upd_same⟩ (fun i H' _ h => .inl (.inl (h.1 _ _ er7))) (fun i x H8 hx h => ?_) (fun H8 h => ?_)
            · obtain ⟨s8, e8⟩ := h
              obtain ⟨q', hq, pq⟩ := getp (k6.trans (KeepP.of s8)) i x hx
              obtain ⟨a', dx', pt', nt', vs', rfl, h1, h2, h3, h4⟩ := pq.ex
              refine ⟨rfl, _, rfl, a', dx', _, rfl, h1, a', dx', _, .int (q'.lev : Nat), rfl, h1, by rfl, _, e8, ?_, same_put nD2 s8, ?_⟩
              · rw [List.length_map, List.length_map, List.length_take]
                exact big (by omega)
              · rw [upd_same, List.take_add_one, hq, List.map_append, List.map_append]
                rfl
            · obtain ⟨s8, e8⟩ := h
              rw [vl2, List.take_of_length_le (Nat.le_refl _)] at e8
              refine ⟨D2, _, rfl, .inl (.inl e8), by rw [List.length_map]; omega, fun mx hm hle => ?_⟩
              have emx : mx = ((levL ps : Nat) : Int) := by
                obtain ⟨q1, hq1, e1⟩ := List.mem_map.mp hm
                obtain ⟨q2, hq2, e2⟩ := levL_mem (ps := ps) (fun z => by rw [z] at l2; simp at l2)
                have h1 := lev_le hq1
                have h2 := hle _ (List.mem_map.mpr ⟨q2, hq2, rfl⟩)
                omega
              subst emx
              have ea8 := s8 _ _ ea7
              refine ⟨_, _, rfl, rfl, _, rfl, a, C, dx, _, rfl, ea8, T.c, T.n _ (by simp), by show 4 < 1000; decide, ?_⟩
              have el5 : (1 : Int) + ((levL ps : Nat) : Int) = (((Pic.node m ps).lev : Nat) : Int) := by
                show _ = ((1 + levL ps : Nat) : Int)
                omega
              rw [show (fun i j => V.int (i + j)) (1 : Int) ((levL ps : Nat) : Int) = V.int (((Pic.node m ps).lev : Nat) : Int) from congrArg V.int el5,
                show putF "_levels" (V.int (((Pic.node m ps).lev : Nat) : Int)) ([("_text", V.str (S (Pic.node m ps).cs)), ("_called", calledV (Pic.node m ps)), ("_parts", V.ref r), ("_holes", V.int (((Pic.node m ps).holes : Nat) : Int))] : List (Str × V)) = ([("_text", V.str (S (Pic.node m ps).cs)), ("_called", calledV (Pic.node m ps)), ("_parts", V.ref r), ("_holes", V.int (((Pic.node m ps).holes : Nat) : Int)), ("_levels", V.int (((Pic.node m ps).lev : Nat) : Int))] : List (Str × V)) from rfl]
              have k8 := (k6.trans (KeepP.of s8)).trans (KeepP.but ea8 (by show 4 ≠ 6; decide) (But.put (.ins C dx [("_text", V.str (S (Pic.node m ps).cs)), ("_called", calledV (Pic.node m ps)), ("_parts", V.ref r), ("_holes", V.int (((Pic.node m ps).holes : Nat) : Int)), ("_levels", V.int (((Pic.node m ps).lev : Nat) : Int))])))
              have b8 := (b6.trans (But.of s8)).trans (But.put (a := a) (H := H8) (.ins C dx [("_text", V.str (S (Pic.node m ps).cs)), ("_called", calledV (Pic.node m ps)), ("_parts", V.ref r), ("_holes", V.int (((Pic.node m ps).holes : Nat) : Int)), ("_levels", V.int (((Pic.node m ps).lev : Nat) : Int))]))
              have ea9 : (upd H8 a (.ins C dx [("_text", V.str (S (Pic.node m ps).cs)), ("_called", calledV (Pic.node m ps)), ("_parts", V.ref r), ("_holes", V.int (((Pic.node m ps).holes : Nat) : Int)), ("_levels", V.int (((Pic.node m ps).lev : Nat) : Int))])) a = some (.ins C dx [("_text", V.str (S (Pic.node m ps).cs)), ("_called", calledV (Pic.node m ps)), ("_parts", V.ref r), ("_holes", V.int (((Pic.node m ps).holes : Nat) : Int)), ("_levels", V.int (((Pic.node m ps).lev : Nat) : Int))]) := upd_same
              generalize upd H8 a (.ins C dx [("_text", V.str (S (Pic.node m ps).cs)), ("_called", calledV (Pic.node m ps)), ("_parts", V.ref r), ("_holes", V.int (((Pic.node m ps).holes : Nat) : Int)), ("_levels", V.int (((Pic.node m ps).lev : Nat) : Int))]) = H9 at k8 b8 ea9 ⊢
              have er9 := k8 _ _ er5 (.inr ⟨_, rfl⟩)
              refine ⟨_, rfl, a, C, dx, _, .ref r, rfl, ea9, T.c, T.n _ (by simp), by rfl, r, rfl, ⟨_, .inl (.inl er9)⟩, fun D3 nD3 => ?_⟩
              have lnm : ∀ i, (nmsL (ps.take i)).length ≤ 5784 := fun i => by
                have e1 : ps = ps.take i ++ ps.drop i := (List.take_append_drop i ps).symm
                have e2 : nmsL ps = nmsL (ps.take i) ++ nmsL (ps.drop i) := by
                  conv => lhs; rw [e1]
                  rw [nms_flat, nms_flat, nms_flat, List.flatMap_append]
                have e3 : (Pic.node m ps).nms = m :: nmsL ps := rfl
                have e4 := nms_len _ ok
                rw [e3, List.length_cons, e2, List.length_append] at e4
                have := lenB_mono l4
                have e5 : lenB 4 ≤ 5784 := by decide
                omega
              refine Ze.walk_tup (K := K) (a := r) (xs := vs) (fun i H' => Same H9 H' ∧ H' D3 = some (.lst (txts (nmsL (ps.take i))))) ⟨same_put nD3 (Same.refl _), upd_same⟩ (fun i H' _ h => .inl (.inl (h.1 _ _ er9))) (fun i x H10 hx h => ?_) (fun H10 h => ?_)
              · obtain ⟨s10, e10⟩ := h
                obtain ⟨q', hq, pq⟩ := getp (k8.trans (KeepP.of s10)) i x hx
                obtain ⟨a', dx', pt', nt', vs', rfl, h1, h2, h3, h4⟩ := pq.ex
                refine ⟨rfl, _, rfl, a', dx', _, rfl, h1, a', dx', _, .ref nt', rfl, h1, by rfl, nt', rfl, ⟨_, .inl (.inl h3)⟩, ?_⟩
                refine Ze.walk_tup (K := K) (a := nt') (xs := txts q'.nms) (fun j H' => Same H9 H' ∧ H' nt' = some (.tup (txts q'.nms)) ∧ H' D3 = some (.lst (txts (nmsL (ps.take i) ++ q'.nms.take j)))) ⟨s10, h3, by rw [List.take_zero, List.append_nil]; exact e10⟩ (fun j H' _ h => .inl (.inl h.2.1)) (fun j y H11 hy h => ?_) (fun H11 h => ?_)
                · obtain ⟨s11, h3', e11⟩ := h
                  unfold txts at hy
                  rw [List.getElem?_map] at hy
                  obtain ⟨u, hu, rfl⟩ := Option.map_eq_some_iff.mp hy
                  have nt3 : nt' ≠ D3 := fun z => by rw [z, e11] at h3'; cases h3'
                  refine ⟨rfl, _, rfl, _, e11, ?_, same_put nD3 s11, by rw [upd_ne nt3]; exact h3', ?_⟩
                  · have la := lnm (i + 1)
                    rw [flat_take hq, List.length_append] at la
                    rw [txts_len, List.length_append, List.length_take]
                    exact Nat.lt_of_le_of_lt (show _ ≤ 5784 by omega) (by decide)
                  · rw [upd_same, List.take_add_one, hu, ← List.append_assoc]
                    show some (HO.lst (txts (nmsL (ps.take i) ++ q'.nms.take j) ++ [.str (S u)])) = _
                    rw [← txts_snoc]
                    rfl
                · obtain ⟨s11, h3', e11⟩ := h
                  rw [txts_len, List.take_of_length_le (Nat.le_refl _)] at e11
                  exact ⟨s11, by rw [e11, flat_take hq]⟩
              · obtain ⟨s10, e10⟩ := h
                rw [vl2, List.take_of_length_le (Nat.le_refl _)] at e10
                have ea10 := s10 _ _ ea9
                have ll := lnm ps.length
                rw [List.take_of_length_le (Nat.le_refl _)] at ll
                refine ⟨_, rfl, _, rfl, D3, _, rfl, .inr (.inl (.inl e10)), ?_, fun nt nnt => ?_⟩
                · rw [List.append_nil, List.length_cons, txts_len]
                  exact Nat.le_trans (show _ ≤ 5785 by omega) (by decide)
                have ex : calledV (Pic.node m ps) :: (txts (nmsL ps) ++ []) = txts (Pic.node m ps).nms := by
                  rw [List.append_nil]
                  rfl
                rw [ex]
                have s11 := same_new (o := .tup (txts (Pic.node m ps).nms)) nnt
                have ent : (upd H10 nt (.tup (txts (Pic.node m ps).nms))) nt = some (.tup (txts (Pic.node m ps).nms)) := upd_same
                have ea11 := s11 _ _ ea10
                generalize upd H10 nt (.tup (txts (Pic.node m ps).nms)) = H11 at s11 ent ea11 ⊢
                refine ⟨_, rfl, a, C, dx, _, rfl, ea11, T.c, T.n _ (by simp), by show 5 < 1000; decide, ?_⟩
                have kz := KeepP.but ea11 (by show 5 ≠ 6; decide) (But.put (.ins C dx (fldsP (Pic.node m ps) r nt)))
                have k11 := ((k8.trans (KeepP.of s10)).trans (KeepP.of s11)).trans kz
                exact q _ (((b8.trans (But.of s10)).trans (But.of s11)).trans (But.put _)) (PicAt.mk (p := .node m ps) (pt := r) (nt := nt) (vs := vs) upd_same (k11 _ _ er5 (.inr ⟨_, rfl⟩)) (kz _ _ ent (.inr ⟨_, rfl⟩)) (pa5.keep k11))
end
end K12
set_option Elab.async false
set_option linter.all false
set_option autoImplicit false
set_option maxRecDepth 100000
set_option maxHeartbeats 4000000
/-! Oq: == and != of lists and tuples of objects, and `in` a tuple of them, whatever each == answers, in calm room. -/
namespace Oq
open PySem PySem.SeqAt
open AutoSeq1 (wpAny_loadPart')
open MeetsSeq MeetsSeq2 MeetsSeq3 SeqRoads2
open GQ (FinOf call_here eqBool_refG)
section
variable {prog : Program} {w : World} {A : Around} {R : Result → Shared → Prop}
theorem arr_get {α : Type} (z : Array α) (i : Nat) (h : i < z.size) : z[((i : Nat) : Int).toNat]? = some z[i] := by simp [h]
/-- at each turn the two lists are read anew -/
def ListJ (prog : Program) (w : World) (A : Around) (E : Value → Shared → Prop) (l b : Addr) (N M : Nat) (e : Nat → Bool) (I : Shared → Prop) : Prop :=
  ∀ s, I s → ∃ (items items2 : Array Value) (n n2 : Nat), s.heap.get? l = some { cls := .type "list", data := .seq items n } ∧ s.heap.get? b = some { cls := .type "list", data := .seq items2 n2 } ∧ items.size = N ∧ items2.size = M ∧
    ∀ (i : Nat) (h1 : i < items.size) (h2 : i < items2.size), wpAny (model prog w) A.in1 (eqBool items[i] items2[i]) (fun r s' => r = e i ∧ I s') E s
theorem eq_loopJ (l b : Addr) (N : Nat) (e : Nat → Bool) (v : Bool) (I : Shared → Prop) (hl : ListJ prog w A (fun e s' => R (.error e) s') l b N N e I)
    (fin : ∀ s, I s → R (.ok (.ret (.bool v))) s) (k : Nat) :
    ∀ i : Nat, N - i = k → i ≤ N → (((List.range N).drop i).all e) = v → ∀ s, I s →
      wpAny (model prog w) A.in1 (Builtin.«list.__eq__.loop» ⟨[.ref l, .ref b, rawInt i, rawInt 2], []⟩) (FinOf prog w A R) (fun e s' => R (.error e) s') s := by
  induction k with
  | zero =>
    intro i hk hi hv s h
    obtain ⟨items, items2, n, n2, hl1, hb1, hs1, hs2, _⟩ := hl _ h
    have hi' : i = N := by omega
    have hR : R (.ok (.ret (.bool v))) s := fin s h
    have hd : (List.range N).drop i = [] := by simp; omega
    rw [hd] at hv
    obtain ⟨hp, g, d, tk, os⟩ := s
    wp_walk using wpAny_loadPart' hl1, wpAny_loadPart' hb1
    have hi1 : items[((i : Nat) : Int).toNat]? = none := by simp; omega
    have hi2 : items2[((i : Nat) : Int).toNat]? = none := by simp; omega
    rw [hi1, hi2]
    wp_walk using wpAny_loadPart' hl1, wpAny_loadPart' hb1
    show R (.ok (.ret (.bool (items.size == items2.size)))) _
    rw [hs1, hs2]
    subst hv
    simpa using hR
  | succ k ih =>
    intro i hk hi hv s h
    obtain ⟨items, items2, n, n2, hl1, hb1, hs1, hs2, turn⟩ := hl _ h
    have hlt : i < items.size := by omega
    have hlt2 : i < items2.size := by omega
    have ht := turn i hlt hlt2
    have hN : i < N := by omega
    have hd : (List.range N).drop i = i :: (List.range N).drop (i + 1) := by simp [List.drop_eq_getElem_cons, hN]
    rw [hd, List.all_cons] at hv
    obtain ⟨hp, g, d, tk, os⟩ := s
    wp_walk using wpAny_loadPart' hl1, wpAny_loadPart' hb1
    have hi1 : items[((i : Nat) : Int).toNat]? = some items[i] := by simp [hlt]
    have hi2 : items2[((i : Nat) : Int).toNat]? = some items2[i] := by simp [hlt2]
    have hc : ((i : Int) + 1) = ((i + 1 : Nat) : Int) := by omega
    rw [hi1, hi2]
    refine wpAny_bind (wpAny_mono ht (fun r s2 h2 => ?_) fun _ _ x => x)
    obtain ⟨hr, h2⟩ := h2
    subst hr
    cases he : e i with
    | true =>
      rw [he, Bool.true_and] at hv
      have hrec := ih (i + 1) (by omega) (by omega) hv s2 h2
      obtain ⟨hp2, g2, d2, tk2, os2⟩ := s2
      wp_walk
      rw [hc]
      exact ⟨plainId_quiet plain_eq_loop _, codeAny_builtin entry_eq_loop (by
        rw [Around.under_plainId plain_eq_loop _]
        exact hrec)⟩
    | false =>
      rw [he, Bool.false_and] at hv
      obtain ⟨items3, items4, n3, n4, hl3, hb3, hs3, hs4, _⟩ := hl _ h2
      have hR : R (.ok (.ret (.bool v))) s2 := fin s2 h2
      obtain ⟨hp2, g2, d2, tk2, os2⟩ := s2
      wp_walk using wpAny_loadPart' hl3, wpAny_loadPart' hb3
      have hi3 : items3[((i : Nat) : Int).toNat]? = some (items3[i]'(by omega)) := arr_get items3 i (by omega)
      have hi4 : items4[((i : Nat) : Int).toNat]? = some (items4[i]'(by omega)) := arr_get items4 i (by omega)
      rw [hi3, hi4]
      wp_walk
      subst hv
      exact hR
theorem list_eqJ (l b : Addr) (N M : Nat) (e : Nat → Bool) (v : Bool) (I : Shared → Prop) (hl : ListJ prog w A (fun e s' => R (.error e) s') l b N M e I)
    (hv : ((decide (N = M) && (List.range N).all e)) = v) (fin : ∀ s, I s → R (.ok (.ret (.bool v))) s) {s : Shared} (h : I s) :
    wpAny (model prog w) A.in1 (Builtin.«list.__eq__» ⟨[.ref l, .ref b], []⟩) (FinOf prog w A R) (fun e s' => R (.error e) s') s := by
  obtain ⟨items, items2, n, n2, hl1, hb1, hs1, hs2, _⟩ := hl _ h
  have f3 := AutoSeq1.sub_list_list
  have hR := fin _ h
  by_cases hNM : N = M
  · subst hNM
    rw [decide_eq_true rfl, Bool.true_and] at hv
    have hrec := eq_loopJ (A := A) (R := R) l b N e v I hl fin _ 0 rfl (Nat.zero_le _) (by simpa using hv) s h
    obtain ⟨hp, g, d, tk, os⟩ := s
    have hne : ¬ (items.size != items2.size) = true := by simp [hs1, hs2]
    wp_walk using wpAny_loadPart' hl1, wpAny_loadPart' hb1
    exact ⟨plainId_quiet plain_eq_loop _, codeAny_builtin entry_eq_loop (by
      rw [Around.under_plainId plain_eq_loop _]
      exact hrec)⟩
  · rw [decide_eq_false hNM, Bool.false_and] at hv
    subst hv
    obtain ⟨hp, g, d, tk, os⟩ := s
    have hne : (items.size != items2.size) = true := by simp [hs1, hs2, hNM]
    wp_walk using wpAny_loadPart' hl1, wpAny_loadPart' hb1
    exact hR
theorem tuple_eqJ (l b : Addr) (items items2 : Array Value) (n n2 : Nat) (dd dd2 : Option Addr) (sl sl2 : Array (Option Value)) (e : Nat → Bool) (v : Bool) (I : Shared → Prop)
    (turn : ∀ i (h1 : i < items.size) (h2 : i < items2.size) s, I s → wpAny (model prog w) A.in1 (eqBool items[i] items2[i]) (fun r s' => r = e i ∧ I s') (fun e s' => R (.error e) s') s)
    (hv : ((decide (items.size = items2.size) && (List.range items.size).all e)) = v) (fin : ∀ s, I s → R (.ok (.ret (.bool v))) s) {s : Shared} (hl1 : s.heap.get? l = some { cls := .type "tuple", dict := dd, data := .seq items n, slots := sl }) (hb1 : s.heap.get? b = some { cls := .type "tuple", dict := dd2, data := .seq items2 n2, slots := sl2 }) (h : I s) :
    wpAny (model prog w) A.in1 (Builtin.«tuple.__eq__» ⟨[.ref l, .ref b], []⟩) (FinOf prog w A R) (fun e s' => R (.error e) s') s := by
  have f2 := AutoSeq1.sub_tuple_tuple
  have hZ : (items.toList.zip items2.toList).length = min items.size items2.size := by simp
  have h0 := h
  obtain ⟨hp, g, d, tk, os⟩ := s
  wp_walk using wpAny_loadPart' hl1, wpAny_loadPart' hb1, wpAny_forIn_list _ (fun rest b s' => b.1 = none ∧ I s' ∧ ∃ i, rest = (items.toList.zip items2.toList).drop i ∧ i ≤ min items.size items2.size ∧ ∀ j, j < i → e j = true) _
  case turn =>
    rintro ⟨y, x⟩ rest b s' ⟨hb', hI, i, hz, hi, hall⟩
    have hlt : i < (items.toList.zip items2.toList).length := by
      rcases Nat.lt_or_ge i (items.toList.zip items2.toList).length with h' | h'
      · exact h'
      · rw [List.drop_of_length_le h'] at hz; cases hz
    have hm : i < min items.size items2.size := hZ ▸ hlt
    have h1 : i < items.size := Nat.lt_of_lt_of_le hm (Nat.min_le_left _ _)
    have h2 : i < items2.size := Nat.lt_of_lt_of_le hm (Nat.min_le_right _ _)
    rw [List.drop_eq_getElem_cons hlt] at hz
    injection hz with hyx hrest
    have hy : y = items[i] := by have := congrArg Prod.fst hyx; simpa using this
    have hx : x = items2[i] := by have := congrArg Prod.snd hyx; simpa using this
    subst hy hx
    refine wpAny_bind (wpAny_mono (turn i h1 h2 s' hI) (fun r s2 q2 => ?_) fun _ _ x => x)
    obtain ⟨hr, q2⟩ := q2
    subst hr
    cases hy : e i with
    | true =>
      wp_walk
      refine ⟨rfl, q2, i + 1, hrest, hm, fun j hj => ?_⟩
      by_cases hji : j = i
      · rw [hji]; exact hy
      · exact hall j (by omega)
    | false =>
      have hR : R (.ok (.ret (.bool v))) s2 := fin s2 q2
      have hf : (List.range items.size).all e = false := by
        cases hq : (List.range items.size).all e with
        | false => rfl
        | true => rw [List.all_eq_true.mp hq i (List.mem_range.mpr h1)] at hy; cases hy
      rw [hf, Bool.and_false] at hv
      subst hv
      wp_walk
      exact hR
  case fin =>
    rintro ⟨b1, b2⟩ s' ⟨hb', hI, i, hz, hi, hall⟩
    simp only at hb'
    subst hb'
    have hge : min items.size items2.size ≤ i := by
      rcases Nat.lt_or_ge i (items.toList.zip items2.toList).length with h' | h'
      · rw [List.drop_eq_getElem_cons h'] at hz; cases hz
      · exact hZ ▸ h'
    have hR : R (.ok (.ret (.bool v))) s' := fin s' hI
    have hsz : ((decide (items.size = items2.size))) = v := by
      rw [← hv]
      by_cases hs : items.size = items2.size
      · have : (List.range items.size).all e = true := List.all_eq_true.mpr fun j hj => hall j (by have := List.mem_range.mp hj; omega)
        rw [this, Bool.and_true]
      · rw [decide_eq_false hs, Bool.false_and]
    wp_walk
    have hz2 : (items.size == items2.size) = v := by
      rw [← hsz]
      by_cases hs : items.size = items2.size <;> simp [hs]
    subst hz2
    simpa [Builtin.Tuple.tupleCompareSizes] using hR
  case h =>
    exact ⟨rfl, h0, 0, rfl, Nat.zero_le _, fun j hj => absurd hj (Nat.not_lt_zero _)⟩
theorem ne_loopJ (l b : Addr) (N : Nat) (e : Nat → Bool) (v : Bool) (I : Shared → Prop) (hl : ListJ prog w A (fun e s' => R (.error e) s') l b N N e I)
    (fin : ∀ s, I s → R (.ok (.ret (.bool v))) s) (k : Nat) :
    ∀ i : Nat, N - i = k → i ≤ N → (!((List.range N).drop i).all e) = v → ∀ s, I s →
      wpAny (model prog w) A.in1 (Builtin.«list.__eq__.loop» ⟨[.ref l, .ref b, rawInt i, rawInt 3], []⟩) (FinOf prog w A R) (fun e s' => R (.error e) s') s := by
  induction k with
  | zero =>
    intro i hk hi hv s h
    obtain ⟨items, items2, n, n2, hl1, hb1, hs1, hs2, _⟩ := hl _ h
    have hi' : i = N := by omega
    have hR : R (.ok (.ret (.bool v))) s := fin s h
    have hd : (List.range N).drop i = [] := by simp; omega
    rw [hd] at hv
    obtain ⟨hp, g, d, tk, os⟩ := s
    wp_walk using wpAny_loadPart' hl1, wpAny_loadPart' hb1
    have hi1 : items[((i : Nat) : Int).toNat]? = none := by simp; omega
    have hi2 : items2[((i : Nat) : Int).toNat]? = none := by simp; omega
    rw [hi1, hi2]
    wp_walk using wpAny_loadPart' hl1, wpAny_loadPart' hb1
    show R (.ok (.ret (.bool (items.size != items2.size)))) _
    rw [hs1, hs2]
    subst hv
    simpa using hR
  | succ k ih =>
    intro i hk hi hv s h
    obtain ⟨items, items2, n, n2, hl1, hb1, hs1, hs2, turn⟩ := hl _ h
    have hlt : i < items.size := by omega
    have hlt2 : i < items2.size := by omega
    have ht := turn i hlt hlt2
    have hN : i < N := by omega
    have hd : (List.range N).drop i = i :: (List.range N).drop (i + 1) := by simp [List.drop_eq_getElem_cons, hN]
    rw [hd, List.all_cons] at hv
    obtain ⟨hp, g, d, tk, os⟩ := s
    wp_walk using wpAny_loadPart' hl1, wpAny_loadPart' hb1
    have hi1 : items[((i : Nat) : Int).toNat]? = some items[i] := by simp [hlt]
    have hi2 : items2[((i : Nat) : Int).toNat]? = some items2[i] := by simp [hlt2]
    have hc : ((i : Int) + 1) = ((i + 1 : Nat) : Int) := by omega
    rw [hi1, hi2]
    refine wpAny_bind (wpAny_mono ht (fun r s2 h2 => ?_) fun _ _ x => x)
    obtain ⟨hr, h2⟩ := h2
    subst hr
    cases he : e i with
    | true =>
      rw [he, Bool.true_and] at hv
      have hrec := ih (i + 1) (by omega) (by omega) hv s2 h2
      obtain ⟨hp2, g2, d2, tk2, os2⟩ := s2
      wp_walk
      rw [hc]
      exact ⟨plainId_quiet plain_eq_loop _, codeAny_builtin entry_eq_loop (by
        rw [Around.under_plainId plain_eq_loop _]
        exact hrec)⟩
    | false =>
      rw [he, Bool.false_and] at hv
      obtain ⟨items3, items4, n3, n4, hl3, hb3, hs3, hs4, _⟩ := hl _ h2
      have hR : R (.ok (.ret (.bool v))) s2 := fin s2 h2
      obtain ⟨hp2, g2, d2, tk2, os2⟩ := s2
      wp_walk using wpAny_loadPart' hl3, wpAny_loadPart' hb3
      have hi3 : items3[((i : Nat) : Int).toNat]? = some (items3[i]'(by omega)) := arr_get items3 i (by omega)
      have hi4 : items4[((i : Nat) : Int).toNat]? = some (items4[i]'(by omega)) := arr_get items4 i (by omega)
      rw [hi3, hi4]
      wp_walk
      subst hv
      exact hR
theorem list_neJ (l b : Addr) (N M : Nat) (e : Nat → Bool) (v : Bool) (I : Shared → Prop) (hl : ListJ prog w A (fun e s' => R (.error e) s') l b N M e I)
    (hv : (!(decide (N = M) && (List.range N).all e)) = v) (fin : ∀ s, I s → R (.ok (.ret (.bool v))) s) {s : Shared} (h : I s) :
    wpAny (model prog w) A.in1 (Builtin.«list.__ne__» ⟨[.ref l, .ref b], []⟩) (FinOf prog w A R) (fun e s' => R (.error e) s') s := by
  obtain ⟨items, items2, n, n2, hl1, hb1, hs1, hs2, _⟩ := hl _ h
  have f3 := AutoSeq1.sub_list_list
  have hR := fin _ h
  by_cases hNM : N = M
  · subst hNM
    rw [decide_eq_true rfl, Bool.true_and] at hv
    have hrec := ne_loopJ (A := A) (R := R) l b N e v I hl fin _ 0 rfl (Nat.zero_le _) (by simpa using hv) s h
    obtain ⟨hp, g, d, tk, os⟩ := s
    have hne : ¬ (items.size != items2.size) = true := by simp [hs1, hs2]
    wp_walk using wpAny_loadPart' hl1, wpAny_loadPart' hb1
    exact ⟨plainId_quiet plain_eq_loop _, codeAny_builtin entry_eq_loop (by
      rw [Around.under_plainId plain_eq_loop _]
      exact hrec)⟩
  · rw [decide_eq_false hNM, Bool.false_and] at hv
    subst hv
    obtain ⟨hp, g, d, tk, os⟩ := s
    have hne : (items.size != items2.size) = true := by simp [hs1, hs2, hNM]
    wp_walk using wpAny_loadPart' hl1, wpAny_loadPart' hb1
    exact hR
theorem tuple_neJ (l b : Addr) (items items2 : Array Value) (n n2 : Nat) (dd dd2 : Option Addr) (sl sl2 : Array (Option Value)) (e : Nat → Bool) (v : Bool) (I : Shared → Prop)
    (turn : ∀ i (h1 : i < items.size) (h2 : i < items2.size) s, I s → wpAny (model prog w) A.in1 (eqBool items[i] items2[i]) (fun r s' => r = e i ∧ I s') (fun e s' => R (.error e) s') s)
    (hv : (!(decide (items.size = items2.size) && (List.range items.size).all e)) = v) (fin : ∀ s, I s → R (.ok (.ret (.bool v))) s) {s : Shared} (hl1 : s.heap.get? l = some { cls := .type "tuple", dict := dd, data := .seq items n, slots := sl }) (hb1 : s.heap.get? b = some { cls := .type "tuple", dict := dd2, data := .seq items2 n2, slots := sl2 }) (h : I s) :
    wpAny (model prog w) A.in1 (Builtin.«tuple.__ne__» ⟨[.ref l, .ref b], []⟩) (FinOf prog w A R) (fun e s' => R (.error e) s') s := by
  have f2 := AutoSeq1.sub_tuple_tuple
  have hZ : (items.toList.zip items2.toList).length = min items.size items2.size := by simp
  have h0 := h
  obtain ⟨hp, g, d, tk, os⟩ := s
  wp_walk using wpAny_loadPart' hl1, wpAny_loadPart' hb1, wpAny_forIn_list _ (fun rest b s' => b.1 = none ∧ I s' ∧ ∃ i, rest = (items.toList.zip items2.toList).drop i ∧ i ≤ min items.size items2.size ∧ ∀ j, j < i → e j = true) _
  case turn =>
    rintro ⟨y, x⟩ rest b s' ⟨hb', hI, i, hz, hi, hall⟩
    have hlt : i < (items.toList.zip items2.toList).length := by
      rcases Nat.lt_or_ge i (items.toList.zip items2.toList).length with h' | h'
      · exact h'
      · rw [List.drop_of_length_le h'] at hz; cases hz
    have hm : i < min items.size items2.size := hZ ▸ hlt
    have h1 : i < items.size := Nat.lt_of_lt_of_le hm (Nat.min_le_left _ _)
    have h2 : i < items2.size := Nat.lt_of_lt_of_le hm (Nat.min_le_right _ _)
    rw [List.drop_eq_getElem_cons hlt] at hz
    injection hz with hyx hrest
    have hy : y = items[i] := by have := congrArg Prod.fst hyx; simpa using this
    have hx : x = items2[i] := by have := congrArg Prod.snd hyx; simpa using this
    subst hy hx
    refine wpAny_bind (wpAny_mono (turn i h1 h2 s' hI) (fun r s2 q2 => ?_) fun _ _ x => x)
    obtain ⟨hr, q2⟩ := q2
    subst hr
    cases hy : e i with
    | true =>
      wp_walk
      refine ⟨rfl, q2, i + 1, hrest, hm, fun j hj => ?_⟩
      by_cases hji : j = i
      · rw [hji]; exact hy
      · exact hall j (by omega)
    | false =>
      have hR : R (.ok (.ret (.bool v))) s2 := fin s2 q2
      have hf : (List.range items.size).all e = false := by
        cases hq : (List.range items.size).all e with
        | false => rfl
        | true => rw [List.all_eq_true.mp hq i (List.mem_range.mpr h1)] at hy; cases hy
      rw [hf, Bool.and_false] at hv
      subst hv
      wp_walk
      exact hR
  case fin =>
    rintro ⟨b1, b2⟩ s' ⟨hb', hI, i, hz, hi, hall⟩
    simp only at hb'
    subst hb'
    have hge : min items.size items2.size ≤ i := by
      rcases Nat.lt_or_ge i (items.toList.zip items2.toList).length with h' | h'
      · rw [List.drop_eq_getElem_cons h'] at hz; cases hz
      · exact hZ ▸ h'
    have hR : R (.ok (.ret (.bool v))) s' := fin s' hI
    have hsz : (!(decide (items.size = items2.size))) = v := by
      rw [← hv]
      by_cases hs : items.size = items2.size
      · have : (List.range items.size).all e = true := List.all_eq_true.mpr fun j hj => hall j (by have := List.mem_range.mp hj; omega)
        rw [this, Bool.and_true]
      · rw [decide_eq_false hs, Bool.false_and]
    wp_walk
    have hz2 : (items.size != items2.size) = v := by
      rw [← hsz]
      by_cases hs : items.size = items2.size <;> simp [hs]
    subst hz2
    simpa [Builtin.Tuple.tupleCompareSizes] using hR
  case h =>
    exact ⟨rfl, h0, 0, rfl, Nat.zero_le _, fun j hj => absurd hj (Nat.not_lt_zero _)⟩
theorem tuple_inJ (l : Addr) (x : Value) (items : Array Value) (n : Nat) (dd : Option Addr) (sl : Array (Option Value)) (e : Nat → Bool) (v : Bool) (I : Shared → Prop)
    (turn : ∀ i (h1 : i < items.size) s, I s → wpAny (model prog w) A.in1 (eqBool items[i] x) (fun r s' => r = e i ∧ I s') (fun e s' => R (.error e) s') s)
    (hv : (List.range items.size).any e = v) (fin : ∀ s, I s → R (.ok (.ret (.bool v))) s) {s : Shared} (hl1 : s.heap.get? l = some { cls := .type "tuple", dict := dd, data := .seq items n, slots := sl }) (h : I s) :
    wpAny (model prog w) A.in1 (Builtin.«tuple.__contains__» ⟨[.ref l, x], []⟩) (FinOf prog w A R) (fun e s' => R (.error e) s') s := by
  have h0 := h
  obtain ⟨hp, g, d, tk, os⟩ := s
  wp_walk using wpAny_loadPart' hl1, wpAny_forIn_array _ (fun rest b s' => b.1 = none ∧ I s' ∧ ∃ i, rest = items.toList.drop i ∧ i ≤ items.size ∧ ∀ j, j < i → e j = false) _
  case turn =>
    rintro y rest b s' ⟨hb', hI, i, hz, hi, hall⟩
    have hlt : i < items.toList.length := by
      rcases Nat.lt_or_ge i items.toList.length with h' | h'
      · exact h'
      · rw [List.drop_of_length_le h'] at hz; cases hz
    have h1 : i < items.size := by simpa using hlt
    rw [List.drop_eq_getElem_cons hlt] at hz
    injection hz with hyx hrest
    have hy : y = items[i] := by simpa using hyx
    subst hy
    refine wpAny_bind (wpAny_mono (turn i h1 s' hI) (fun r s2 q2 => ?_) fun _ _ x => x)
    obtain ⟨hr, q2⟩ := q2
    subst hr
    cases hy : e i with
    | false =>
      wp_walk
      refine ⟨rfl, q2, i + 1, hrest, h1, fun j hj => ?_⟩
      by_cases hji : j = i
      · rw [hji]; exact hy
      · exact hall j (by omega)
    | true =>
      have hR : R (.ok (.ret (.bool v))) s2 := fin s2 q2
      have hf : (List.range items.size).any e = true := List.any_eq_true.mpr ⟨i, List.mem_range.mpr h1, hy⟩
      rw [hf] at hv
      subst hv
      wp_walk
      exact hR
  case fin =>
    rintro ⟨b1, b2⟩ s' ⟨hb', hI, i, hz, hi, hall⟩
    simp only at hb'
    subst hb'
    have hge : items.size ≤ i := by
      rcases Nat.lt_or_ge i items.toList.length with h' | h'
      · rw [List.drop_eq_getElem_cons h'] at hz; cases hz
      · simpa using h'
    have hR : R (.ok (.ret (.bool v))) s' := fin s' hI
    have hf : (List.range items.size).any e = false := by
      rw [List.any_eq_false]
      intro j hj
      rw [hall j (by have := List.mem_range.mp hj; omega)]
      exact Bool.false_ne_true
    rw [hf] at hv
    subst hv
    wp_walk
    exact hR
  case h =>
    exact ⟨rfl, h0, 0, rfl, Nat.zero_le _, fun j hj => absurd hj (Nat.not_lt_zero _)⟩
end
section
variable {prog : Program} {w : World} {A : Around} {E : Value → Shared → Prop} {s : Shared}
theorem rc_list_eqJ {l b : Addr} {N M : Nat} {e : Nat → Bool} {v : Bool} {Q : Value → Shared → Prop} (hu : A.units < cLine) (I : Shared → Prop) (hl : ListJ prog w A E l b N M e I) (hv : ((decide (N = M) && (List.range N).all e)) = v)
    (fin : ∀ s, I s → Q (.bool v) s) (h : I s) : wpAny (model prog w) A (richCompare .Eq (.ref l) (.ref b)) Q E s := by
  obtain ⟨items, items2, n, n2, hl1, hb1, _, _, _⟩ := hl _ h
  refine wpAny_richCompare_same_room (op := .Eq) ⟨_, hl1, rfl⟩ ⟨_, hb1, rfl⟩ F.slot_list_eq (call_here F.slot_list_eq ⟨_, hl1, rfl⟩ F.entry_list_eq (F.args_list_eq_2 _ _) ?_) hu
  exact list_eqJ (R := wants (fun v s' => v ≠ .notImplemented ∧ Q v s') E) l b N M e v I hl hv (fun s' q => ⟨(fun x => nomatch x), fin s' q⟩) h
theorem rc_tup_eqJ {l b : Addr} {items items2 : Array Value} {e : Nat → Bool} {v : Bool} {Q : Value → Shared → Prop} (hu : A.units < cLine) (I : Shared → Prop) (hl : s.heap.IsTuple l items) (hb : s.heap.IsTuple b items2)
    (turn : ∀ i (h1 : i < items.size) (h2 : i < items2.size) s, I s → wpAny (model prog w) A.in1 (eqBool items[i] items2[i]) (fun r s' => r = e i ∧ I s') E s) (hv : ((decide (items.size = items2.size) && (List.range items.size).all e)) = v)
    (fin : ∀ s, I s → Q (.bool v) s) (h : I s) : wpAny (model prog w) A (richCompare .Eq (.ref l) (.ref b)) Q E s := by
  obtain ⟨⟨cls, dd, data, sl⟩, ho, hc, n, hd⟩ := id hl
  obtain ⟨⟨cls2, dd2, data2, sl2⟩, ho2, hc2, n2, hd2⟩ := id hb
  simp only at hc hd hc2 hd2
  subst hc hd hc2 hd2
  refine wpAny_richCompare_same_room (op := .Eq) ⟨_, ho, rfl⟩ ⟨_, ho2, rfl⟩ F.slot_tuple_eq (call_here F.slot_tuple_eq ⟨_, ho, rfl⟩ F.entry_tuple_eq (F.args_tuple_eq_2 _ _) ?_) hu
  exact tuple_eqJ (R := wants (fun v s' => v ≠ .notImplemented ∧ Q v s') E) l b items items2 n n2 dd dd2 sl sl2 e v I turn hv (fun s' q => ⟨(fun x => nomatch x), fin s' q⟩) ho ho2 h
theorem rc_list_neJ {l b : Addr} {N M : Nat} {e : Nat → Bool} {v : Bool} {Q : Value → Shared → Prop} (hu : A.units < cLine) (I : Shared → Prop) (hl : ListJ prog w A E l b N M e I) (hv : (!(decide (N = M) && (List.range N).all e)) = v)
    (fin : ∀ s, I s → Q (.bool v) s) (h : I s) : wpAny (model prog w) A (richCompare .NotEq (.ref l) (.ref b)) Q E s := by
  obtain ⟨items, items2, n, n2, hl1, hb1, _, _, _⟩ := hl _ h
  refine wpAny_richCompare_same_room (op := .NotEq) ⟨_, hl1, rfl⟩ ⟨_, hb1, rfl⟩ F.slot_list_ne (call_here F.slot_list_ne ⟨_, hl1, rfl⟩ F.entry_list_ne (F.args_list_ne_2 _ _) ?_) hu
  exact list_neJ (R := wants (fun v s' => v ≠ .notImplemented ∧ Q v s') E) l b N M e v I hl hv (fun s' q => ⟨(fun x => nomatch x), fin s' q⟩) h
theorem rc_tup_neJ {l b : Addr} {items items2 : Array Value} {e : Nat → Bool} {v : Bool} {Q : Value → Shared → Prop} (hu : A.units < cLine) (I : Shared → Prop) (hl : s.heap.IsTuple l items) (hb : s.heap.IsTuple b items2)
    (turn : ∀ i (h1 : i < items.size) (h2 : i < items2.size) s, I s → wpAny (model prog w) A.in1 (eqBool items[i] items2[i]) (fun r s' => r = e i ∧ I s') E s) (hv : (!(decide (items.size = items2.size) && (List.range items.size).all e)) = v)
    (fin : ∀ s, I s → Q (.bool v) s) (h : I s) : wpAny (model prog w) A (richCompare .NotEq (.ref l) (.ref b)) Q E s := by
  obtain ⟨⟨cls, dd, data, sl⟩, ho, hc, n, hd⟩ := id hl
  obtain ⟨⟨cls2, dd2, data2, sl2⟩, ho2, hc2, n2, hd2⟩ := id hb
  simp only at hc hd hc2 hd2
  subst hc hd hc2 hd2
  refine wpAny_richCompare_same_room (op := .NotEq) ⟨_, ho, rfl⟩ ⟨_, ho2, rfl⟩ F.slot_tuple_ne (call_here F.slot_tuple_ne ⟨_, ho, rfl⟩ F.entry_tuple_ne (F.args_tuple_ne_2 _ _) ?_) hu
  exact tuple_neJ (R := wants (fun v s' => v ≠ .notImplemented ∧ Q v s') E) l b items items2 n n2 dd dd2 sl sl2 e v I turn hv (fun s' q => ⟨(fun x => nomatch x), fin s' q⟩) ho ho2 h
theorem in_tupJ {l : Addr} {x : Value} {items : Array Value} {e : Nat → Bool} {v : Bool} {Q : Value → Shared → Prop} (I : Shared → Prop) (hl : s.heap.IsTuple l items)
    (turn : ∀ i (h1 : i < items.size) s, I s → wpAny (model prog w) A.in1 (eqBool items[i] x) (fun r s' => r = e i ∧ I s') E s) (hv : (List.range items.size).any e = v)
    (fin : ∀ s, I s → Q (.bool v) s) (h : I s) : wpAny (model prog w) A (compareOp .In x (.ref l)) Q E s := by
  obtain ⟨⟨cls, dd, data, sl⟩, ho, hc, n, hd⟩ := id hl
  simp only at hc hd
  subst hc hd
  show wpAny _ A (do return .bool (← contains (.ref l) x)) Q E s
  refine wpAny_bind (wpAny_contains_slot (T := "tuple") ⟨_, ho, rfl⟩ F.slot_tuple_contains (wpAny_mono (call_here (Q := fun r s' => ∃ b, r = .bool b ∧ Q (.bool b) s') F.slot_tuple_contains ⟨_, ho, rfl⟩ F.entry_tuple_contains (F.args_tuple_contains_2 _ _) ?_) (fun r s' hr => ?_) fun _ _ z => z))
  · exact tuple_inJ (R := wants (fun r s' => ∃ b, r = .bool b ∧ Q (.bool b) s') E) l x items n dd sl e v I turn hv (fun s' q => ⟨v, rfl, fin s' q⟩) ho h
  · obtain ⟨b, rfl, q⟩ := hr
    exact wpAny_truthy_bool (wpAny_pure q)
end
end Oq
namespace Oq
open PySem PySem.Spec PyProof.Rows L2 Vb Xv
/-- how == of two values answers, by the abstract heap -/
abbrev EqD := V → V → Bool → Hp → Prop
def MonD (D : EqD) : Prop := ∀ x y b H H', Ext H H' → D x y b H → D x y b H'
def EqB (X : Cx) (n : Nat) (D : EqD) : Prop :=
  ∀ (A : Around) (pins : List (Addr × Obj)) (s : Shared) (σ : L2.St) (H : Hp) (x y : V) (b : Bool) (u v : Value), Sub X n A → Calm A → Inv X pins σ H s → RelV x u → RelV y v → D x y b H →
    wpAny (model X.prog X.w) A (eqBool u v) (fun r s' => r = b ∧ ∃ H', Inv X pins σ H' s' ∧ Ext H H') X.xe s
def RcB (X : Cx) (n : Nat) (op : CmpOp) (D : EqD) : Prop :=
  ∀ (A : Around) (pins : List (Addr × Obj)) (s : Shared) (σ : L2.St) (H : Hp) (x y : V) (b : Bool) (u v : Value), Sub X n A → Calm A → Inv X pins σ H s → RelV x u → RelV y v → D x y b H →
    wpAny (model X.prog X.w) A (richCompare op u v) (fun r s' => r = .bool b ∧ ∃ H', Inv X pins σ H' s' ∧ Ext H H') X.xe s
section
variable {X : Cx} {n m : Nat} {D D' : EqD}
theorem EqB.mono (h : EqB X n D) (hn : n ≤ m) : EqB X m D := fun A pins s σ H x y b u v sb => h A pins s σ H x y b u v (sb.mono hn)
theorem EqB.imp (h : EqB X n D) (hd : ∀ x y b H, D' x y b H → D x y b H) : EqB X n D' := fun A pins s σ H x y b u v sb c I rx ry d => h A pins s σ H x y b u v sb c I rx ry (hd x y b H d)
theorem RcB.imp {op : CmpOp} (h : RcB X n op D) (hd : ∀ x y b H, D' x y b H → D x y b H) : RcB X n op D' := fun A pins s σ H x y b u v sb c I rx ry d => h A pins s σ H x y b u v sb c I rx ry (hd x y b H d)
/-- flat values -/
def BFlat : EqD := fun x y b _ => flatV x = true ∧ flatV y = true ∧ eqV x y = b
theorem eqB_flat : EqB X 0 BFlat := by
  intro A pins s σ H x y b u v sb _ I rx ry d
  obtain ⟨fx, fy, e⟩ := d
  have q := eqAt_V (A := A) (s := s) rx ry fx fy
  rw [e] at q
  exact q X.prog X.w X.xe _ ⟨rfl, H, I, Ext.rfl'⟩
def AllD (D : EqD) (xs ys : List V) (e : Nat → Bool) (H : Hp) : Prop := ∀ (i : Nat) x y, xs[i]? = some x → ys[i]? = some y → D x y (e i) H
theorem turnB (hD : MonD D) (h : EqB X n D) {A : Around} (sb : Sub X (n + 1) A) (hc : Calm A) {pins : List (Addr × Obj)} {σ : L2.St} {H : Hp} {xs ys : List V} {e : Nat → Bool} {its its2 : List Value} (p : AllD D xs ys e H) (r : Vals xs its) (r2 : Vals ys its2)
    (i : Nat) (h1 : i < its.toArray.size) (h2 : i < its2.toArray.size) (s' : Shared) (l : LoopI X pins σ H s') :
    wpAny (model X.prog X.w) A.in1 (eqBool its.toArray[i] its2.toArray[i]) (fun r s2 => r = e i ∧ LoopI X pins σ H s2) X.xe s' := by
  obtain ⟨H1, I1, e1⟩ := l
  have g1 : its[i]? = some its.toArray[i] := by
    have h1' : i < its.length := by simpa using h1
    rw [List.getElem?_eq_getElem h1'] <;> simp
  have g2 : its2[i]? = some its2.toArray[i] := by
    have h2' : i < its2.length := by simpa using h2
    rw [List.getElem?_eq_getElem h2'] <;> simp
  have k1 : i < xs.length := by rw [r.length]; simpa using h1
  have k2 : i < ys.length := by rw [r2.length]; simpa using h2
  obtain ⟨u, hu, ru⟩ := r.get (List.getElem?_eq_getElem k1)
  obtain ⟨v, hv, rv⟩ := r2.get (List.getElem?_eq_getElem k2)
  rw [g1] at hu
  rw [g2] at hv
  rw [Option.some.inj hu, Option.some.inj hv]
  refine wpAny_mono (h A.in1 pins s' σ H1 _ _ (e i) u v sb.in1 hc I1 ru rv (hD _ _ _ _ _ e1 (p i _ _ (List.getElem?_eq_getElem k1) (List.getElem?_eq_getElem k2)))) (fun r s2 q => ?_) fun _ _ x => x
  obtain ⟨hr, H2, I2, e2⟩ := q
  exact ⟨hr, H2, I2, e1.trans e2⟩
theorem turnI (hD : MonD D) (h : EqB X n D) {A : Around} (sb : Sub X (n + 1) A) (hc : Calm A) {pins : List (Addr × Obj)} {σ : L2.St} {H : Hp} {xs : List V} {y : V} {e : Nat → Bool} {its : List Value} {v : Value} (p : ∀ (i : Nat) x, xs[i]? = some x → D x y (e i) H) (r : Vals xs its) (ry : RelV y v)
    (i : Nat) (h1 : i < its.toArray.size) (s' : Shared) (l : LoopI X pins σ H s') :
    wpAny (model X.prog X.w) A.in1 (eqBool its.toArray[i] v) (fun r s2 => r = e i ∧ LoopI X pins σ H s2) X.xe s' := by
  obtain ⟨H1, I1, e1⟩ := l
  have g1 : its[i]? = some its.toArray[i] := by
    have h1' : i < its.length := by simpa using h1
    rw [List.getElem?_eq_getElem h1'] <;> simp
  have k1 : i < xs.length := by rw [r.length]; simpa using h1
  obtain ⟨u, hu, ru⟩ := r.get (List.getElem?_eq_getElem k1)
  rw [g1] at hu
  rw [Option.some.inj hu]
  refine wpAny_mono (h A.in1 pins s' σ H1 _ _ (e i) u v sb.in1 hc I1 ru ry (hD _ _ _ _ _ e1 (p i _ (List.getElem?_eq_getElem k1)))) (fun r s2 q => ?_) fun _ _ x => x
  obtain ⟨hr, H2, I2, e2⟩ := q
  exact ⟨hr, H2, I2, e1.trans e2⟩
/-- lists, item by item; ng: the answer of != -/
def BList (D : EqD) (ng : Bool) : EqD := fun x y b H => ∃ p q xs ys e, x = .ref p ∧ y = .ref q ∧ H p = some (.lst xs) ∧ H q = some (.lst ys) ∧ AllD D xs ys e H ∧ (ng ^^ (decide (xs.length = ys.length) && (List.range xs.length).all e)) = b
def BTup (K : PySem.W.Frag) (D : EqD) (ng : Bool) : EqD := fun x y b H => ∃ p q xs ys e, x = .ref p ∧ y = .ref q ∧ SqT K H p xs ∧ SqT K H q ys ∧ AllD D xs ys e H ∧ (ng ^^ (decide (xs.length = ys.length) && (List.range xs.length).all e)) = b
theorem rcB_list_eq (hD : MonD D) (h : EqB X n D) : RcB X (n + 1) .Eq (BList D false) := by
  intro A pins s σ H x y t u v sb hc I rx ry d
  obtain ⟨a, b, xs, ys, e, rfl, rfl, ha, hb, p, hv⟩ := d
  cases rx
  cases ry
  refine rc_list_eqJ (N := xs.length) (M := ys.length) (e := e) (v := t) sb.room.units0 (fun s' => LoopI X pins σ H s') (fun s' q => ?_) (by simpa using hv) (fun s' q => ⟨rfl, q⟩) ⟨H, I, Ext.rfl'⟩
  obtain ⟨H1, I1, e1⟩ := id q
  obtain ⟨z, its, k, r, o1⟩ := I1.hok a _ (e1 _ _ ha)
  obtain ⟨z2, its2, k2, r2, o2⟩ := I1.hok b _ (e1 _ _ hb)
  exact ⟨its.toArray, its2.toArray, k, k2, o1, o2, by rw [List.size_toArray, ← r.length], by rw [List.size_toArray, ← r2.length], fun i h1 h2 => turnB hD h sb hc p r r2 i h1 h2 s' q⟩
theorem rcB_tup_eq (hD : MonD D) (h : EqB X n D) : RcB X (n + 1) .Eq (BTup X.K D false) := by
  intro A pins s σ H x y t u v sb hc I rx ry d
  obtain ⟨a, b, xs, ys, e, rfl, rfl, ha, hb, p, hv⟩ := d
  cases rx
  cases ry
  obtain ⟨its, r, o1, z⟩ := I.tuple ha
  obtain ⟨its2, r2, o2, z2⟩ := I.tuple hb
  have hsz : its.toArray.size = xs.length := by rw [List.size_toArray, ← r.length]
  have hsz2 : its2.toArray.size = ys.length := by rw [List.size_toArray, ← r2.length]
  exact rc_tup_eqJ (e := e) (v := t) sb.room.units0 (fun s' => LoopI X pins σ H s') o1 o2 (fun i h1 h2 s' q => turnB hD h sb hc p r r2 i h1 h2 s' q) (by rw [hsz, hsz2]; simpa using hv) (fun s' q => ⟨rfl, q⟩) ⟨H, I, Ext.rfl'⟩
theorem rcB_list_ne (hD : MonD D) (h : EqB X n D) : RcB X (n + 1) .NotEq (BList D true) := by
  intro A pins s σ H x y t u v sb hc I rx ry d
  obtain ⟨a, b, xs, ys, e, rfl, rfl, ha, hb, p, hv⟩ := d
  cases rx
  cases ry
  refine rc_list_neJ (N := xs.length) (M := ys.length) (e := e) (v := t) sb.room.units0 (fun s' => LoopI X pins σ H s') (fun s' q => ?_) (by simpa using hv) (fun s' q => ⟨rfl, q⟩) ⟨H, I, Ext.rfl'⟩
  obtain ⟨H1, I1, e1⟩ := id q
  obtain ⟨z, its, k, r, o1⟩ := I1.hok a _ (e1 _ _ ha)
  obtain ⟨z2, its2, k2, r2, o2⟩ := I1.hok b _ (e1 _ _ hb)
  exact ⟨its.toArray, its2.toArray, k, k2, o1, o2, by rw [List.size_toArray, ← r.length], by rw [List.size_toArray, ← r2.length], fun i h1 h2 => turnB hD h sb hc p r r2 i h1 h2 s' q⟩
theorem rcB_tup_ne (hD : MonD D) (h : EqB X n D) : RcB X (n + 1) .NotEq (BTup X.K D true) := by
  intro A pins s σ H x y t u v sb hc I rx ry d
  obtain ⟨a, b, xs, ys, e, rfl, rfl, ha, hb, p, hv⟩ := d
  cases rx
  cases ry
  obtain ⟨its, r, o1, z⟩ := I.tuple ha
  obtain ⟨its2, r2, o2, z2⟩ := I.tuple hb
  have hsz : its.toArray.size = xs.length := by rw [List.size_toArray, ← r.length]
  have hsz2 : its2.toArray.size = ys.length := by rw [List.size_toArray, ← r2.length]
  exact rc_tup_neJ (e := e) (v := t) sb.room.units0 (fun s' => LoopI X pins σ H s') o1 o2 (fun i h1 h2 s' q => turnB hD h sb hc p r r2 i h1 h2 s' q) (by rw [hsz, hsz2]; simpa using hv) (fun s' q => ⟨rfl, q⟩) ⟨H, I, Ext.rfl'⟩
/-- from a rich comparison of references to == inside a builtin: the same object is equal to itself -/
theorem RcB.eqB (h : RcB X n .Eq D) (hr : ∀ x y b H, D x y b H → ∃ p q, x = .ref p ∧ y = .ref q ∧ (p = q → b = true)) : EqB X n D := by
  intro A pins s σ H x y t u v sb hc I rx ry d
  obtain ⟨a, b, rfl, rfl, hs⟩ := hr _ _ _ _ d
  cases rx
  cases ry
  by_cases hab : a = b
  · rw [hs hab]
    subst hab
    exact SeqAt.EqAt.same (A := A) (s := s) (.ref a) X.prog X.w X.xe _ ⟨rfl, H, I, Ext.rfl'⟩
  · refine GQ.eqBool_refG hab (wpAny_mono (h A pins s σ H (.ref a) (.ref b) _ _ _ sb hc I rfl rfl d) (fun r s' q => ?_) fun _ _ x => x)
    obtain ⟨hr', q⟩ := q
    exact ⟨t, hr', rfl, q⟩
/-- objects of the class at C: what R says of the two -/
def BIns (C : Addr) (R : Addr → Addr → Bool → Hp → Prop) : EqD := fun x y b H => ∃ p q dx dy fs gs, x = .ref p ∧ y = .ref q ∧ H p = some (.ins C dx fs) ∧ H q = some (.ins C dy gs) ∧ R p q b H
theorem rcB_ins {C f : Addr} {fd : FuncData} {ps : List Str} {sp : Sp} {R : Addr → Addr → Bool → Hp → Prop} (F : FnG X.prog X.w X.K X.mg X.base n f fd ps sp) (hs : PySem.W.findIn X.K (.ref C) "__eq__" = some (some (.ref f))) (hf : PySem.W.isFn X.K (.ref f) = true) (hb : Binds X.K fd ps [])
    (hsp : ∀ p q b H Q, R p q b H → (∀ H', Ext H H' → Q (.bl b) H') → sp [.ref p, .ref q] H Q E0) : RcB X n .Eq (BIns C R) := by
  intro A pins s σ H x y t u v sb hc I rx ry d
  obtain ⟨a, b, dx, dy, fs, gs, rfl, rfl, ha, hb', hr⟩ := d
  cases rx
  cases ry
  obtain ⟨mA, J, _⟩ := ins_get I.hok ha
  obtain ⟨mB, J', _⟩ := ins_get I.hok hb'
  obtain ⟨od, J, _⟩ := J.look
  obtain ⟨od', J', _⟩ := J'.look
  obtain ⟨m, hF⟩ := I.fr
  refine PySem.W.cmp_K (op := .Eq) (tb := .ref C) sb.room.units0 hF I.ok.mod.kin J J'.type (by simp [PySem.W.notFirst]) hs hf ?_
  refine wpAny_mono (run_deep (vs := [.ref a, .ref b]) (Q := fun v H' => v = .bl t ∧ Ext H H') sb.fr F hc sb.room hb I (.cons rfl (.cons rfl .nil)) (hsp a b t H _ hr fun H' e => ⟨rfl, e⟩)) (fun r s' hv => ?_) fun _ _ z => z
  obtain ⟨z, H', I', rz, ez, e⟩ := hv
  subst ez
  cases (show r = Value.bool t from rz)
  exact ⟨rfl, H', I', e⟩
theorem eqB_ins {C f : Addr} {fd : FuncData} {ps : List Str} {sp : Sp} {R : Addr → Addr → Bool → Hp → Prop} (F : FnG X.prog X.w X.K X.mg X.base n f fd ps sp) (hs : PySem.W.findIn X.K (.ref C) "__eq__" = some (some (.ref f))) (hf : PySem.W.isFn X.K (.ref f) = true) (hb : Binds X.K fd ps [])
    (hsp : ∀ p q b H Q, R p q b H → (∀ H', Ext H H' → Q (.bl b) H') → sp [.ref p, .ref q] H Q E0) (same : ∀ p b H, R p p b H → b = true) : EqB X n (BIns C R) :=
  (rcB_ins F hs hf hb hsp).eqB fun x y b H d => by
    obtain ⟨p, q, _, _, _, _, hx, hy, _, _, r⟩ := d
    exact ⟨p, q, hx, hy, fun e => same p b H (by rw [← e] at r; exact r)⟩
theorem monD_ins {C : Addr} {R : Addr → Addr → Bool → Hp → Prop} (hR : ∀ p q b H H', Ext H H' → R p q b H → R p q b H') : MonD (BIns C R) := fun x y b H H' e d => by
  obtain ⟨p, q, dx, dy, fs, gs, hx, hy, h1, h2, r⟩ := d
  exact ⟨p, q, dx, dy, fs, gs, hx, hy, e _ _ h1, e _ _ h2, hR p q b H H' e r⟩
/-- x == y, x != y as expressions -/
def rEqB (D : EqD) : R2 := fun x y H Q => ∃ b, D x y b H ∧ ∀ H', Ext H H' → Q (.bl b) H'
theorem op_eqB {op : CmpOp} (h : RcB X n op D) (hop : ∀ u v : Value, compareOp op u v = richCompare op u v) (hc : Calm X.A) (hr : Room n X.A) : OpR X (compareOp op) (rEqB D) := by
  intro pins s σ H x y v u Q I rx ry hq
  obtain ⟨b, d, q⟩ := hq
  rw [hop]
  refine wpAny_mono (h X.A pins s σ H x y b v u ⟨hr, rfl⟩ hc I rx ry d) (fun r s' z => ?_) fun _ _ x => x
  obtain ⟨hr', H', I', e⟩ := z
  subst hr'
  exact ⟨.bl b, H', I', rfl, q H' e⟩
/-- x in y, y a tuple -/
def rInB (K : PySem.W.Frag) (D : EqD) : R2 := fun x y H Q => ∃ p xs e, y = .ref p ∧ SqT K H p xs ∧ (∀ (i : Nat) z, xs[i]? = some z → D z x (e i) H) ∧ ∀ H', Ext H H' → Q (.bl ((List.range xs.length).any e)) H'
theorem op_inB (hD : MonD D) (h : EqB X n D) (hc : Calm X.A) (hr : Room (n + 1) X.A) : OpR X (compareOp .In) (rInB X.K D) := by
  intro pins s σ H x y v u Q I rx ry hq
  obtain ⟨p, xs, e, rfl, sq, hd, q⟩ := hq
  cases ry
  obtain ⟨its, r, o1, z⟩ := I.tuple sq
  have hsz : its.toArray.size = xs.length := by rw [List.size_toArray, ← r.length]
  exact in_tupJ (e := e) (fun s' => LoopI X pins σ H s') o1 (fun i h1 s' l => turnI hD h ⟨hr, rfl⟩ hc hd r rx i h1 s' l) (by rw [hsz]) (fun s' l => by
    obtain ⟨H', I', e'⟩ := l
    exact ⟨.bl _, H', I', rfl, q H' e'⟩) ⟨H, I, Ext.rfl'⟩
end
end Oq
set_option Elab.async false
set_option linter.all false
set_option autoImplicit false
set_option maxRecDepth 100000
set_option maxHeartbeats 4000000
/-! Oi: whether a value of any of some kinds stands in a tuple of texts. -/
namespace Oi
open PySem PySem.Spec PyProof.Rows L2 Vb
/-- a flat value, a list or a tuple -/
def Odd (K : PySem.W.Frag) (H : Hp) (v : V) : Prop := flatV v = true ∨ ∃ a xs, v = .ref a ∧ (SqL K H a xs ∨ SqT K H a xs)
def isT (v : V) (y : Str) : Bool := match v with
  | .str z => decide (z = y)
  | _ => false
def inT (v : V) (ys : List Str) : Bool := ys.any (isT v)
def isU (v : V) (u : Value) : Bool := match u with
  | .str y _ => isT v y
  | _ => false
theorem any_isU {v : V} : ∀ {ys : List Str} {us : List Value}, Vals (ys.map V.str) us → us.any (isU v) = inT v ys
  | [], _, .nil => rfl
  | y :: ys, u :: us, .cons r t => by
    obtain ⟨k, rfl⟩ := (show ∃ t, u = Value.str y t from r)
    rw [List.any_cons, any_isU t]
    rfl
theorem isT_eqV {v : V} (f : flatV v = true) (y : Str) : eqV (.str y) v = isT v y := by
  cases v with
  | str z =>
    by_cases e : y = z
    · subst e; simp [eqV, isT]
    · have e' : ¬ z = y := fun h => e h.symm
      simp [eqV, isT, e, e']
  | _ => first | rfl | exact absurd (show false = true from f) Bool.false_ne_true
section
variable {X : Cx}
theorem eq_odd {A : Around} {pins : List (Addr × Obj)} {σ : L2.St} {H : Hp} {s : Shared} (I : Inv X pins σ H s) (hu : A.units < cLine) {v : V} {x u : Value} (rv : RelV v x) (o : Odd X.K H v) {y : Str} (ru : RelV (.str y) u) : SeqAt.EqAt A s u x (isU v u) := by
  obtain ⟨t, rfl⟩ := (show ∃ t, u = Value.str y t from ru)
  rcases o with f | ⟨a, xs, rfl, h⟩
  · have q := eqAt_V (A := A) (s := s) (show RelV (.str y) (.str y t) from ⟨t, rfl⟩) rv rfl f
    rw [isT_eqV f] at q
    exact q
  · cases rv
    rcases h with h | h
    · obtain ⟨its, r, pl, _⟩ := I.list h
      exact SeqAt.EqAt.str_list y t pl.isList hu
    · obtain ⟨its, r, pl, _⟩ := I.tuple h
      exact SeqAt.EqAt.str_tuple y t pl hu
theorem all_odd {A : Around} {pins : List (Addr × Obj)} {σ : L2.St} {H : Hp} {s : Shared} (I : Inv X pins σ H s) (hu : A.units < cLine) {v : V} {x : Value} (rv : RelV v x) (o : Odd X.K H v) : ∀ {ys : List Str} {us : List Value}, Vals (ys.map V.str) us → ∀ u ∈ us, SeqAt.EqAt A s u x (isU v u)
  | [], _, .nil => fun u hu => by cases hu
  | y :: ys, u :: us, .cons r t => fun u' hu' => by
    rcases List.mem_cons.mp hu' with rfl | h
    · exact eq_odd I hu rv o r
    · exact all_odd I hu rv o t u' h
/-- v in a tuple of texts -/
def rInT (K : PySem.W.Frag) (ng : Bool) : R2 := fun x y H Q => ∃ p ys, y = .ref p ∧ SqT K H p (ys.map V.str) ∧ Odd K H x ∧ Q (.bl (if ng then !inT x ys else inT x ys)) H
theorem op_inT (hu : X.A.in1.units < cLine) : OpR X (compareOp .In) (rInT X.K false) := by
  intro pins s σ H x y v u Q I rx ry h
  obtain ⟨p, ys, rfl, sq, o, q⟩ := h
  cases ry
  obtain ⟨its, r, pl, hz⟩ := I.tuple sq
  refine SeqAt.in_tupleAt (isU x) pl (fun w hw => all_odd I hu rx o r w (by simpa using hw)) ⟨.bl _, H, I, rfl, ?_⟩
  rw [show its.toArray.any (isU x) = its.any (isU x) by simp, any_isU r]
  exact q
theorem op_notInT (hu : X.A.in1.units < cLine) : OpR X (compareOp .NotIn) (rInT X.K true) := by
  intro pins s σ H x y v u Q I rx ry h
  obtain ⟨p, ys, rfl, sq, o, q⟩ := h
  cases ry
  obtain ⟨its, r, pl, hz⟩ := I.tuple sq
  refine SeqAt.notIn_tupleAt (isU x) pl (fun w hw => all_odd I hu rx o r w (by simpa using hw)) ⟨.bl _, H, I, rfl, ?_⟩
  rw [show its.toArray.any (isU x) = its.any (isU x) by simp, any_isU r]
  exact q
end
theorem inT_mem {y : Str} {ys : List Str} : inT (.str y) ys = decide (y ∈ ys) := by
  unfold inT
  rw [Bool.eq_iff_iff, List.any_eq_true, decide_eq_true_eq]
  exact ⟨fun ⟨z, h, e⟩ => by have := of_decide_eq_true e; subst this; exact h, fun h => ⟨y, h, decide_eq_true rfl⟩⟩
/-! ### answers by index -/
def anyE {α : Type} (l : List α) (g : α → Bool) : Nat → Bool := fun i => match l[i]? with
  | some d => g d
  | none => false
theorem any_at {α : Type} (l : List α) (g : α → Bool) : (List.range l.length).any (anyE l g) = l.any g := by
  rw [Bool.eq_iff_iff, List.any_eq_true, List.any_eq_true]
  constructor
  · rintro ⟨i, _, h⟩
    unfold anyE at h
    cases e : l[i]? with
    | none => rw [e] at h; cases h
    | some d =>
      rw [e] at h
      exact ⟨d, List.mem_of_getElem? e, h⟩
  · rintro ⟨d, hd, h⟩
    obtain ⟨i, hi⟩ := List.mem_iff_getElem?.mp hd
    refine ⟨i, List.mem_range.mpr (List.getElem?_eq_some_iff.mp hi).1, ?_⟩
    unfold anyE
    rw [hi]
    exact h
def allE {α : Type} [DecidableEq α] (l m : List α) : Nat → Bool := fun i => decide (l[i]? = m[i]?)
theorem all_at {α : Type} [DecidableEq α] (l m : List α) : (decide (l.length = m.length) && (List.range l.length).all (allE l m)) = decide (l = m) := by
  rw [Bool.eq_iff_iff, Bool.and_eq_true, decide_eq_true_eq, List.all_eq_true, decide_eq_true_eq]
  constructor
  · rintro ⟨h1, h2⟩
    refine List.ext_getElem? fun i => ?_
    by_cases hi : i < l.length
    · exact of_decide_eq_true (h2 i (List.mem_range.mpr hi))
    · rw [List.getElem?_eq_none (by omega), List.getElem?_eq_none (by omega)]
  · rintro rfl
    exact ⟨rfl, fun i _ => decide_eq_true rfl⟩
/-! ### v in an object whose class has an own __contains__ -/
open Vb Xv in
def rInO (C : Addr) (sp : Sp) : R2 := fun x y H Q => ∃ (a dx : Addr) (fs : List (Str × V)), y = .ref a ∧ H a = some (.ins C dx fs) ∧ sp [.ref a, x] H (fun v H' => ∃ t, v = .bl t ∧ Q (.bl t) H') E0
open Vb Xv in
theorem op_inO {X : Cx} {k : Nat} {f C : Addr} {fd : FuncData} {ps : List Str} {sp : Sp} (F : FnG X.prog X.w X.K X.mg X.base k f fd ps sp) (hs : PySem.W.findIn X.K (.ref C) "__contains__" = some (some (.ref f))) (hf : PySem.W.isFn X.K (.ref f) = true) (hb : Binds X.K fd ps []) (hc : Calm X.A) (hr : Room k X.A) : OpR X (compareOp .In) (rInO C sp) := by
  intro pins s σ H x y v u Q I rx ry h
  obtain ⟨a, dx, fs, rfl, ha, hq⟩ := h
  cases ry
  obtain ⟨mA, J, _⟩ := ins_get I.hok ha
  obtain ⟨od, J, _⟩ := J.look
  obtain ⟨m, hF⟩ := I.fr
  refine PySem.W.in_K hF I.ok.mod.kin J hs hf (thn (run_deep (vs := [.ref a, x]) rfl F hc hr hb I (.cons rfl (.cons rx .nil)) hq) fun r s' hv => ?_)
  obtain ⟨z, H', I', rz, t, ez, q⟩ := hv
  subst ez
  cases (show r = Value.bool t from rz)
  exact wpAny_truthy_bool ⟨.bl t, H', I', rfl, q⟩
theorem inV_inT {v : V} (f : flatV v = true) (l : List Str) : inV v (l.map V.str) = inT v l := by
  unfold inV inT
  rw [List.any_map]
  congr 1
  funext y
  exact isT_eqV f y
end Oi
set_option Elab.async false
set_option linter.all false
set_option autoImplicit false
set_option maxRecDepth 100000
set_option maxHeartbeats 4000000
namespace K12
open PySem PySem.Spec PyProof.Rows L2 Vb Wd Xd Xo Xi Xm Xr Xv Ts K01 Oq Oi
theorem SchemeAt.same {H H' : Hp} {C CS a : Addr} {b : Str} {ys : List Str} {ds : List FD} (s : Same H H') (S : SchemeAt H C CS a b ys ds) : SchemeAt H' C CS a b ys ds := by
  obtain ⟨⟨dx, t, bn, nm, f, so, kvs, fs, zs, ha, ht, hn, hf, FF, hb, hv, hs, mz, srt, nd⟩, q2, q3, q4, q5, q6, q7⟩ := S
  exact ⟨⟨dx, t, bn, nm, f, so, kvs, fs, zs, s _ _ ha, s _ _ ht, s _ _ hn, s _ _ hf, ⟨FF.len, fun i x d h1 h2 => by
    obtain ⟨ch, ts, FA⟩ := FF.at_ i x d h1 h2
    exact ⟨ch, ts, FA.sm s⟩⟩, s _ _ hb, hv, s _ _ hs, mz, srt, nd⟩, q2, q3, q4, q5, q6, q7⟩
/-- a form at an address is one form -/
theorem kids_uniq {H : Hp} : ∀ {ts : List Addr} {cs cs' : List (Str × Int)}, ts.length = cs.length → ts.length = cs'.length → (∀ (i : Nat) (t : Addr) (c : Str × Int), ts[i]? = some t → cs[i]? = some c → Kid H t c.1 c.2) → (∀ (i : Nat) (t : Addr) (c : Str × Int), ts[i]? = some t → cs'[i]? = some c → Kid H t c.1 c.2) → cs = cs'
  | [], [], [], _, _, _, _ => rfl
  | t :: ts, c :: cs, c' :: cs', l, l', h, h' => by
    have k := (h 0 t c rfl rfl).at_
    have k' := (h' 0 t c' rfl rfl).at_
    rw [k] at k'
    have e : c = c' := by
      obtain ⟨c1, c2⟩ := c
      obtain ⟨d1, d2⟩ := c'
      injection k' with k'
      injection k' with k'
      injection k' with k1 k2
      injection k1 with k1
      injection k2 with k2 _
      injection k2 with k2
      exact Prod.ext k1 k2
    rw [e, kids_uniq (by simpa using l) (by simpa using l') (fun i t c h1 h2 => h (i + 1) t c h1 h2) fun i t c h1 h2 => h' (i + 1) t c h1 h2]
theorem refs_inj : ∀ {ts ts' : List Addr}, ts.map V.ref = ts'.map V.ref → ts = ts'
  | [], [], _ => rfl
  | t :: ts, t' :: ts', h => by
    rw [List.map_cons, List.map_cons] at h
    injection h with h1 h2
    injection h1 with h1
    rw [h1, refs_inj h2]
  | [], _ :: _, h => by cases h
  | _ :: _, [], h => by cases h
theorem FormAt.uniq {H : Hp} {C a ch ch' : Addr} {n so n' so' : Str} {ts ts' : List Addr} {cs cs' : List (Str × Int)} (f : FormAt H C a ch n so ts cs) (g : FormAt H C a ch' n' so' ts' cs') : n = n' ∧ so = so' ∧ cs = cs' := by
  obtain ⟨⟨dx, e⟩, k⟩ := f
  obtain ⟨⟨dx', e'⟩, k'⟩ := g
  rw [e] at e'
  injection e' with e'
  injection e' with _ _ e'
  unfold flds at e'
  injection e' with e1 e'
  injection e' with e2 e'
  injection e' with e3 _
  injection e1 with _ e1
  injection e1 with e1
  injection e2 with _ e2
  injection e2 with e2
  injection e3 with _ e3
  injection e3 with e3
  subst e3
  have ea := k.at_.symm.trans k'.at_
  injection ea with ea
  injection ea with ea
  have et := refs_inj ea
  subst et
  exact ⟨e1, e2, kids_uniq k.len k'.len k.kid k'.kid⟩
abbrev s_S_getitem : Stmt := inB (topS 25) 8
theorem sc_S_getitem : FnScope ["self", "name"] ["self", "name"] (defScope s_S_getitem) := ⟨rfl, rfl, rfl, by decide +kernel, rfl, by decide +kernel, by decide +kernel⟩
abbrev s_S_contains : Stmt := inB (topS 25) 10
theorem sc_S_contains : FnScope ["self", "value"] ["self", "value"] (defScope s_S_contains) := ⟨rfl, rfl, rfl, by decide +kernel, rfl, by decide +kernel, by decide +kernel⟩
abbrev s_S_len : Stmt := inB (topS 25) 11
theorem sc_S_len : FnScope ["self"] ["self"] (defScope s_S_len) := ⟨rfl, rfl, rfl, by decide +kernel, rfl, by decide +kernel, by decide +kernel⟩
abbrev s_S_eq : Stmt := inB (topS 25) 12
theorem sc_S_eq : FnScope ["self", "other"] ["self", "other"] (defScope s_S_eq) := ⟨rfl, rfl, rfl, by decide +kernel, rfl, by decide +kernel, by decide +kernel⟩
abbrev s_S_str : Stmt := inB (topS 25) 13
theorem sc_S_str : FnScope ["self"] ["self"] (defScope s_S_str) := ⟨rfl, rfl, rfl, by decide +kernel, rfl, by decide +kernel, by decide +kernel⟩
abbrev s_S_of_sort : Stmt := inB (topS 25) 14
theorem sc_S_of_sort : FnScope ["self", "sort", "form"] ["self", "sort"] (defScope s_S_of_sort) := ⟨rfl, rfl, rfl, by decide +kernel, rfl, by decide +kernel, by decide +kernel⟩
/-! ### what they promise -/
def spLenS (C CS : Addr) : Sp := fun vs H Q _ => ∃ (a : Addr) (b : Str) (ys : List Str) (ds : List FD), vs = [.ref a] ∧ SchemeAt H C CS a b ys ds ∧ Q (.int ds.length) H
def tellS (n m : Nat) : Str := ((("scheme of " ++ Str.ofString (toString (n : Int))) ++ " forms, ") ++ Str.ofString (toString (m : Int))) ++ " sorts"
def nSorts (ys : List Str) (ds : List FD) : Nat := (dd (ys ++ said ds)).length
def spStrS (C CS : Addr) : Sp := fun vs H Q _ => ∃ (a : Addr) (b : Str) (ys : List Str) (ds : List FD), vs = [.ref a] ∧ SchemeAt H C CS a b ys ds ∧ Q (.str (tellS ds.length (nSorts ys ds))) H
def spItemS (K : PySem.W.Frag) (C CS CU : Addr) : Sp := fun vs H Q E => ∃ (a : Addr) (b : Str) (ys : List Str) (ds : List FD) (v : V), vs = [.ref a, v] ∧ SchemeAt H C CS a b ys ds ∧ Odd K H v ∧
  (∀ (d : FD) (x ch : Addr) (ts : List Addr), d ∈ ds → v = .str d.1 → FormAt H C x ch d.1 d.2.1 ts d.2.2 → Q (.ref x) H) ∧ (inT v (ds.map (·.1)) = false → ∀ d, H d = none → E (.ref CU) (some d) (upd H d (.xd [("name", v)])))
/-- == of two forms -/
def RF (C : Addr) : Addr → Addr → Bool → Hp → Prop := fun p q b H => ∃ (ch ch' : Addr) (ts ts' : List Addr) (d d' : FD), FormAt H C p ch d.1 d.2.1 ts d.2.2 ∧ FormAt H C q ch' d'.1 d'.2.1 ts' d'.2.2 ∧ b = decide (d = d')
theorem fd_dec (d d' : FD) : (decide (d.1 = d'.1) && (decide (d.2.1 = d'.2.1) && decide (d.2.2 = d'.2.2))) = decide (d = d') := by
  obtain ⟨n, so, cs⟩ := d
  obtain ⟨n', so', cs'⟩ := d'
  by_cases e1 : n = n' <;> by_cases e2 : so = so' <;> by_cases e3 : cs = cs' <;> simp [e1, e2, e3]
/-- v in the scheme -/
def spInS (K : PySem.W.Frag) (C CS : Addr) : Sp := fun vs H Q _ => ∃ (a : Addr) (b : Str) (ys : List Str) (ds : List FD) (v : V), vs = [.ref a, v] ∧ SchemeAt H C CS a b ys ds ∧
  ((∃ (x ch : Addr) (ts : List Addr) (d : FD), v = .ref x ∧ FormAt H C x ch d.1 d.2.1 ts d.2.2 ∧ ∀ H', Same H H' → Q (.bl (decide (d ∈ ds))) H') ∨
    (Odd K H v ∧ (∃ t, TyX K H v (.type t) ∧ t ∈ ["str", "tuple", "list", "NoneType", "int", "bool"]) ∧ Q (.bl (inT v (ds.map (·.1)))) H))
/-- a scheme == v -/
def spEqS (K : PySem.W.Frag) (C CS : Addr) : Sp := fun vs H Q _ => ∃ (a : Addr) (b : Str) (ys : List Str) (ds : List FD) (v : V), vs = [.ref a, v] ∧ SchemeAt H C CS a b ys ds ∧
  ((∃ t, t ∈ ["str", "tuple", "list", "NoneType"] ∧ TyX K H v (.type t) ∧ Q (.bl false) H) ∨
    ∃ (a' : Addr) (b' : Str) (ys' : List Str) (ds' : List FD), v = .ref a' ∧ SchemeAt H C CS a' b' ys' ds' ∧ ∀ H', Same H H' → Q (.bl (decide (b = b') && (decide (ys = ys') && decide (ds = ds')))) H')
/-- scheme.of_sort(sort) -/
def spOfS (K : PySem.W.Frag) (C CS CU : Addr) : Sp := fun vs H Q E => ∃ (a : Addr) (b : Str) (ys : List Str) (ds : List FD) (v : V), vs = [.ref a, v] ∧ SchemeAt H C CS a b ys ds ∧ Odd K H v ∧
  (∀ z, v = .str z → z ∈ ys ++ said ds → ∀ p H', Same H H' → H' p = some (.tup (((ds.filter fun d => decide (d.2.1 = z)).map (·.1)).map V.str)) → Q (.ref p) H') ∧
  ((∀ z, v = .str z → z ∉ ys ++ said ds) → ∀ d, H d = none → E (.ref CU) (some d) (upd H d (.xd [("name", v)])))
/-- the getters -/
structure SchemeP (P : Program) (w : World) (K : PySem.W.Frag) (mg : Str → Option Value) (base : Heap) (CS : Addr) : Prop where
  get : ∀ x ∈ [(("bare" : Str), ("_bare" : Str)), ("tops", "_tops"), ("forms", "_forms"), ("names", "_names"), ("sorts", "_sorts")], ∃ (p g : Addr) (fd : FuncData), PropOf K CS x.1 p g ∧ FnG P w K mg base 1 g fd ["self"] (spFld CS x.2) ∧ Binds K fd ["self"] []
/-- == of forms -/
structure FormQ (P : Program) (w : World) (K : PySem.W.Frag) (mg : Str → Option Value) (base : Heap) (C : Addr) : Prop where
  eq : ∃ (f : Addr) (fd : FuncData), FnG P w K mg base 3 f fd ["self", "other"] (spEq K C) ∧ PySem.W.findIn K (.ref C) "__eq__" = some (some (.ref f)) ∧ PySem.W.isFn K (.ref f) = true ∧ Binds K fd ["self", "other"] []
theorem two_signs : ∀ n < 64, (Str.ofString (toString ((n : Nat) : Int))).length ≤ 2 := by decide +kernel
section
variable {P : Program} {w : World} {K : PySem.W.Frag} {mg : Str → Option Value} {base : Heap} {C CS CU : Addr}
theorem ok_S_len {f : Addr} {fd : FuncData} (F : Fun K "__len__" "Scheme.__len__" s_S_len f fd) (T : SchemeC K CS) (z_len : mg "len" = none) : FnG P w K mg base 1 f fd ["self"] (spLenS C CS) := by
  refine goes_by F sc_S_len (fun vs H Q E h => ?_) (fun cdv A outer s H vs Q E hc hr h => ?_)
  · obtain ⟨a, b, ys, ds, rfl, _⟩ := h
    rfl
  · obtain ⟨a, b, ys, ds, rfl, S, q⟩ := h
    obtain ⟨dx, t, bn, nm, f, so, kvs, fs, zs, ha, ht, hn, hf, FF, hb, hv, hs, mz, srt, nd⟩ := S.ex
    refine ⟨_, pss_one (ps_ret (pe_callB call_len_seq (by rfl) z_len PySem.boot_len (pa_cons (pe_fld (f := "_names") (pv 0) (by rfl)) pa_nil))), ?_⟩
    refine ⟨_, rfl, a, CS, dx, _, .ref nm, rfl, ha, T.c, T.n _ (by simp), by rfl, nm, _, rfl, .inr (.inl (.inl hn)), ?_⟩
    rw [List.length_map, List.length_map]
    exact q
theorem ok_S_str {f : Addr} {fd : FuncData} (F : Fun K "__str__" "Scheme.__str__" s_S_str f fd) (T : SchemeC K CS) (z_len : mg "len" = none) : FnG P w K mg base 1 f fd ["self"] (spStrS C CS) := by
  refine goes_by F sc_S_str (fun vs H Q E h => ?_) (fun cdv A outer s H vs Q E hc hr h => ?_)
  · obtain ⟨a, b, ys, ds, rfl, _⟩ := h
    rfl
  · obtain ⟨a, b, ys, ds, rfl, S, q⟩ := h
    obtain ⟨dx, t, bn, nm, f, so, kvs, fs, zs, ha, ht, hn, hf, FF, hb, hv, hs, mz, srt, nd⟩ := S.ex
    refine ⟨_, pss_one (ps_ret (pe_joined (.cons pe_str (.cons (pe_fmt (pe_callB call_len_seq (by rfl) z_len PySem.boot_len (pa_cons (pe_fld (f := "_names") (pv 0) (by rfl)) pa_nil))) (.cons pe_str (.cons (pe_fmt (pe_callB call_len_seq (by rfl) z_len PySem.boot_len (pa_cons (pe_fld (f := "_sorts") (pv 0) (by rfl)) pa_nil))) (.cons pe_str .nil))))))), ?_⟩
    have zl : zs.length = nSorts ys ds := len_dd nd mz
    have few := S.few
    have sor : nSorts ys ds ≤ 8 := S.sorts
    have l1 : ("scheme of " : Str).length = 10 := by decide +kernel
    have l2 : (" forms, " : Str).length = 8 := by decide +kernel
    have l3 : (" sorts" : Str).length = 6 := by decide +kernel
    have t1 := two_signs ds.length (by omega)
    have t2 := two_signs (nSorts ys ds) (by omega)
    have lg : ∀ {n : Nat}, n < 64 → ((n : Int)).natAbs.log2 < 1920 := fun {n} h => by
      have : ∀ n < 64, ((n : Nat) : Int).natAbs.log2 < 1920 := by decide +kernel
      exact this n h
    have big : ∀ {n : Nat}, n ≤ 100 → n ≤ sizeLine := fun h => Nat.le_trans h (by decide)
    refine ⟨"scheme of ", rfl, by rw [empty_app, l1]; exact big (by decide), _, rfl, a, CS, dx, _, .ref nm, rfl, ha, T.c, T.n _ (by simp), by rfl, nm, _, rfl, .inr (.inl (.inl hn)), .inr ⟨_, rfl, ?_, _, rfl, ?_, ?_⟩⟩
    · rw [List.length_map, List.length_map]
      exact lg (by omega)
    · rw [List.length_map, List.length_map, empty_app, PySem.Str.length_append, l1]
      exact big (by omega)
    rw [List.length_map, List.length_map, empty_app]
    refine ⟨" forms, ", rfl, ?_, _, rfl, a, CS, dx, _, .ref so, rfl, ha, T.c, T.n _ (by simp), by rfl, so, _, rfl, .inr (.inl (.inl hs)), .inr ⟨_, rfl, ?_, _, rfl, ?_, ?_⟩⟩
    · rw [PySem.Str.length_append, PySem.Str.length_append, l1, l2]
      exact big (by omega)
    · rw [List.length_map, zl]
      exact lg (by omega)
    · rw [List.length_map, zl, PySem.Str.length_append, PySem.Str.length_append, PySem.Str.length_append, l1, l2]
      exact big (by omega)
    rw [List.length_map, zl]
    refine ⟨" sorts", rfl, ?_, q⟩
    rw [PySem.Str.length_append, PySem.Str.length_append, PySem.Str.length_append, PySem.Str.length_append, l1, l2, l3]
    exact big (by omega)
theorem ok_S_getitem {f fI : Addr} {fd fdI : FuncData} {psI : List Str} (F : Fun K "__getitem__" "Scheme.__getitem__" s_S_getitem f fd) (T : SchemeC K CS) (TI : EI K CU fI) (no : PySem.W.findIn K (.ref CU) "name" = some none) (FI : FnG P w K mg base 1 fI fdI psI (spSet K CU fI "name")) (bI : Binds K fdI psI []) (gU : mg "UnknownName" = some (.ref CU)) : FnE P w K mg base 4 f fd ["self", "name"] (spItemS K C CS CU) := by
  refine goes_exc F sc_S_getitem (fun vs H Q E h => ?_) (fun cdv A outer s H vs Q E hc hr tk h => ?_)
  · obtain ⟨a, b, ys, ds, v, rfl, _⟩ := h
    rfl
  · obtain ⟨a, b, ys, ds, v, rfl, S, o, q1, q2⟩ := h
    obtain ⟨dx, t, bn, nm, f, so, kvs, fs, zs, ha, ht, hn, hf, FF, hb, hv, hs, mz, srt, nd⟩ := S.ex
    refine ⟨_, (pss_cons (ps_if (pt_cmpR (op_notInT hr.in1.units0) (pv 1) (pe_fld (f := "_names") (pv 0) (by rfl)) (by rfl))
        (pss_one (ps_raise (by rfl) tk (pmk_E (f := "name") TI no FI hc (hr.mono (by decide)) bI (by rfl) gU (pa_cons (pv 1) pa_nil)))) pss_nil)
      (pss_one (ps_ret (pe_dget (hu_of hr) (pe_fld (f := "_by_name") (pv 0) (by rfl)) (pv 1) (fun _ _ => rfl))))), ?_⟩
    refine ⟨_, rfl, _, rfl, a, CS, dx, _, .ref nm, rfl, ha, T.c, T.n _ (by simp), by rfl, nm, _, rfl, .inl (.inl hn), o, _, rfl, ?_⟩
    cases e : inT v (ds.map (·.1)) with
    | false => exact iteT ⟨_, rfl, v, rfl, fun d nd => q2 e d nd⟩
    | true =>
      cases v with
      | str z =>
        rw [inT_mem] at e
        obtain ⟨d, hd, rfl⟩ := List.mem_map.mp (of_decide_eq_true e)
        obtain ⟨i, hi⟩ := List.mem_iff_getElem?.mp hd
        have il := (List.getElem?_eq_some_iff.mp hi).1
        have FL := FF.len
        obtain ⟨x, hx⟩ : ∃ x, fs[i]? = some x := ⟨fs[i], List.getElem?_eq_getElem (by omega)⟩
        obtain ⟨ch, ts, FA⟩ := FF.at_ i x d hx hi
        exact iteF ⟨_, rfl, a, CS, dx, _, .ref bn, rfl, ha, T.c, T.n _ (by simp), by rfl, _, rfl, bn, .ref x, rfl, .inl ⟨kvs, Sum.inr d.1, .inl hb, rfl, (hv i x d hx hi).symm⟩, q1 d x ch ts hd rfl FA⟩
      | _ => simp [inT, isT] at e
theorem mon_RF : ∀ p q b H H', Ext H H' → RF C p q b H → RF C p q b H' := fun p q b H H' e h => by
  obtain ⟨ch, ch', ts, ts', d, d', f, g, eb⟩ := h
  exact ⟨ch, ch', ts, ts', d, d', f.sm e, g.sm e, eb⟩
theorem eqB_form {X : Cx} (W : FormQ X.prog X.w X.K X.mg X.base C) : EqB X 3 (BIns C (RF C)) := by
  obtain ⟨f, fd, F, hs, hf, hb⟩ := W.eq
  refine eqB_ins F hs hf hb (fun p q b H Q h k => ?_) (fun p b H h => ?_)
  · obtain ⟨ch, ch', ts, ts', d, d', f, g, rfl⟩ := h
    refine ⟨p, ch, d.1, d.2.1, ts, d.2.2, .ref q, rfl, f, .inr ⟨q, ch', d'.1, d'.2.1, ts', d'.2.2, rfl, g, ?_⟩⟩
    rw [fd_dec]
    exact k H Ext.rfl'
  · obtain ⟨ch, ch', ts, ts', d, d', f, g, rfl⟩ := h
    obtain ⟨e1, e2, e3⟩ := f.uniq g
    rw [← fd_dec, e1, e2, e3]
    simp
theorem at_form {H : Hp} {x ch x' ch' : Addr} {ts ts' : List Addr} {d d' : FD} (f : FormAt H C x ch d.1 d.2.1 ts d.2.2) (g : FormAt H C x' ch' d'.1 d'.2.1 ts' d'.2.2) : BIns C (RF C) (.ref x) (.ref x') (decide (d = d')) H := by
  obtain ⟨dx, e⟩ := f.at_
  obtain ⟨dx', e'⟩ := g.at_
  exact ⟨x, x', dx, dx', _, _, rfl, rfl, e, e', ch, ch', ts, ts', d, d', f, g, rfl⟩
theorem all_forms {H : Hp} {fs fs' : List Addr} {ds ds' : List FD} (F : Forms H C fs ds) (G : Forms H C fs' ds') : AllD (BIns C (RF C)) (fs.map V.ref) (fs'.map V.ref) (allE ds ds') H := by
  intro i x y hx hy
  rw [List.getElem?_map] at hx hy
  obtain ⟨p, hp, rfl⟩ := Option.map_eq_some_iff.mp hx
  obtain ⟨q, hq, rfl⟩ := Option.map_eq_some_iff.mp hy
  have l1 := F.len
  have l2 := G.len
  have i1 := (List.getElem?_eq_some_iff.mp hp).1
  have i2 := (List.getElem?_eq_some_iff.mp hq).1
  have e1 : ds[i]? = some ds[i] := List.getElem?_eq_getElem (by omega)
  have e2 : ds'[i]? = some ds'[i] := List.getElem?_eq_getElem (by omega)
  obtain ⟨ch, ts, FA⟩ := F.at_ i p _ hp e1
  obtain ⟨ch', ts', FB⟩ := G.at_ i q _ hq e2
  have := at_form FA FB
  unfold allE
  rw [e1, e2]
  have e : decide (some ds[i] = some ds'[i]) = decide (ds[i] = ds'[i]) := by
    by_cases e : ds[i] = ds'[i]
    · rw [e, decide_eq_true rfl, decide_eq_true rfl]
    · rw [decide_eq_false e, decide_eq_false fun z => e (Option.some.inj z)]
  rw [e]
  exact this
theorem ok_S_contains {f : Addr} {fd : FuncData} (F : Fun K "__contains__" "Scheme.__contains__" s_S_contains f fd) (T : SchemeC K CS) (TF : FormC K C) (TI : FormI K C) (no2 : ∀ t ∈ ["int", "bool"], PySem.W.kitOne K (.type t) (.ref C) = some false) (W : FormQ P w K mg base C) (gF : mg "Form" = some (.ref C)) (z_isinstance : mg "isinstance" = none) : FnG P w K mg base 5 f fd ["self", "value"] (spInS K C CS) := by
  refine goes_by F sc_S_contains (fun vs H Q E h => ?_) (fun cdv A outer s H vs Q E hc hr h => ?_)
  · obtain ⟨a, b, ys, ds, v, rfl, _⟩ := h
    rfl
  · obtain ⟨a, b, ys, ds, v, rfl, S, h⟩ := h
    obtain ⟨dx, t, bn, nm, f, so, kvs, fs, zs, ha, ht, hn, hf, FF, hb, hv, hs, mz, srt, nd⟩ := S.ex
    refine ⟨_, (pss_cons (ps_if (pt_val (pe_callB call_isi (by rfl) z_isinstance (by decide +kernel) (pa_cons (pv 1) (pa_cons (pe_glob (v := .ref C) (by rfl) gF rfl) pa_nil))))
        (pss_one (ps_ret (pe_cmpR (op_inB (monD_ins mon_RF) (eqB_form W) hc hr) (pv 1) (pe_fld (f := "_forms") (pv 0) (by rfl)) (by rfl)))) pss_nil)
      (pss_one (ps_ret (pe_cmpR (op_inT hr.in1.units0) (pv 1) (pe_fld (f := "_names") (pv 0) (by rfl)) (by rfl))))), ?_⟩
    rcases h with ⟨x, ch, ts, d, rfl, FA, q⟩ | ⟨o, ⟨t', ty, mt⟩, q⟩
    · obtain ⟨dx', hx⟩ := FA.at_
      refine ⟨_, rfl, _, _, _, _, true, rfl, .own C, .base (.ins hx TF.c TI.ca TI.sp TI.tk TI.mo), TI.yes, _, rfl, iteT ?_⟩
      refine ⟨_, rfl, _, rfl, a, CS, dx, _, .ref f, rfl, ha, T.c, T.n _ (by simp), by rfl, f, _, anyE ds fun d' => decide (d' = d), rfl, .inl (.inl hf), fun i z hz => ?_, fun H' s => ?_⟩
      · rw [List.getElem?_map] at hz
        obtain ⟨p, hp, rfl⟩ := Option.map_eq_some_iff.mp hz
        have l1 := FF.len
        have i1 := (List.getElem?_eq_some_iff.mp hp).1
        have e1 : ds[i]? = some ds[i] := List.getElem?_eq_getElem (by omega)
        obtain ⟨ch', ts', FB⟩ := FF.at_ i p _ hp e1
        unfold anyE
        rw [e1]
        exact at_form FB FA
      · rw [List.length_map, FF.len, any_at]
        have e : (ds.any fun d' => decide (d' = d)) = decide (d ∈ ds) := by
          rw [Bool.eq_iff_iff, List.any_eq_true, decide_eq_true_eq]
          exact ⟨fun ⟨z, h, e⟩ => by have := of_decide_eq_true e; subst this; exact h, fun h => ⟨d, h, decide_eq_true rfl⟩⟩
        rw [e]
        exact q H' s
    · have no : PySem.W.kitOne K (.type t') (.ref C) = some false := by
        simp only [List.mem_cons, List.not_mem_nil, or_false] at mt
        rcases mt with rfl | rfl | rfl | rfl | rfl | rfl
        · exact TI.no _ (by simp)
        · exact TI.no _ (by simp)
        · exact TI.no _ (by simp)
        · exact TI.no _ (by simp)
        · exact no2 _ (by simp)
        · exact no2 _ (by simp)
      refine ⟨_, rfl, _, _, _, _, false, rfl, .own C, ty, no, _, rfl, iteF ?_⟩
      exact ⟨_, rfl, _, rfl, a, CS, dx, _, .ref nm, rfl, ha, T.c, T.n _ (by simp), by rfl, nm, _, rfl, .inl (.inl hn), o, q⟩
theorem eqv_strs2 (ys ys' : List Str) : PyData.eqv (.tuple (ys.map PyData.str)) (.tuple (ys'.map PyData.str)) = decide (ys = ys') := by
  have go : ∀ ys ys' : List Str, PyData.eqvAll (ys.map PyData.str) (ys'.map PyData.str) = decide (ys = ys') := fun ys => by
    induction ys with
    | nil =>
      intro ys'
      cases ys' <;> simp [PyData.eqvAll]
    | cons y ys ih =>
      intro ys'
      cases ys' with
      | nil => simp [PyData.eqvAll]
      | cons z zs =>
        rw [List.map_cons, List.map_cons, PyData.eqvAll, ih zs]
        by_cases e1 : y = z <;> by_cases e2 : ys = zs <;> simp [PyData.eqv, e1, e2]
  rw [← go]
  simp [PyData.eqv]
theorem shaped_tops {ys : List Str} (h : ∀ y ∈ ys, Fine y) : SeqAt.shaped (.tuple (ys.map PyData.str)) = true := by
  have := shaped_strs fun y hy => (h y hy).2
  exact this
theorem ok_S_eq {f : Addr} {fd : FuncData} (F : Fun K "__eq__" "Scheme.__eq__" s_S_eq f fd) (T : SchemeC K CS) (TIS : FormI K CS) (TPS : SchemeP P w K mg base CS) (W : FormQ P w K mg base C) (gS : mg "Scheme" = some (.ref CS)) (z_isinstance : mg "isinstance" = none) : FnG P w K mg base 5 f fd ["self", "other"] (spEqS K C CS) := by
  obtain ⟨p1, g1, fd1, o1, G1, b1⟩ := TPS.get _ (List.mem_cons_self)
  obtain ⟨p2, g2, fd2, o2, G2, b2⟩ := TPS.get ("tops", "_tops") (by simp)
  obtain ⟨p3, g3, fd3, o3, G3, b3⟩ := TPS.get ("forms", "_forms") (by simp)
  refine goes_by F sc_S_eq (fun vs H Q E h => ?_) (fun cdv A outer s H vs Q E hc hr h => ?_)
  · obtain ⟨a, b, ys, ds, v, rfl, _⟩ := h
    rfl
  · obtain ⟨a, b, ys, ds, v, rfl, S, h⟩ := h
    have fine := S.tops.1
    obtain ⟨dx, t, bn, nm, f, so, kvs, fs, zs, ha, ht, hn, hf, FF, hb, hv, hs, mz, srt, nd⟩ := S.ex
    refine ⟨_, pss_one (ps_ret (pe_and (pe_callB call_isi (by rfl) z_isinstance (by decide +kernel) (pa_cons (pv 1) (pa_cons (pe_glob (v := .ref CS) (by rfl) gS rfl) pa_nil)))
      (pe_and (pe_cmpR op_eq (pe_propG (n := "bare") (pv 0) T.c o1 G1 hc (hr.mono (by decide)) b1) (pe_propG (n := "bare") (pv 1) T.c o1 G1 hc (hr.mono (by decide)) b1) (nomark _))
      (pe_and (pe_cmpR (op_eqD hr.units) (pe_propG (n := "tops") (pv 0) T.c o2 G2 hc (hr.mono (by decide)) b2) (pe_propG (n := "tops") (pv 1) T.c o2 G2 hc (hr.mono (by decide)) b2) (nomark _))
      (pe_one (pe_cmpR (op_eqB (rcB_tup_eq (monD_ins mon_RF) (eqB_form W)) (fun _ _ => rfl) hc hr) (pe_propG (n := "forms") (pv 0) T.c o3 G3 hc (hr.mono (by decide)) b3) (pe_propG (n := "forms") (pv 1) T.c o3 G3 hc (hr.mono (by decide)) b3) (nomark _))))))), ?_⟩
    have le1 : ∀ {x y : Str}, decide (V.str x = V.str y) = decide (x = y) := fun {x y} => by
      by_cases e : x = y
      · rw [e, decide_eq_true rfl, decide_eq_true rfl]
      · rw [decide_eq_false e, decide_eq_false fun z => e (V.str.inj z)]
    rcases h with ⟨t', mt, ty, q⟩ | ⟨a', b', ys', ds', rfl, S', q⟩
    · exact ⟨_, rfl, _, _, _, _, false, rfl, .own CS, ty, TIS.no t' mt, _, rfl, iteF q⟩
    · have fine' := S'.tops.1
      obtain ⟨dx', t', bn', nm', f', so', kvs', fs', zs', ha', ht', hn', hf', FF', hb', hv', hs', mz', srt', nd'⟩ := S'.ex
      refine ⟨_, rfl, _, _, _, _, true, rfl, .own CS, .base (.ins ha' T.c TIS.ca TIS.sp TIS.tk TIS.mo), TIS.yes, _, rfl, iteT ?_⟩
      refine ⟨_, rfl, a, dx, _, rfl, ha, a, dx, _, .str b, rfl, ha, by rfl, _, rfl, a', dx', _, rfl, ha', a', dx', _, .str b', rfl, ha', by rfl, rfl, _, rfl, ?_⟩
      rw [le1]
      cases e1 : decide (b = b') with
      | false =>
        rw [e1, Bool.false_and] at q
        exact iteF (q H (Same.refl H))
      | true =>
        rw [e1, Bool.true_and] at q
        refine iteT ⟨_, rfl, a, dx, _, rfl, ha, a, dx, _, .ref t, rfl, ha, by rfl, _, rfl, a', dx', _, rfl, ha', a', dx', _, .ref t', rfl, ha', by rfl, _, _, .tup (.inl (.inl ht)) (dp_strs ys), .tup (.inl (.inl ht')) (dp_strs ys'), shaped_tops fine, shaped_tops fine', _, rfl, ?_⟩
        rw [eqv_strs2]
        cases e2 : decide (ys = ys') with
        | false =>
          rw [e2, Bool.false_and] at q
          exact iteF (q H (Same.refl H))
        | true =>
          rw [e2, Bool.true_and] at q
          refine iteT ⟨_, rfl, a, dx, _, rfl, ha, a, dx, _, .ref f, rfl, ha, by rfl, _, rfl, a', dx', _, rfl, ha', a', dx', _, .ref f', rfl, ha', by rfl, decide (ds = ds'), ⟨f, f', _, _, allE ds ds', rfl, rfl, .inl (.inl hf), .inl (.inl hf'), all_forms FF FF', ?_⟩, q⟩
          rw [List.length_map, List.length_map, FF.len, FF'.len, all_at, Bool.false_xor]
end
end K12
set_option Elab.async false
set_option linter.all false
set_option autoImplicit false
set_option maxRecDepth 100000
set_option maxHeartbeats 4000000
namespace K12
open PySem PySem.Spec PyProof.Rows L2 Vb Wd Xd Xo Xv SX Pc Zc Oi
/-- a def of the text at a name, which may let an error out -/
def CgE (P : Program) (w : World) (K : PySem.W.Frag) (mg : Str → Option Value) (base : Heap) (k : Nat) (x : Str) (sp : Sp) : Prop :=
  ∃ (f : Addr) (fd : FuncData) (ps : List Str), FnE P w K mg base k f fd ps sp ∧ mg x = some (.ref f) ∧ PySem.W.keepIn K (.ref f) = true ∧ Binds K fd ps []
/-- what a call of such a def asks -/
def tCE (sp : Sp) (E : XK) (t : TA) : TE := fun σ H Q => t σ H fun vs H1 => sp vs H1 Q E
theorem pe_cgE {X : Cx} {W : WX} {j k : Nat} {sp : Sp} {E : XK} {x : Str} {p pos : Pos} {e : Expr} {es : List Expr} {t : TA} (G : CgE X.prog X.w X.K X.mg X.base j x sp) (hc : Calm X.A) (hr : Room k X.A) (hg : Gl X x) (tk : Takes X W) (hW : ∀ cls d σ H, E cls d H → W cls d σ H) (ha : PA X (e :: es) t) (hj : j ≤ k := by decide)
    (hdb : (x == ("__debug__" : Str)) = false := by decide) (he : starEach (e :: es) X.env = (false, eval e X.env) :: starEach es X.env := by rfl) (hpl : (backTo pos (starEach es X.env)).any (·.1) = false := by rfl) : PE X (.Call (.Name x p) (e :: es) [] pos) (tCE sp E t) := by
  obtain ⟨f, fd, ps, F, m, kp, b⟩ := G
  exact pe_callE F hc (hr.mono hj) hg m kp b tk hW ha hdb he hpl
abbrev s_is_formed : Stmt := topS 42
theorem sc_is_formed : FnScope ["scheme", "picture"] ["scheme", "picture"] (defScope s_is_formed) := ⟨rfl, rfl, rfl, by decide +kernel, rfl, by decide +kernel, by decide +kernel⟩
/-- what is known of Scheme's methods that pictures ask -/
structure EnvW (P : Program) (w : World) (K : PySem.W.Frag) (mg : Str → Option Value) (base : Heap) (C CS CU : Addr) : Prop where
  T : SchemeC K CS
  TF : FormC K C
  TP : FormP P w K mg base C
  item : ∃ (f : Addr) (fd : FuncData), FnE P w K mg base 4 f fd ["self", "name"] (spItemS K C CS CU) ∧ PySem.W.findIn K (.ref CS) "__getitem__" = some (some (.ref f)) ∧ PySem.W.fnIn K f = true ∧ PySem.W.isFn K (.ref f) = true ∧ Binds K fd ["self", "name"] []
  inn : ∃ (f : Addr) (fd : FuncData), FnG P w K mg base 5 f fd ["self", "value"] (spInS K C CS) ∧ PySem.W.findIn K (.ref CS) "__contains__" = some (some (.ref f)) ∧ PySem.W.isFn K (.ref f) = true ∧ Binds K fd ["self", "value"] []
  lenF : ∃ (f : Addr) (fd : FuncData), FnG P w K mg base 1 f fd ["self"] (spLenF C) ∧ PySem.W.findIn K (.ref C) "__len__" = some (some (.ref f)) ∧ PySem.W.isFn K (.ref f) = true ∧ Binds K fd ["self"] []
/-- the form of a name -/
def formOf (ds : List FD) (n : List Nat) : Option FD := ds.find? fun d => decide (d.1 = S n)
theorem formOf_mem {ds : List FD} {n : List Nat} {d : FD} (h : formOf ds n = some d) : d ∈ ds ∧ d.1 = S n := ⟨List.mem_of_find?_eq_some h, of_decide_eq_true (List.find?_some (p := fun d : FD => decide (d.1 = S n)) h)⟩
theorem formOf_none {ds : List FD} {n : List Nat} (h : formOf ds n = none) : S n ∉ ds.map (·.1) := fun m => by
  obtain ⟨d, hd, e⟩ := List.mem_map.mp m
  have := List.find?_eq_none.mp h d hd
  simp [e] at this
theorem formOf_some {ds : List FD} {n : List Nat} {d : FD} (h : formOf ds n = some d) : S n ∈ ds.map (·.1) := by
  obtain ⟨a, b⟩ := formOf_mem h
  exact List.mem_map.mpr ⟨d, a, b⟩
theorem once_name {ds : List FD} (nd : (ds.map (·.1)).Nodup) : ∀ {d d' : FD}, d ∈ ds → d' ∈ ds → d.1 = d'.1 → d = d' := by
  induction ds with
  | nil => intro d d' h; cases h
  | cons r ds ih =>
    intro d d' h1 h2 e
    rw [List.map_cons] at nd
    obtain ⟨n1, n2⟩ := List.nodup_cons.mp nd
    rcases List.mem_cons.mp h1 with e1 | h1
    · rcases List.mem_cons.mp h2 with e2 | h2
      · rw [e1, e2]
      · exact (n1 (List.mem_map.mpr ⟨d', h2, by rw [← e, e1]⟩)).elim
    · rcases List.mem_cons.mp h2 with e2 | h2
      · exact (n1 (List.mem_map.mpr ⟨d, h1, by rw [e, e2]⟩)).elim
      · exact ih n2 h1 h2 e
def formed (ds : List FD) : Pic → Bool
  | .hole => false
  | .node n ps => match formOf ds n with
    | none => false
    | some d => decide (d.2.2.length = ps.length)
theorem formed_no {ds : List FD} {n : List Nat} {ps : List Pic} (h : formOf ds n = none) : formed ds (.node n ps) = false := by
  simp [formed, h]
theorem formed_yes {ds : List FD} {n : List Nat} {ps : List Pic} {d : FD} (h : formOf ds n = some d) : formed ds (.node n ps) = decide (d.2.2.length = ps.length) := by
  simp [formed, h]
def spFormed (C CS CP : Addr) : Sp := fun vs H Q _ => ∃ (a : Addr) (b : Str) (ys : List Str) (ds : List FD) (p : Pic) (v : V), vs = [.ref a, v] ∧ SchemeAt H C CS a b ys ds ∧ PicAt H CP p v ∧ Q (.bl (formed ds p)) H
section
variable {P : Program} {w : World} {K : PySem.W.Frag} {mg : Str → Option Value} {base : Heap} {C CS CU CP : Addr}
theorem ok_is_formed (D : Df K mg "_is_formed" s_is_formed ["scheme", "picture"]) (W : EnvW P w K mg base C CS CU) (VQ : EnvQ P w K mg base CP) (z_len : mg "len" = none) : Cg P w K mg base 7 "_is_formed" (spFormed C CS CP) := by
  obtain ⟨p1, g1, fd1, o1, G1, b1⟩ := VQ.TP.get ("called", "_called") (by simp)
  obtain ⟨p2, g2, fd2, o2, G2, b2⟩ := VQ.TP.get ("parts", "_parts") (by simp)
  obtain ⟨fI, fdI, FI, eI, nI, tI, bI⟩ := W.item
  obtain ⟨fN, fdN, FN, eN, tN, bN⟩ := W.inn
  obtain ⟨fL, fdL, FL, eL, tL, bL⟩ := W.lenF
  refine D.ok sc_is_formed (fun vs H Q E h => ?_) (fun cdv A outer s H vs Q E f0 hc hr h => ?_)
  · obtain ⟨a, b, ys, ds, p, v, rfl, _⟩ := h
    rfl
  · obtain ⟨a, b, ys, ds, p, v, rfl, SA, PA, q⟩ := h
    refine ⟨_, (pss_one (ps_ret (pe_and (pe_cmpR (op_inO FN eN tN bN hc (hr.mono (by decide))) (pe_propG (n := "called") (pv 1) VQ.T.c o1 G1 hc (hr.mono (by decide)) b1) (pv 0) (by rfl))
      (pe_one (pe_cmpR op_eq (pe_callB (call_lenO FL eL tL bL hc (hr.mono (by decide))) (by rfl) z_len (by decide +kernel) (pa_cons (pe_itemO (E := fun _ _ _ => False) (W := fun _ _ _ _ => False) (pv 0) (pe_propG (n := "called") (pv 1) VQ.T.c o1 G1 hc (hr.mono (by decide)) b1) FI eI nI tI bI hc (hr.mono (by decide)) LamX.takes0 (fun _ _ _ _ z => z)) pa_nil))
        (pe_callB call_len_seq (by rfl) z_len PySem.boot_len (pa_cons (pe_propG (n := "parts") (pv 1) VQ.T.c o2 G2 hc (hr.mono (by decide)) b2) pa_nil)) (nomark _)))))), ?_⟩
    obtain ⟨x, dx, pt, nt, ws, rfl, h1, h2, h3, h4⟩ := PA.ex
    have SA' := SA
    obtain ⟨dxs, t, bn, nm, f, so, kvs, fs, zs, ha, ht, hn, hf, FF, hb, hv, hs, mz, srt, nd⟩ := SA'.ex
    refine ⟨_, rfl, x, dx, _, rfl, h1, x, dx, _, calledV p, rfl, h1, by rfl, _, rfl, a, dxs, _, rfl, ha, a, b, ys, ds, calledV p, rfl, SA, .inr ⟨.inl ?_, ?_, ?_⟩⟩
    · cases p <;> rfl
    · cases p with
      | hole => exact ⟨"NoneType", .base .non, by simp⟩
      | node n ps => exact ⟨"str", .base (.str _), by simp⟩
    · cases p with
      | hole =>
        refine ⟨_, rfl, false, ?_, iteF q⟩
        simp [calledV, inT, isT]
      | node n ps =>
        cases ef : formOf ds n with
        | none =>
          rw [formed_no ef] at q
          refine ⟨_, rfl, false, ?_, iteF q⟩
          show V.bl (inT (.str (S n)) _) = _
          rw [inT_mem, decide_eq_false (formOf_none ef)]
        | some d =>
          rw [formed_yes ef] at q
          obtain ⟨dm, de⟩ := formOf_mem ef
          refine ⟨_, rfl, true, ?_, iteT ?_⟩
          · show V.bl (inT (.str (S n)) _) = _
            rw [inT_mem, decide_eq_true (formOf_some ef)]
          refine ⟨_, rfl, _, rfl, x, dx, _, rfl, h1, x, dx, _, .str (S n), rfl, h1, by rfl, a, dxs, _, rfl, ha, a, b, ys, ds, .str (S n), rfl, SA, .inl rfl, fun d' x' ch ks hd' e FA => ?_, fun no => ?_⟩
          · have ed : d' = d := once_name SA.once hd' dm (by rw [de]; exact (V.str.inj e).symm)
            subst ed
            obtain ⟨dx', fa⟩ := FA.at_
            have kl := FA.kids.len
            have k4 := FA.kids.hi
            refine ⟨x', dx', _, rfl, fa, x', ch, _, _, ks, _, rfl, FA, _, rfl, by omega, by omega, _, rfl, x, dx, _, rfl, h1, x, dx, _, .ref pt, rfl, h1, by rfl, pt, ws, rfl, .inr (.inl (.inl h2)), rfl, ?_⟩
            have wl := h4.len
            have e1 : decide (V.int (ks.length : Nat) = V.int (ws.length : Nat)) = decide (d'.2.2.length = ps.length) := by
              refine decide_eq_decide.mpr ⟨fun z => ?_, fun z => ?_⟩
              · have := V.int.inj z
                have w2 : ws.length = ps.length := wl
                omega
              · have w2 : ws.length = ps.length := wl
                rw [V.int.injEq]
                omega
            rw [e1]
            exact q
          · rw [inT_mem] at no
            exact (of_decide_eq_false no (formOf_some ef)).elim
end
end K12
set_option Elab.async false
set_option linter.all false
set_option autoImplicit false
set_option maxRecDepth 100000
set_option maxHeartbeats 4000000
namespace K12
open PySem PySem.Spec PyProof.Rows L2 Vb Wd Xd Xo Xv SX Pc Zc Oi RZ
theorem walk_zipT {K : PySem.W.Frag} {a b : Addr} {xs ys : List V} (hl : xs.length = ys.length) : Walk (ItzT K a b) xs.length (fun H => SqT K H a xs ∧ SqT K H b ys) (YPair (fun i => xs[i]?) (fun i => ys[i]?)) := by
  refine ⟨fun i _ hi q => ?_, fun _ q => ⟨xs, ys, q.1, q.2, .inl (Nat.le_refl _)⟩, fun i H v H' _ q y => ?_⟩
  · have h2 : i < ys.length := by omega
    exact ⟨xs, ys, xs[i], ys[i], q.1, q.2, by simp [hi], by simp [h2]⟩
  · obtain ⟨T, x, z, h1, h2, h3, h4, h5⟩ := y
    exact ⟨T, x, z, h1, h2, h3, h4 xs q.1, h5 ys q.2⟩
theorem lc_zipT {K : PySem.W.Frag} {a b : Addr} {xs ys : List V} {g : TG} {tt : TT} {te : TE} {vs : List Nat} {σ : L2.St} {H1 : Hp} {D : Addr} {Qd : Hp → Prop} (hl : xs.length = ys.length) (Pv : Nat → Hp → Prop) (h0 : Pv 0 (upd H1 D (.lst []))) (hG : ∀ i H, i ≤ xs.length → Pv i H → SqT K H a xs ∧ SqT K H b ys)
    (hs : ∀ (i : Nat) (x y : V) (T : Addr) (H : Hp), xs[i]? = some x → ys[i]? = some y → Pv i H → H T = none → g (.ref T) (wipe σ vs) (upd H T (.tup [x, y])) fun σ2 H2 => wipe σ2 vs = wipe σ vs ∧ tt σ2 H2 fun b H3 =>
      if b = true then te σ2 H3 fun y H4 => ∃ acc, H4 D = some (.lst acc) ∧ acc.length < sizeLine ∧ Pv (i + 1) (upd H4 D (.lst (acc ++ [y]))) else Pv (i + 1) H3) (hd : ∀ H, Pv xs.length H → Qd H) :
    ∃ W : Nat → Nat → Hp → Prop, (∃ m, W 0 m (upd H1 D (.lst []))) ∧ ∀ i m H, W i m H →
      ((ItzT K a b).stop i H ∧ Qd H) ∨ ((ItzT K a b).go i H ∧ ∃ Nx : Hp → Prop, (∀ H', Nx H' → ∃ m', m' < m ∧ W (i + 1) m' H') ∧ ∀ x H', (ItzT K a b).yld i H x H' → g x (wipe σ vs) H' fun σ2 H2 => wipe σ2 vs = wipe σ vs ∧ tt σ2 H2 fun b H3 =>
        if b = true then te σ2 H3 fun y H4 => ∃ acc, H4 D = some (.lst acc) ∧ acc.length < sizeLine ∧ Nx (upd H4 D (.lst (acc ++ [y]))) else Nx H3) :=
  lc_it (walk_zipT (K := K) (a := a) (b := b) hl) Pv h0 hG (fun i v H H' hi h y => by
    obtain ⟨T, x, z, rfl, nT, rfl, h1, h2⟩ := y
    exact hs i x z T H h1 h2 h nT) hd
abbrev s_is_sound_picture : Stmt := topS 35
theorem sc_is_sound_picture : FnScope ["scheme", "value", "children", "part", "child"] ["scheme", "value"] (defScope s_is_sound_picture) := ⟨rfl, rfl, rfl, by decide +kernel, rfl, by decide +kernel, by decide +kernel⟩
abbrev s_is_sound_part : Stmt := topS 43
theorem sc_is_sound_part : FnScope ["scheme", "part", "sort"] ["scheme", "part", "sort"] (defScope s_is_sound_part) := ⟨rfl, rfl, rfl, by decide +kernel, rfl, by decide +kernel, by decide +kernel⟩
def isHole : Pic → Bool
  | .hole => true
  | .node _ _ => false
def sortOk (ds : List FD) (so : Str) : Pic → Bool
  | .hole => false
  | .node m _ => match formOf ds m with
    | some d => decide (d.2.1 = so)
    | none => false
def kidsOf (ds : List FD) : Pic → List (Str × Int)
  | .hole => []
  | .node n _ => match formOf ds n with
    | some d => d.2.2
    | none => []
mutual
def sound (ds : List FD) : Pic → Bool
  | .hole => false
  | .node n ps => formed ds (.node n ps) && soundL ds ps (kidsOf ds (.node n []))
def soundL (ds : List FD) : List Pic → List (Str × Int) → Bool
  | [], _ => true
  | p :: ps, cs => match cs with
    | [] => true
    | c :: cs => (isHole p || (sound ds p && sortOk ds c.1 p)) && soundL ds ps cs
end
def soundP (ds : List FD) (p : Pic) (so : Str) : Bool := isHole p || (sound ds p && sortOk ds so p)
theorem soundL_all (ds : List FD) : ∀ (ps : List Pic) (cs : List (Str × Int)), soundL ds ps cs = (List.zipWith (fun p (c : Str × Int) => soundP ds p c.1) ps cs).all id
  | [], cs => by simp [soundL]
  | p :: ps, [] => by simp [soundL]
  | p :: ps, c :: cs => by
    rw [List.zipWith_cons_cons, List.all_cons, ← soundL_all ds ps cs]
    rfl
theorem sound_formed {ds : List FD} {p : Pic} (h : sound ds p = true) : formed ds p = true := by
  cases p with
  | hole => cases h
  | node n ps =>
    have h' : (formed ds (.node n ps) && soundL ds ps (kidsOf ds (.node n []))) = true := h
    rw [Bool.and_eq_true] at h'
    exact h'.1
theorem formed_form {ds : List FD} {n : List Nat} {ps : List Pic} (h : formed ds (.node n ps) = true) : ∃ d, formOf ds n = some d ∧ d.2.2.length = ps.length := by
  cases e : formOf ds n with
  | none =>
    rw [formed_no e] at h
    cases h
  | some d =>
    rw [formed_yes e] at h
    exact ⟨d, rfl, of_decide_eq_true h⟩
theorem sortOk_some {ds : List FD} {n : List Nat} {ps : List Pic} {d : FD} {so : Str} (h : formOf ds n = some d) : sortOk ds so (.node n ps) = decide (d.2.1 = so) := by
  simp [sortOk, h]
theorem sound_node {ds : List FD} {n : List Nat} {ps : List Pic} {d : FD} (h : formOf ds n = some d) : sound ds (.node n ps) = (formed ds (.node n ps) && soundL ds ps d.2.2) := by
  have e : kidsOf ds (.node n []) = d.2.2 := by simp [kidsOf, h]
  rw [← e]
  rfl
/-- a value of a kind that is no object of the class -/
def NotOf (K : PySem.W.Frag) (H : Hp) (v : V) (C : Addr) : Prop := ∃ t, TyX K H v t ∧ PySem.W.kitOne K t (.ref C) = some false
def spSoundX (K : PySem.W.Frag) (C CS CP CI : Addr) (n : Nat) : Sp := fun vs H Q E => ∃ (u v : V), vs = [u, v] ∧
  ((NotOf K H u CS ∧ E (.ref CI) none H) ∨
   (∃ (a : Addr) (b : Str) (ys : List Str) (ds : List FD), u = .ref a ∧ SchemeAt H C CS a b ys ds ∧
     ((NotOf K H v CP ∧ Q (.bl false) H) ∨
      (∃ p : Pic, PicAt H CP p v ∧ p.Ok ∧ p.lev < n ∧ ∀ H', Same H H' → Q (.bl (sound ds p)) H'))))
def spPartS (C CS CP : Addr) (n : Nat) : Sp := fun vs H Q _ => ∃ (a : Addr) (b : Str) (ys : List Str) (ds : List FD) (p : Pic) (v : V) (so : Str), vs = [.ref a, v, .str so] ∧ SchemeAt H C CS a b ys ds ∧ PicAt H CP p v ∧ p.Ok ∧ p.lev < n ∧ ∀ H', Same H H' → Q (.bl (soundP ds p so)) H'
section
variable {P : Program} {w : World} {K : PySem.W.Frag} {mg : Str → Option Value} {base : Heap} {C CS CU CP CI : Addr}
theorem ok_part_of {n k : Nat} (D : Df K mg "_is_sound_part" s_is_sound_part ["scheme", "part", "sort"]) (W : EnvW P w K mg base C CS CU) (VQ : EnvQ P w K mg base CP) (G_sound : CgE P w K mg base k "is_sound_picture" (spSoundX K C CS CP CI n)) (hk : 5 ≤ k) : CgE P w K mg base (k + 1) "_is_sound_part" (spPartS C CS CP n) := by
  obtain ⟨p1, g1, fd1, o1, G1, b1⟩ := VQ.TP.get ("called", "_called") (by simp)
  obtain ⟨p2, g2, fd2, o2, G2, b2⟩ := W.TP.get ("sort_name", "_sort_name") (by simp)
  obtain ⟨fI, fdI, FI, eI, nI, tI, bI⟩ := W.item
  obtain ⟨f, fd, F, m, b⟩ := D
  refine ⟨f, fd, _, goes_exc F sc_is_sound_part (fun vs H Q E h => ?_) (fun cdv A outer s H vs Q E hc hr tk h => ?_), m, F.kp, b⟩
  · obtain ⟨a, b, ys, ds, p, v, so, rfl, _⟩ := h
    rfl
  · obtain ⟨a, b, ys, ds, p, v, so, rfl, SA, PA, ok, ln, q⟩ := h
    have hr5 := hr.mono hk
    refine ⟨_, (pss_cons (ps_if (pt_cmpR op_isN (pe_propG (n := "called") (pv 1) VQ.T.c o1 G1 hc (hr5.mono (by decide)) b1) pe_non (nomark _))
      (pss_one (ps_ret pe_bl))
      pss_nil)
      (pss_one (ps_ret (pe_and (pe_cgE (E := fun _ _ _ => False) (W := fun _ _ _ _ => False) G_sound hc hr (by rfl) LamX.takes0 (fun _ _ _ _ z => z) (pa_cons (pv 0) (pa_cons (pv 1) pa_nil)) (hj := Nat.le_refl _)) (pe_one (pe_cmpR op_eq (pe_propG (n := "sort_name") (pe_itemO (E := fun _ _ _ => False) (W := fun _ _ _ _ => False) (pv 0) (pe_propG (n := "called") (pv 1) VQ.T.c o1 G1 hc (hr5.mono (by decide)) b1) FI eI nI tI bI hc hr5 LamX.takes0 (fun _ _ _ _ z => z)) W.TF.c o2 G2 hc (hr5.mono (by decide)) b2) (pv 2) (nomark _))))))), ?_⟩
    obtain ⟨x, dx, pt, nt, ws, rfl, h1, h2, h3, h4⟩ := PA.ex
    refine ⟨_, rfl, x, dx, _, rfl, h1, x, dx, _, calledV p, rfl, h1, by rfl, rfl, ?_⟩
    cases p with
    | hole => exact ⟨true, rfl, iteT (q H (Same.refl H))⟩
    | node n' ps =>
      have es : soundP ds (.node n' ps) so = (sound ds (.node n' ps) && sortOk ds so (.node n' ps)) := by
        unfold soundP isHole
        exact Bool.false_or _
      rw [es] at q
      refine ⟨false, rfl, iteF ⟨_, rfl, _, rfl, _, _, rfl, .inr ⟨a, b, ys, ds, rfl, SA, .inr ⟨_, PA, ok, ln, fun H1 s1 => ⟨_, rfl, ?_⟩⟩⟩⟩⟩
      cases e1 : sound ds (.node n' ps) with
      | false =>
        rw [e1, Bool.false_and] at q
        exact iteF (q H1 s1)
      | true =>
        rw [e1, Bool.true_and] at q
        obtain ⟨d, ef, _⟩ := formed_form (sound_formed e1)
        obtain ⟨dm, de⟩ := formOf_mem ef
        have SA1 := SA.same s1
        have SA1' := SA1
        obtain ⟨dxs, t, bn, nm, f, so', kvs, fs, zs, ha, ht, hn, hf, FF, hb, hv, hs, mz, srt, nd⟩ := SA1'.ex
        refine iteT ⟨_, rfl, _, rfl, x, dx, _, rfl, s1 _ _ h1, x, dx, _, .str (S n'), rfl, s1 _ _ h1, by rfl, a, dxs, _, rfl, ha, a, b, ys, ds, .str (S n'), rfl, SA1, .inl rfl, fun d' x' ch ks hd' e FA => ?_, fun no => ?_⟩
        · have ed : d' = d := once_name SA.once hd' dm (by rw [de]; exact (V.str.inj e).symm)
          subst ed
          obtain ⟨dx', fa⟩ := FA.at_
          refine ⟨x', dx', _, rfl, fa, x', ch, dx', _, _, .str d'.2.1, rfl, fa, by rfl, _, rfl, rfl, ?_⟩
          have e2 : decide (V.str d'.2.1 = V.str so) = sortOk ds so (.node n' ps) := by
            rw [sortOk_some ef]
            exact decide_eq_decide.mpr ⟨fun z => V.str.inj z, fun z => congrArg V.str z⟩
          rw [e2]
          exact q H1 s1
        · rw [inT_mem] at no
          exact (of_decide_eq_false no (formOf_some ef)).elim
theorem ok_sound_of {n k : Nat} (D : Df K mg "is_sound_picture" s_is_sound_picture ["scheme", "value"]) (W : EnvW P w K mg base C CS CU) (VQ : EnvQ P w K mg base CP) (TIS : FormI K CS) (TIP : FormI K CP) (gS : mg "Scheme" = some (.ref CS)) (TE : ErrC K mg "InvalidScheme" CI) (G_is_formed : Cg P w K mg base 7 "_is_formed" (spFormed C CS CP)) (G_part : CgE P w K mg base k "_is_sound_part" (spPartS C CS CP n)) (hk : 7 ≤ k)
    (z_isinstance : mg "isinstance" = none) (z_all : mg "all" = none) (z_zip : mg "zip" = none) : CgE P w K mg base (k + 1) "is_sound_picture" (spSoundX K C CS CP CI (n + 1)) := by
  obtain ⟨p1, g1, fd1, o1, G1, b1⟩ := VQ.TP.get ("called", "_called") (by simp)
  obtain ⟨p3, g3, fd3, o3, G3, b3⟩ := VQ.TP.get ("parts", "_parts") (by simp)
  obtain ⟨p2, g2, fd2, o2, G2, b2⟩ := W.TP.get ("children", "_children") (by simp)
  obtain ⟨fI, fdI, FI, eI, nI, tI, bI⟩ := W.item
  obtain ⟨f, fd, F, m, b⟩ := D
  refine ⟨f, fd, _, goes_exc F sc_is_sound_picture (fun vs H Q E h => ?_) (fun cdv A outer s H vs Q E hc hr tk h => ?_), m, F.kp, b⟩
  · obtain ⟨u, v, rfl, _⟩ := h
    rfl
  · obtain ⟨u, v, rfl, h⟩ := h
    have hr7 := hr.mono hk
    refine ⟨_, (pss_cons (ps_if (pt_not (pt_val (pe_callB call_isi (by rfl) z_isinstance (by decide +kernel) (pa_cons (pv 0) (pa_cons (pe_glob (v := .ref CS) (by rfl) gS rfl) pa_nil)))))
      (pss_one (ps_raise (by rfl) tk (pmk_own PySem.F.excBase_ValueError TE.e TE.g TE.k (raises_own TE.b TE.t) (by rfl))))
      pss_nil)
      (pss_cons (ps_if (PW.pt (pw_or (pt_not (pt_val (pe_callB call_isi (by rfl) z_isinstance (by decide +kernel) (pa_cons (pv 1) (pa_cons (pe_glob (v := .ref CP) (by rfl) VQ.g rfl) pa_nil))))) (pw_or1 (pt_not (pt_val (pe_cg G_is_formed hc hr7 (by rfl) (pa_cons (pv 0) (pa_cons (pv 1) pa_nil)) (hx := pass0)))))))
      (pss_one (ps_ret pe_bl))
      pss_nil)
      (pss_cons (ps_set (i := 2) sc_is_sound_picture.nd rfl (Or.inl rfl) (pe_propG (n := "children") (pe_itemO (E := fun _ _ _ => False) (W := fun _ _ _ _ => False) (pv 0) (pe_propG (n := "called") (pv 1) VQ.T.c o1 G1 hc (hr7.mono (by decide)) b1) FI eI nI tI bI hc (hr7.mono (by decide)) LamX.takes0 (fun _ _ _ _ z => z)) W.TF.c o2 G2 hc (hr7.mono (by decide)) b2))
      (pss_one (ps_ret (pe_callB (cr_all rfl) (by rfl) z_all (by decide +kernel) (pa_cons (pe_lc (own := [("part", 3), ("child", 4)]) (g := gTup K 2 (gCons (gName 3) (gCons (gName 4) gNil))) (by rfl) sc_is_sound_picture.nd
        (pi_zipA (by rfl) z_zip (pa_cons (pe_propG (n := "parts") (pv 1) VQ.T.c o3 G3 hc (hr7.mono (by decide)) b3) (pa_cons (pv 2) pa_nil)))
        (blkOk_by (own := [("part", 3), ("child", 4)]) (N := ["scheme", "value", "children", "part", "child"]) (sc := defScope s_is_sound_picture) (by decide +kernel)) (fun _ _ _ _ _ => pg_tup (by rfl) (pgs_cons (pg_name (i := 3) sc_is_sound_picture.nd rfl (Or.inl rfl)) (pgs_cons (pg_name (i := 4) sc_is_sound_picture.nd rfl (Or.inl rfl)) pgs_nil))) (fun _ _ _ _ _ => pts_nil)
        (fun _ _ _ _ _ => (pe_cgE (E := fun _ _ _ => False) (W := fun _ _ _ _ => False) G_part hc hr (by rfl) LamX.takes0 (fun _ _ _ _ z => z) (pa_cons (pv 0) (pa_cons (pv 3) (pa_cons (pe_ix (ix_tup : IxR _ (rIxT K)) (pv 4) pe_int (fun _ _ => rfl)) pa_nil))) (hj := Nat.le_refl _)))) pa_nil))))))), ?_⟩
    rcases h with ⟨⟨t, ty, no⟩, q⟩ | ⟨a, b, ys, ds, rfl, SA, h⟩
    · exact ⟨_, rfl, _, _, _, _, false, rfl, .own CS, ty, no, _, rfl, iteT q⟩
    have SA' := SA
    obtain ⟨dxs, t, bn, nm, f, so', kvs, fs, zs, ha, ht, hn, hf, FF, hb, hv, hs, mz, srt, nd⟩ := SA'.ex
    refine ⟨_, rfl, _, _, _, _, true, rfl, .own CS, .base (.ins ha W.T.c TIS.ca TIS.sp TIS.tk TIS.mo), TIS.yes, _, rfl, iteF ?_⟩
    rcases h with ⟨⟨t', ty, no⟩, q⟩ | ⟨p, PA, ok, ln, q⟩
    · exact ⟨_, rfl, _, _, _, _, false, rfl, .own CP, ty, no, _, rfl, iteT (iteT q)⟩
    obtain ⟨x, dx, pt, nt, ws, rfl, h1, h2, h3, h4⟩ := PA.ex
    refine ⟨_, rfl, _, _, _, _, true, rfl, .own CP, .base (.ins h1 VQ.T.c TIP.ca TIP.sp TIP.tk TIP.mo), TIP.yes, _, rfl, iteF ?_⟩
    refine ⟨_, rfl, _, rfl, a, b, ys, ds, p, .ref x, rfl, SA, PA, _, rfl, ?_⟩
    cases p with
    | hole => exact iteT (q H (Same.refl H))
    | node n' ps =>
    cases e1 : formed ds (.node n' ps) with
    | false =>
      have es : sound ds (.node n' ps) = false := by
        cases e2 : sound ds (.node n' ps) with
        | false => rfl
        | true => rw [sound_formed e2] at e1; cases e1
      rw [es] at q
      exact iteT (q H (Same.refl H))
    | true =>
    obtain ⟨d, ef, dl⟩ := formed_form e1
    have es := sound_node (ps := ps) ef
    rw [e1, Bool.true_and, soundL_all] at es
    rw [es] at q
    obtain ⟨dm, de⟩ := formOf_mem ef
    refine iteF ⟨_, rfl, _, rfl, x, dx, _, rfl, h1, x, dx, _, .str (S n'), rfl, h1, by rfl, a, dxs, _, rfl, ha, a, b, ys, ds, .str (S n'), rfl, SA, .inl rfl, fun d' x' ch ks hd' e FA => ?_, fun no => ?_⟩
    · have ed : d' = d := once_name SA.once hd' dm (by rw [de]; exact (V.str.inj e).symm)
      subst ed
      obtain ⟨⟨dx', fa⟩, kk⟩ := FA
      have kl := kk.len
      have wl : ws.length = ps.length := h4.len
      have k4 := kk.hi
      refine ⟨x', dx', _, rfl, fa, x', ch, dx', _, _, .ref ch, rfl, fa, by rfl, ?_⟩
      refine ⟨_, rfl, x, dx, _, rfl, h1, x, dx, _, .ref pt, rfl, h1, by rfl, _, rfl, pt, ch, ws, ks.map V.ref, rfl, .inr ⟨.inl (.inl h2), .inl (.inl kk.at_), fun D nD => ?_⟩⟩
      generalize ezs : List.zipWith (fun p (c : Str × Int) => soundP ds p c.1) ps d'.2.2 = zs at q
      have zl : zs.length = ps.length := by rw [← ezs, List.length_zipWith, dl, Nat.min_self]
      refine lc_zipT (K := K) (a := pt) (b := ch) (xs := ws) (ys := ks.map V.ref) (by rw [List.length_map]; omega) (fun i H' => Same H H' ∧ H' D = some (.lst ((zs.take i).map V.bl))) ⟨same_put nD (Same.refl _), upd_same⟩ (fun i H' _ h => ⟨.inl (.inl (h.1 _ _ h2)), .inl (.inl (h.1 _ _ kk.at_))⟩) (fun i y1 y2 T H1 hy1 hy2 h nT => ?_) (fun H1 h => ?_)
      · obtain ⟨s1, e1'⟩ := h
        rw [List.getElem?_map] at hy2
        obtain ⟨t1, ht1, rfl⟩ := Option.map_eq_some_iff.mp hy2
        obtain ⟨⟨c1, c2⟩, hc', kt⟩ := kk.get ht1
        have il : i < ps.length := by
          have := (List.getElem?_eq_some_iff.mp hy1).1
          omega
        have hp : ps[i]? = some ps[i] := List.getElem?_eq_getElem il
        have pi := h4.get hp hy1
        have pm : ps[i] ∈ (Pic.node n' ps).parts := List.getElem_mem il
        have lp := lev_part pm
        have okp := ok_part ok pm
        have ezi : zs[i]? = some (soundP ds ps[i] c1) := by rw [← ezs, List.getElem?_zipWith, hp, hc']
        generalize ps[i] = pp at hp pi lp okp ezi
        have sT := same_new (o := .tup [y1, .ref t1]) nT
        have DT : D ≠ T := ne_of_none e1' nT
        have s2 := s1.trans sT
        have e2 : (upd H1 T (.tup [y1, .ref t1])) D = some (.lst ((zs.take i).map V.bl)) := sT _ _ e1'
        have eT : (upd H1 T (.tup [y1, .ref t1])) T = some (.tup [y1, .ref t1]) := upd_same
        generalize upd H1 T (.tup [y1, .ref t1]) = H2 at s2 e2 eT ⊢
        refine ⟨T, _, rfl, .inl (.inl eT), rfl, y1, _, rfl, .ref t1, _, rfl, rfl, rfl, ?_⟩
        refine ⟨_, rfl, _, rfl, _, rfl, t1, _, 0, _, rfl, rfl, .inl (.inl (s2 _ _ kt.at_)), rfl, a, b, ys, ds, pp, y1, c1, rfl, SA.same s2, pi.keep (KeepP.of s2) _ _, okp, by omega, fun H3 s3 => ?_⟩
        refine ⟨_, s3 _ _ e2, ?_, same_put nD (s2.trans s3), ?_⟩
        · rw [List.length_map, List.length_take]
          exact Nat.lt_of_le_of_lt (show _ ≤ 4 by omega) (by decide)
        · rw [upd_same, List.take_add_one, ezi, List.map_append]
          rfl
      · obtain ⟨s1, e1'⟩ := h
        rw [wl, ← zl, List.take_of_length_le (Nat.le_refl _)] at e1'
        exact ⟨D, zs, rfl, .inl (.inl e1'), q _ s1⟩
    · rw [inT_mem] at no
      exact (of_decide_eq_false no (formOf_some ef)).elim
end
end K12
set_option Elab.async false
set_option linter.all false
set_option autoImplicit false
set_option maxRecDepth 100000
set_option maxHeartbeats 4000000
/-! Od: == and != where the right side is a dict and the left side is of another kind. -/
namespace Od
open PySem PySem.SeqAt PySem.AutoSeq1 PySem.MeetsSeq PySem.MeetsSeq2 PySem.MeetsSeq3
/-- a dict stands at l -/
def DictAt (s : Shared) (l : Addr) : Prop := ∃ o es ep, s.heap.get? l = some o ∧ o.cls = .type "dict" ∧ o.data = .dict es ep
theorem DictAt.ty {s : Shared} {l : Addr} (d : DictAt s l) : s.TypeIs (.ref l) "dict" := by
  obtain ⟨o, es, ep, h, c, _⟩ := d
  exact ⟨o, h, c⟩
theorem str_eq_declines_dict (b : Str) (u : Tok) (l : Addr) (c : Value) (es : Array DictEntry) (ep : Nat) (dd : Option Addr) (sl : Array (Option Value)) :
    Meets (Builtin.«str.__eq__» ⟨[.str b u, .ref l], []⟩) (fun _ R s => s.heap.get? l = some { cls := c, dict := dd, data := .dict es ep, slots := sl } ∧ R (.ok (.ret .notImplemented)) s) :=
  .of_wp fun prog w A R s h => by obtain ⟨hp, g, d, tk, os⟩ := s; obtain ⟨hl, h⟩ := h; wp_walk using wpAny_loadPart' hl, wpAny_load hl; exact ⟨_, rfl, h⟩
theorem str_ne_declines_dict (b : Str) (u : Tok) (l : Addr) (c : Value) (es : Array DictEntry) (ep : Nat) (dd : Option Addr) (sl : Array (Option Value)) :
    Meets (Builtin.«str.__ne__» ⟨[.str b u, .ref l], []⟩) (fun _ R s => s.heap.get? l = some { cls := c, dict := dd, data := .dict es ep, slots := sl } ∧ R (.ok (.ret .notImplemented)) s) :=
  .of_wp fun prog w A R s h => by obtain ⟨hp, g, d, tk, os⟩ := s; obtain ⟨hl, h⟩ := h; wp_walk using wpAny_loadPart' hl, wpAny_load hl; exact ⟨_, rfl, h⟩
theorem int_ne_declines_dict (b : Int) (u : Tok) (l : Addr) (c : Value) (es : Array DictEntry) (ep : Nat) (dd : Option Addr) (sl : Array (Option Value)) :
    Meets (Builtin.«int.__ne__» ⟨[.int b u, .ref l], []⟩) (fun _ R s => s.heap.get? l = some { cls := c, dict := dd, data := .dict es ep, slots := sl } ∧ R (.ok (.ret .notImplemented)) s) :=
  .of_wp fun prog w A R s h => by obtain ⟨hp, g, d, tk, os⟩ := s; obtain ⟨hl, h⟩ := h; wp_walk using wpAny_loadPart' hl, wpAny_load hl; exact ⟨_, rfl, h⟩
theorem bool_ne_declines_dict (b : Bool) (l : Addr) (c : Value) (es : Array DictEntry) (ep : Nat) (dd : Option Addr) (sl : Array (Option Value)) :
    Meets (Builtin.«int.__ne__» ⟨[.bool b, .ref l], []⟩) (fun _ R s => s.heap.get? l = some { cls := c, dict := dd, data := .dict es ep, slots := sl } ∧ R (.ok (.ret .notImplemented)) s) :=
  .of_wp fun prog w A R s h => by obtain ⟨hp, g, d, tk, os⟩ := s; obtain ⟨hl, h⟩ := h; wp_walk using wpAny_loadPart' hl, wpAny_load hl; exact ⟨_, rfl, h⟩
theorem list_ne_declines_dict (l b : Addr) (items : Array Value) (es : Array DictEntry) (n ep : Nat) (dd dd2 : Option Addr) (sl sl2 : Array (Option Value)) :
    Meets (Builtin.«list.__ne__» ⟨[.ref l, .ref b], []⟩) (fun _ R s => s.heap.get? l = some { cls := .type "list", dict := dd, data := .seq items n, slots := sl } ∧ s.heap.get? b = some { cls := .type "dict", dict := dd2, data := .dict es ep, slots := sl2 } ∧ R (.ok (.ret .notImplemented)) s) :=
  .of_wp fun prog w A R s h => by obtain ⟨hp, g, d, tk, os⟩ := s; obtain ⟨hl, hb, h⟩ := h; have f1 := F.sub_dict_list; wp_walk using wpAny_loadPart' hl, wpAny_loadPart' hb; exact ⟨_, rfl, h⟩
theorem tuple_ne_declines_dict (l b : Addr) (items : Array Value) (es : Array DictEntry) (n ep : Nat) (dd dd2 : Option Addr) (sl sl2 : Array (Option Value)) :
    Meets (Builtin.«tuple.__ne__» ⟨[.ref l, .ref b], []⟩) (fun _ R s => s.heap.get? l = some { cls := .type "tuple", dict := dd, data := .seq items n, slots := sl } ∧ s.heap.get? b = some { cls := .type "dict", dict := dd2, data := .dict es ep, slots := sl2 } ∧ R (.ok (.ret .notImplemented)) s) :=
  .of_wp fun prog w A R s h => by obtain ⟨hp, g, d, tk, os⟩ := s; obtain ⟨hl, hb, h⟩ := h; have f1 := F.sub_dict_tuple; wp_walk using wpAny_loadPart' hl, wpAny_loadPart' hb; exact ⟨_, rfl, h⟩
section
variable {prog : Program} {w : World} {A : Around} {E : Value → Shared → Prop} {s : Shared}
theorem dict_eq_other {l : Addr} {v : Value} {T : String} {Q : Value → Shared → Prop} (hl : DictAt s l) (hv : s.TypeIs v T) (sub : isSubtype (.type T) (.type "dict") = pure false) (q : Q .notImplemented s) : wpAny (model prog w) A (call (.builtin "dict.__eq__") [.ref l, v]) Q E s := by
  refine wpAny_call_entry PySem.F.slot_dict_eq hl.ty PySem.F.entry_dict_eq ?_ (PySem.F.args_dict_eq_2 _ _)
  show wpAny _ _ (Builtin.Dict.dictSlotArgs "__eq__" ⟨[.ref l, v], []⟩ >>= _) _ _ s
  refine wpAny_bind ?_
  unfold Builtin.Dict.dictSlotArgs
  refine wpAny_bind (wpAny_notOrdered_dict hl.ty ?_)
  show wpAny _ _ (pure (Value.ref l, v)) _ _ s
  refine wpAny_pure ?_
  refine wpAny_bind (wpAny_isInstance (T := T) hv sub ?_)
  simp only [Bool.not_false, if_true]
  refine wpAny_bind (wpAny_rule (wpAny_bind (wpAny_pure (wpAny_pure ⟨_, rfl, q⟩))))
theorem dict_ne_other {l : Addr} {v : Value} {T : String} {Q : Value → Shared → Prop} (hl : DictAt s l) (hv : s.TypeIs v T) (sub : isSubtype (.type T) (.type "dict") = pure false) (q : Q .notImplemented s) : wpAny (model prog w) A (call (.builtin "dict.__ne__") [.ref l, v]) Q E s := by
  refine wpAny_call_entry PySem.F.slot_dict_ne hl.ty PySem.F.entry_dict_ne ?_ (PySem.F.args_dict_ne_2 _ _)
  show wpAny _ _ (Builtin.Dict.dictSlotArgs "__ne__" ⟨[.ref l, v], []⟩ >>= _) _ _ s
  refine wpAny_bind ?_
  unfold Builtin.Dict.dictSlotArgs
  refine wpAny_bind (wpAny_notOrdered_dict hl.ty ?_)
  show wpAny _ _ (pure (Value.ref l, v)) _ _ s
  refine wpAny_pure ?_
  refine wpAny_bind (wpAny_isInstance (T := T) hv sub ?_)
  simp only [Bool.not_false, if_true]
  refine wpAny_bind (wpAny_rule (wpAny_bind (wpAny_pure (wpAny_pure ⟨_, rfl, q⟩))))
end
end Od
set_option Elab.async false
set_option linter.all false
set_option autoImplicit false
set_option maxRecDepth 100000
set_option maxHeartbeats 4000000
/-! Oe: values of many kinds, dicts too: in a tuple of texts; != an empty dict; repr of an empty dict. -/
namespace Oe
open PySem PySem.Spec PySem.SeqAt PyProof.Rows L2 Vb Od Oi
section
variable {A : Around} {s : Shared}
theorem rc_str_dict {l : Addr} (b : Str) (u : Tok) (hl : DictAt s l) (hu : A.units < cLine) : RcAt A s (.str b u) (.ref l) false := fun prog w E Q h => by
  obtain ⟨⟨cls, dd, data, sl⟩, es, ep, ho, hc, hd⟩ := id hl
  simp only at hc hd
  subst hc hd
  exact rc_eq_decline_or (k := false) (typeIs_str s b u) ⟨_, ho, rfl⟩ (by decide) F.sub_dict_str F.slot_str_eq F.slot_dict_eq_refl
    (fun _ hq => call_meets F.slot_str_eq (typeIs_str s b u) F.entry_str_eq (F.args_str_eq_2 _ _) (str_eq_declines_dict b u l (.type "dict") es ep dd sl) ⟨ho, hq⟩)
    (fun _ hq => dict_eq_other hl (typeIs_str s b u) F.sub_str_dict hq)
    (fun _ hq => wpAny_of_eq (rfl : isSame (.str b u) (.ref l) = pure false) hq) (.inr hu) h
theorem eq_str_dict {l : Addr} (b : Str) (u : Tok) (hl : DictAt s l) (hu : A.units < cLine) : EqAt A s (.str b u) (.ref l) false := fun prog w E Q h => by
  unfold eqBool
  refine wpAny_holding ?_
  refine wpAny_ite_split (fun hab => absurd (eq_of_beq hab) nofun) (fun _ => ?_)
  exact wpAny_bind (rc_str_dict b u hl hu prog w E _ (wpAny_truthy_bool h))
theorem ne_str_dict {l : Addr} (b : Str) (u : Tok) (hl : DictAt s l) (hu : A.units < cLine) : RcNeAt A s (.str b u) (.ref l) true := fun prog w E Q h => by
  obtain ⟨⟨cls, dd, data, sl⟩, es, ep, ho, hc, hd⟩ := id hl
  simp only at hc hd
  subst hc hd
  exact rc_ne_decline_or (k := false) (typeIs_str s b u) ⟨_, ho, rfl⟩ (by decide) F.sub_dict_str F.slot_str_ne F.slot_dict_ne_refl
    (fun _ hq => call_meets F.slot_str_ne (typeIs_str s b u) F.entry_str_ne (F.args_str_ne_2 _ _) (str_ne_declines_dict b u l (.type "dict") es ep dd sl) ⟨ho, hq⟩)
    (fun _ hq => dict_ne_other hl (typeIs_str s b u) F.sub_str_dict hq)
    (fun _ hq => wpAny_of_eq (rfl : isSame (.str b u) (.ref l) = pure false) hq) (.inr hu) h
theorem ne_int_dict {l : Addr} (b : Int) (u : Tok) (hl : DictAt s l) (hu : A.units < cLine) : RcNeAt A s (.int b u) (.ref l) true := fun prog w E Q h => by
  obtain ⟨⟨cls, dd, data, sl⟩, es, ep, ho, hc, hd⟩ := id hl
  simp only at hc hd
  subst hc hd
  exact rc_ne_decline_or (k := false) (typeIs_int s b u) ⟨_, ho, rfl⟩ (by decide) F.sub_dict_int F.slot_int_ne F.slot_dict_ne_refl
    (fun _ hq => call_meets F.slot_int_ne (typeIs_int s b u) F.entry_int_ne (F.args_int_ne_2 _ _) (int_ne_declines_dict b u l (.type "dict") es ep dd sl) ⟨ho, hq⟩)
    (fun _ hq => dict_ne_other hl (typeIs_int s b u) F.sub_int_dict hq)
    (fun _ hq => wpAny_of_eq (rfl : isSame (.int b u) (.ref l) = pure false) hq) (.inr hu) h
theorem ne_bool_dict {l : Addr} (b : Bool) (hl : DictAt s l) (hu : A.units < cLine) : RcNeAt A s (.bool b) (.ref l) true := fun prog w E Q h => by
  obtain ⟨⟨cls, dd, data, sl⟩, es, ep, ho, hc, hd⟩ := id hl
  simp only at hc hd
  subst hc hd
  exact rc_ne_decline_or (k := false) (show s.TypeIs (.bool b) "bool" from rfl) ⟨_, ho, rfl⟩ (by decide) F.sub_dict_bool F.slot_bool_ne F.slot_dict_ne_refl
    (fun _ hq => call_meets F.slot_bool_ne (show s.TypeIs (.bool b) "bool" from rfl) F.entry_int_ne (F.args_int_ne_2 _ _) (bool_ne_declines_dict b l (.type "dict") es ep dd sl) ⟨ho, hq⟩)
    (fun _ hq => dict_ne_other hl (show s.TypeIs (.bool b) "bool" from rfl) F.sub_bool_dict hq)
    (fun _ hq => wpAny_of_eq (rfl : isSame (.bool b) (.ref l) = pure false) hq) (.inr hu) h
theorem ne_none_dict {l : Addr} (hl : DictAt s l) (hu : A.units < cLine) : RcNeAt A s .none (.ref l) true := fun prog w E Q h => by
  obtain ⟨⟨cls, dd, data, sl⟩, es, ep, ho, hc, hd⟩ := id hl
  simp only at hc hd
  subst hc hd
  exact rc_ne_decline_or (k := false) (show s.TypeIs .none "NoneType" from rfl) ⟨_, ho, rfl⟩ (by decide) F.sub_dict_NoneType F.slot_NoneType_ne F.slot_dict_ne_refl
    (fun _ hq => call_gives F.slot_NoneType_ne rfl F.entry_NoneType_ne (F.args_NoneType_ne_2 _ _) (NoneType___ne___none_ref_0 l) hq)
    (fun _ hq => dict_ne_other hl (show s.TypeIs .none "NoneType" from rfl) F.sub_NoneType_dict hq)
    (fun _ hq => wpAny_of_eq (rfl : isSame .none (.ref l) = pure false) hq) (.inr hu) h
theorem ne_list_dict {l b : Addr} {items : Array Value} (hl : s.heap.IsList l items) (hb : DictAt s b) (hu : A.units < cLine) : RcNeAt A s (.ref l) (.ref b) true := fun prog w E Q h => by
  obtain ⟨⟨cls, dd, data, sl⟩, ho, hc, n, hd⟩ := id hl
  obtain ⟨⟨cls2, dd2, data2, sl2⟩, es, ep, ho2, hc2, hd2⟩ := id hb
  simp only at hc hd hc2 hd2
  subst hc hd hc2 hd2
  have hne : l ≠ b := fun e => by
    rw [e] at ho
    have := congrArg Obj.cls (Option.some.inj (ho2.symm.trans ho))
    injection this with this
    exact absurd this (by decide)
  exact (rc_ne_decline_or (k := false) ⟨_, ho, rfl⟩ ⟨_, ho2, rfl⟩ (by decide) F.sub_dict_list F.slot_list_ne F.slot_dict_ne_refl
    (fun _ hq => call_meets F.slot_list_ne ⟨_, ho, rfl⟩ F.entry_list_ne (F.args_list_ne_2 _ _) (list_ne_declines_dict l b items es n ep dd dd2 sl sl2) ⟨ho, ho2, hq⟩)
    (fun _ hq => dict_ne_other hb ⟨_, ho, rfl⟩ F.sub_list_dict hq)
    (fun _ hq => wpAny_isSame_ref_other' hne ho ho2 (by simp) hq) (.inr hu) h)
theorem ne_tuple_dict {l b : Addr} {items : Array Value} (hl : s.heap.IsTuple l items) (hb : DictAt s b) (hu : A.units < cLine) : RcNeAt A s (.ref l) (.ref b) true := fun prog w E Q h => by
  obtain ⟨⟨cls, dd, data, sl⟩, ho, hc, n, hd⟩ := id hl
  obtain ⟨⟨cls2, dd2, data2, sl2⟩, es, ep, ho2, hc2, hd2⟩ := id hb
  simp only at hc hd hc2 hd2
  subst hc hd hc2 hd2
  have hne : l ≠ b := fun e => by
    rw [e] at ho
    have := congrArg Obj.cls (Option.some.inj (ho2.symm.trans ho))
    injection this with this
    exact absurd this (by decide)
  exact (rc_ne_decline_or (k := false) ⟨_, ho, rfl⟩ ⟨_, ho2, rfl⟩ (by decide) F.sub_dict_tuple F.slot_tuple_ne F.slot_dict_ne_refl
    (fun _ hq => call_meets F.slot_tuple_ne ⟨_, ho, rfl⟩ F.entry_tuple_ne (F.args_tuple_ne_2 _ _) (tuple_ne_declines_dict l b items es n ep dd dd2 sl sl2) ⟨ho, ho2, hq⟩)
    (fun _ hq => dict_ne_other hb ⟨_, ho, rfl⟩ F.sub_tuple_dict hq)
    (fun _ hq => wpAny_isSame_ref_other' hne ho ho2 (by simp) hq) (.inr hu) h)
end
/-- a dict is tracked at a -/
theorem dict_at {P : Program} {w : World} {H : Hp} {s : Shared} {a : Addr} {kvs : List (L2.Key × V)} (ok : HOk P w H s.heap) (e : H a = some (.dK kvs)) : DictAt s a := by
  obtain ⟨_, _, vs, _, o, es, ep, h, x, hd, _⟩ := dk_of ok e
  exact ⟨o, es, ep, h, x.1, hd⟩
/-- a value of any of these kinds -/
def OddD (K : PySem.W.Frag) (H : Hp) (v : V) : Prop := Odd K H v ∨ ∃ a kvs, v = .ref a ∧ H a = some (.dK kvs)
section
variable {X : Cx}
theorem eq_oddD {A : Around} {pins : List (Addr × Obj)} {σ : L2.St} {H : Hp} {s : Shared} (I : Inv X pins σ H s) (hu : A.units < cLine) {v : V} {x u : Value} (rv : RelV v x) (o : OddD X.K H v) {y : Str} (ru : RelV (.str y) u) : SeqAt.EqAt A s u x (isU v u) := by
  rcases o with o | ⟨a, kvs, rfl, h⟩
  · exact eq_odd I hu rv o ru
  · obtain ⟨t, rfl⟩ := (show ∃ t, u = Value.str y t from ru)
    cases rv
    exact eq_str_dict y t (dict_at I.hok h) hu
theorem all_oddD {A : Around} {pins : List (Addr × Obj)} {σ : L2.St} {H : Hp} {s : Shared} (I : Inv X pins σ H s) (hu : A.units < cLine) {v : V} {x : Value} (rv : RelV v x) (o : OddD X.K H v) : ∀ {ys : List Str} {us : List Value}, Vals (ys.map V.str) us → ∀ u ∈ us, SeqAt.EqAt A s u x (isU v u)
  | [], _, .nil => fun u hu => by cases hu
  | y :: ys, u :: us, .cons r t => fun u' hu' => by
    rcases List.mem_cons.mp hu' with rfl | h
    · exact eq_oddD I hu rv o r
    · exact all_oddD I hu rv o t u' h
/-- v not in a tuple of texts -/
def rInTD (K : PySem.W.Frag) (ng : Bool) : R2 := fun x y H Q => ∃ p ys, y = .ref p ∧ SqT K H p (ys.map V.str) ∧ OddD K H x ∧ Q (.bl (if ng then !inT x ys else inT x ys)) H
theorem op_notInTD (hu : X.A.in1.units < cLine) : OpR X (compareOp .NotIn) (rInTD X.K true) := by
  intro pins s σ H x y v u Q I rx ry h
  obtain ⟨p, ys, rfl, sq, o, q⟩ := h
  cases ry
  obtain ⟨its, r, pl, hz⟩ := I.tuple sq
  refine SeqAt.notIn_tupleAt (isU x) pl (fun w hw => all_oddD I hu rx o r w (by simpa using hw)) ⟨.bl _, H, I, rfl, ?_⟩
  rw [show its.toArray.any (isU x) = its.any (isU x) by simp, any_isU r]
  exact q
/-- v != {}, whatever v is -/
def rNeE (K : PySem.W.Frag) : R2 := fun x y H Q => ∃ b, y = .ref b ∧ H b = some (.dK []) ∧ ((x = .non ∧ Q (.bl true) H) ∨ (∃ c, x = .bl c ∧ Q (.bl true) H) ∨ (∃ i, x = .int i ∧ Q (.bl true) H) ∨ (∃ z, x = .str z ∧ Q (.bl true) H) ∨
  (∃ a xs, x = .ref a ∧ (SqL K H a xs ∨ SqT K H a xs) ∧ Q (.bl true) H) ∨ (∃ a, x = .ref a ∧ H a = some (.dK []) ∧ Q (.bl false) H))
theorem op_neE (hu : X.A.units + 1 < cLine) : OpR X (compareOp .NotEq) (rNeE X.K) := by
  intro pins s σ H x y v u Q I rx ry h
  obtain ⟨b, rfl, hb, h⟩ := h
  have db : DictAt s b := dict_at I.hok hb
  have hu0 : X.A.units < cLine := by omega
  have fin : ∀ {c : Bool}, Q (.bl c) H → (fun (z : Value) (s' : Shared) => ∃ (v' : V) (H' : Hp), Inv X pins σ H' s' ∧ RelV v' z ∧ Q v' H') (.bool c) s := fun {c} q => ⟨.bl c, H, I, rfl, q⟩
  rcases h with ⟨rfl, q⟩ | ⟨c, rfl, q⟩ | ⟨i, rfl, q⟩ | ⟨z, rfl, q⟩ | ⟨a, xs, rfl, sq, q⟩ | ⟨a, rfl, ha, q⟩
  · cases rx
    cases ry
    exact ne_none_dict db hu0 _ _ _ _ (fin q)
  · cases rx
    cases ry
    exact ne_bool_dict c db hu0 _ _ _ _ (fin q)
  · obtain ⟨t, rfl⟩ := (show ∃ t, v = Value.int i t from rx)
    cases ry
    exact ne_int_dict i t db hu0 _ _ _ _ (fin q)
  · obtain ⟨t, rfl⟩ := (show ∃ t, v = Value.str z t from rx)
    cases ry
    exact ne_str_dict z t db hu0 _ _ _ _ (fin q)
  · cases rx
    cases ry
    rcases sq with h | h
    · obtain ⟨its, r, pl, _⟩ := I.list h
      exact ne_list_dict pl.isList db hu0 _ _ _ _ (fin q)
    · obtain ⟨its, r, pl, _⟩ := I.tuple h
      exact ne_tuple_dict pl db hu0 _ _ _ _ (fin q)
  · exact op_ne_dictA hu0 pins s σ H _ _ _ _ Q I rx ry ⟨a, b, [], [], rfl, rfl, ha, hb, rfl, (fun p hp => by cases hp), q⟩
/-- repr({}) -/
def rReprE (K : PySem.W.Frag) : List V → Hp → VK → Prop := fun xs H Q => ∃ a, xs = [.ref a] ∧ H a = some (.dK []) ∧ Q (.str "{}") H
theorem cr_reprE (hc : Calm X.A) (hu : X.A.units + 64 < cLine) : CallR X (.builtin "repr") (rReprE X.K) := by
  intro pins s σ H xs us Q I r h
  obtain ⟨a, rfl, ha, q⟩ := h
  obtain ⟨u, rfl, r1⟩ := vals1 r
  cases (show u = Value.ref a from r1)
  obtain ⟨_, sm, vs, kv, o, es, ep, h, x, hd, _, pr, _⟩ := dk_of I.hok ha
  have v0 : vs = [] := by
    have := kv.length
    exact List.length_eq_zero_iff.mp this.symm
  subst v0
  have e0 : es.toList = [] := by
    have := pr.length
    exact List.length_eq_zero_iff.mp this
  have hr : Reads s.heap (.ref a) (.dict []) (a :: [] ++ []) := .dict h x.1 hd (by rw [e0]; exact .nil) (by rw [e0]; exact .nil)
  refine repr_of_reads' (h₀ := s.heap) hr rfl (fun _ m => ?_) hc (by have : PyData.depth (.dict []) ≤ 1 := by decide
                                                                     omega) (fun _ _ e => e) (fun h' u tk hk => ?_) (by decide +kernel)
  · have e : sysModules = a := by simpa using m
    rw [← e] at sm
    simp at sm
  · refine ⟨.str _, H, I.kept hk, ⟨_, rfl⟩, ?_⟩
    have e : PyData.shown (.dict []) = "{}" := by decide +kernel
    rw [e]
    exact q
end
end Oe
set_option Elab.async false
set_option linter.all false
set_option autoImplicit false
set_option maxRecDepth 100000
set_option maxHeartbeats 4000000
/-! Of: values of many kinds as data (dicts with at most one key among them), in lists, tuples and dicts that are tracked. -/
namespace Of
open PySem PySem.Spec PyProof.Rows L2 Vb Wd Oe Oi
mutual
inductive Dt (H : Hp) : V → PyData → Prop
  | non : Dt H .non .none
  | bl (b : Bool) : Dt H (.bl b) (.bool b)
  | int (i : Int) : Dt H (.int i) (.int i)
  | str (x : Str) : Dt H (.str x) (.str x)
  | lst {a : Addr} {xs : List V} {ds : List PyData} : H a = some (.lst xs) → DtAll H xs ds → Dt H (.ref a) (.list ds)
  | tup {a : Addr} {xs : List V} {ds : List PyData} : H a = some (.tup xs) → DtAll H xs ds → Dt H (.ref a) (.tuple ds)
  | d0 {a : Addr} : H a = some (.dK []) → Dt H (.ref a) (.dict [])
  | d1 {a : Addr} {k v : Str} : H a = some (.dK [(Sum.inr k, .str v)]) → Dt H (.ref a) (.dict [(.str k, .str v)])
inductive DtAll (H : Hp) : List V → List PyData → Prop
  | nil : DtAll H [] []
  | cons {v : V} {vs : List V} {d : PyData} {ds : List PyData} : Dt H v d → DtAll H vs ds → DtAll H (v :: vs) (d :: ds)
end
theorem DtAll.len {H : Hp} : ∀ {xs : List V} {ds : List PyData}, DtAll H xs ds → xs.length = ds.length
  | _, _, .nil => rfl
  | _, _, .cons _ t => by rw [List.length_cons, List.length_cons, t.len]
theorem DtAll.get {H : Hp} : ∀ {xs : List V} {ds : List PyData}, DtAll H xs ds → ∀ {i : Nat} {x : V}, xs[i]? = some x → ∃ d, ds[i]? = some d ∧ Dt H x d
  | _, _, .nil, _, _, h => by simp at h
  | _, _, .cons q t, 0, _, h => by
    injection h with h
    subst h
    exact ⟨_, rfl, q⟩
  | _, _, .cons q t, i + 1, _, h => t.get (by simpa using h)
theorem DtAll.app {H : Hp} : ∀ {xs : List V} {ds : List PyData}, DtAll H xs ds → ∀ {ys : List V} {es : List PyData}, DtAll H ys es → DtAll H (xs ++ ys) (ds ++ es)
  | _, _, .nil, _, _, k => k
  | _, _, .cons q t, _, _, k => .cons q (t.app k)
mutual
/-- strings and numbers of no great size -/
def okD : PyData → Bool
  | .none => true
  | .bool _ => true
  | .int i => decide (i.natAbs < 10 ^ 100)
  | .str z => decide (z.length ≤ 1000) && z.cps.toList.all fun c => decide (c < 128)
  | .list ds => okDs ds
  | .tuple ds => okDs ds
  | .dict _ => true
def okDs : List PyData → Bool
  | [] => true
  | d :: ds => okD d && okDs ds
end
def isI : PyData → Bool
  | .int _ => true
  | _ => false
mutual
/-- no list of three numbers in it: it cannot be the dice -/
def noDz : PyData → Bool
  | .list ds => !(decide (ds.length = 3) && ds.all isI) && noDzs ds
  | .tuple ds => noDzs ds
  | _ => true
def noDzs : List PyData → Bool
  | [] => true
  | d :: ds => noDz d && noDzs ds
end
/-- what of a heap stays: lists, tuples and dicts but the dice -/
def Keeps (H H' : Hp) : Prop := (∀ a xs, (∀ g s c : Int, xs ≠ [.int g, .int s, .int c]) → H a = some (.lst xs) → H' a = some (.lst xs)) ∧ (∀ a xs, H a = some (.tup xs) → H' a = some (.tup xs)) ∧ ∀ a kvs, H a = some (.dK kvs) → H' a = some (.dK kvs)
theorem Keeps.same {H H' : Hp} (s : Same H H') : Keeps H H' := ⟨fun a xs _ h => s _ _ h, fun a xs h => s _ _ h, fun a kvs h => s _ _ h⟩
theorem DtAll.noDz {H : Hp} {xs : List V} {ds : List PyData} (h : DtAll H xs ds) (n : (decide (ds.length = 3) && ds.all isI) = false) : ∀ g s c : Int, xs ≠ [.int g, .int s, .int c] := fun g s c e => by
  subst e
  obtain ⟨d1, e1, q1⟩ := h.get (i := 0) rfl
  obtain ⟨d2, e2, q2⟩ := h.get (i := 1) rfl
  obtain ⟨d3, e3, q3⟩ := h.get (i := 2) rfl
  have l := h.len
  match ds, l, e1, e2, e3 with
  | [x, y, z], _, e1, e2, e3 =>
    cases e1
    cases e2
    cases e3
    cases q1
    cases q2
    cases q3
    simp [isI] at n
mutual
theorem Dt.keep {H H' : Hp} (k : Keeps H H') : ∀ (d : PyData) (v : V), noDz d = true → Dt H v d → Dt H' v d
  | .none, _, _, h => by
    cases h
    exact .non
  | .bool b, _, _, h => by
    cases h
    exact .bl b
  | .int i, _, _, h => by
    cases h
    exact .int i
  | .str z, _, _, h => by
    cases h
    exact .str z
  | .list ds, _, n, h => by
    cases h with
    | lst e a =>
      unfold noDz at n
      rw [Bool.and_eq_true] at n
      exact .lst (k.1 _ _ (a.noDz ((Bool.not_eq_true' _).mp n.1)) e) (DtAll.keep k ds _ n.2 a)
  | .tuple ds, _, n, h => by
    cases h with
    | tup e a =>
      unfold noDz at n
      exact .tup (k.2.1 _ _ e) (DtAll.keep k ds _ n a)
  | .dict _, _, _, h => by
    cases h with
    | d0 e => exact .d0 (k.2.2 _ _ e)
    | d1 e => exact .d1 (k.2.2 _ _ e)
theorem DtAll.keep {H H' : Hp} (k : Keeps H H') : ∀ (ds : List PyData) (vs : List V), noDzs ds = true → DtAll H vs ds → DtAll H' vs ds
  | [], _, _, h => by
    cases h
    exact .nil
  | d :: ds, _, n, h => by
    cases h with
    | cons q t =>
      unfold noDzs at n
      rw [Bool.and_eq_true] at n
      exact .cons (Dt.keep k d _ n.1 q) (DtAll.keep k ds _ n.2 t)
end
mutual
theorem Dt.same {H H' : Hp} (k : Same H H') : ∀ (d : PyData) (v : V), Dt H v d → Dt H' v d
  | .none, _, h => by
    cases h
    exact .non
  | .bool b, _, h => by
    cases h
    exact .bl b
  | .int i, _, h => by
    cases h
    exact .int i
  | .str z, _, h => by
    cases h
    exact .str z
  | .list ds, _, h => by
    cases h with
    | lst e a => exact .lst (k _ _ e) (DtAll.same k ds _ a)
  | .tuple ds, _, h => by
    cases h with
    | tup e a => exact .tup (k _ _ e) (DtAll.same k ds _ a)
  | .dict _, _, h => by
    cases h with
    | d0 e => exact .d0 (k _ _ e)
    | d1 e => exact .d1 (k _ _ e)
theorem DtAll.same {H H' : Hp} (k : Same H H') : ∀ (ds : List PyData) (vs : List V), DtAll H vs ds → DtAll H' vs ds
  | [], _, h => by
    cases h
    exact .nil
  | d :: ds, _, h => by
    cases h with
    | cons q t => exact .cons (Dt.same k d _ q) (DtAll.same k ds _ t)
end
theorem okDs_mem {ds : List PyData} (h : okDs ds = true) : ∀ d ∈ ds, okD d = true := by
  induction ds with
  | nil => exact fun d hd => nomatch hd
  | cons x ds ih =>
    unfold okDs at h
    rw [Bool.and_eq_true] at h
    exact fun d hd => (List.mem_cons.mp hd).elim (fun e => e ▸ h.1) (ih h.2 d)
theorem okDs_of {ds : List PyData} (h : ∀ d ∈ ds, okD d = true) : okDs ds = true := by
  induction ds with
  | nil => rfl
  | cons x ds ih =>
    unfold okDs
    rw [h x List.mem_cons_self, ih fun d hd => h d (List.mem_cons_of_mem _ hd)]
    rfl
/-- judges may be asked of it -/
theorem Dt.judged {H : Hp} {v : V} {d : PyData} (h : Dt H v d) (o : okD d = true) : Judged H v := by
  cases h with
  | non => exact True.intro
  | bl b => exact True.intro
  | int i =>
    show i.natAbs < 10 ^ 100
    exact of_decide_eq_true o
  | str z =>
    unfold okD at o
    rw [Bool.and_eq_true] at o
    exact ⟨of_decide_eq_true o.1, asc_lit o.2⟩
  | lst e _ => exact .inl ⟨_, e⟩
  | tup e _ => exact .inr (.inl ⟨_, e⟩)
  | d0 e => exact .inr (.inr ⟨_, e⟩)
  | d1 e => exact .inr (.inr ⟨_, e⟩)
def kndOf : PyData → String
  | .none => "NoneType"
  | .bool _ => "bool"
  | .int _ => "int"
  | .str _ => "str"
  | .list _ => "list"
  | .tuple _ => "tuple"
  | .dict _ => "dict"
theorem Dt.ty {K : PySem.W.Frag} {H : Hp} {v : V} {d : PyData} (h : Dt H v d) : TyX K H v (.type (kndOf d)) := by
  cases h with
  | non => exact .base .non
  | bl b => exact .base (.bl b)
  | int i => exact .base (.int i)
  | str z => exact .base (.str z)
  | lst e _ => exact .base (.lst e)
  | tup e _ => exact .base (.tup e)
  | d0 e => exact .base (.dK e)
  | d1 e => exact .base (.dK e)
theorem kind_mem (d : PyData) : kndOf d ∈ ["NoneType", "bool", "int", "str", "list", "tuple", "dict"] := by
  cases d <;> simp [kndOf]
theorem Dt.odd {K : PySem.W.Frag} {H : Hp} {v : V} {d : PyData} (h : Dt H v d) : OddD K H v := by
  cases h with
  | non => exact .inl (.inl rfl)
  | bl b => exact .inl (.inl rfl)
  | int i => exact .inl (.inl rfl)
  | str z => exact .inl (.inl rfl)
  | lst e _ => exact .inl (.inr ⟨_, _, rfl, .inl (.inl (.inl e))⟩)
  | tup e _ => exact .inl (.inr ⟨_, _, rfl, .inr (.inl (.inl e))⟩)
  | d0 e => exact .inr ⟨_, _, rfl, e⟩
  | d1 e => exact .inr ⟨_, _, rfl, e⟩
mutual
theorem Dt.dp {K : PySem.W.Frag} {H : Hp} : ∀ (d : PyData) (v : V), d.hasDict = false → Dt H v d → Dp K H v d
  | .none, _, _, h => by
    cases h
    exact .non
  | .bool b, _, _, h => by
    cases h
    exact .bl b
  | .int i, _, _, h => by
    cases h
    exact .int i
  | .str z, _, _, h => by
    cases h
    exact .str z
  | .list ds, _, n, h => by
    cases h with
    | lst e a => exact .lst (.inl (.inl e)) (DtAll.dp ds _ n a)
  | .tuple ds, _, n, h => by
    cases h with
    | tup e a => exact .tup (.inl (.inl e)) (DtAll.dp ds _ n a)
  | .dict _, _, n, h => by cases n
theorem DtAll.dp {K : PySem.W.Frag} {H : Hp} : ∀ (ds : List PyData) (vs : List V), PyData.hasDictAll ds = false → DtAll H vs ds → DpAll K H vs ds
  | [], _, _, h => by
    cases h
    exact .nil
  | d :: ds, _, n, h => by
    cases h with
    | cons q t =>
      have n' : (d.hasDict || PyData.hasDictAll ds) = false := n
      rw [Bool.or_eq_false_iff] at n'
      exact .cons (Dt.dp d _ n'.1 q) (DtAll.dp ds _ n'.2 t)
end
/-- names, as data -/
def namD : PyData → Bool
  | .str z => isNam (.str z)
  | _ => false
theorem Dt.nam {H : Hp} {v : V} {d : PyData} (h : Dt H v d) : isNam v = namD d := by
  cases h <;> rfl
end Of
set_option Elab.async false
set_option linter.all false
set_option autoImplicit false
set_option maxRecDepth 100000
set_option maxHeartbeats 4000000
namespace K12
open PySem PySem.Spec PyProof.Rows L2 Vb Wd Xd Xo Xv SX Pc Zc Oi RZ Oe Of
abbrev s_is_spot : Stmt := topS 44
theorem sc_is_spot : FnScope ["value"] ["value"] (defScope s_is_spot) := ⟨rfl, rfl, rfl, by decide +kernel, rfl, by decide +kernel, by decide +kernel⟩
def intD : PyData → Bool
  | .int i => decide (i.natAbs < 10 ^ 60)
  | _ => false
def spotD : PyData → Bool
  | .tuple [x, y] => namD x && intD y
  | _ => false
theorem int_dt {H : Hp} {v : V} {d : PyData} (h : Dt H v d) : isInt v = intD d := by
  cases h <;> rfl
def spSpotD : Sp := fun vs H Q _ => ∃ (v : V) (d : PyData), vs = [v] ∧ Dt H v d ∧ okD d = true ∧ ∀ H', Same H H' → Q (.bl (spotD d)) H'
theorem kit_noT {T : String} (h : T ∈ ["NoneType", "bool", "int", "str", "list", "dict"]) : kitB T "tuple" = some false := by
  simp only [List.mem_cons, List.not_mem_nil, or_false] at h
  rcases h with rfl | rfl | rfl | rfl | rfl | rfl <;> decide +kernel
/-- a tuple, or of another kind -/
theorem tup_orS (d : PyData) : (∃ ds, d = .tuple ds) ∨ (kndOf d ∈ ["NoneType", "bool", "int", "str", "list", "dict"] ∧ spotD d = false) := by
  cases d with
  | tuple ds => exact .inl ⟨ds, rfl⟩
  | none => exact .inr ⟨by simp [kndOf], rfl⟩
  | bool b => exact .inr ⟨by simp [kndOf], rfl⟩
  | int b => exact .inr ⟨by simp [kndOf], rfl⟩
  | str b => exact .inr ⟨by simp [kndOf], rfl⟩
  | list b => exact .inr ⟨by simp [kndOf], rfl⟩
  | dict b => exact .inr ⟨by simp [kndOf], rfl⟩
section
variable {P : Program} {w : World} {K : PySem.W.Frag} {mg : Str → Option Value} {base : Heap}
theorem ok_is_spot (D : Df K mg "_is_spot" s_is_spot ["value"]) (G_is_name : Cg P w K mg base 1 "is_name" (spOf isNam)) (G_is_integer : Cg P w K mg base 1 "is_integer" (spOf isInt)) (z_isinstance : mg "isinstance" = none) (z_tuple : mg "tuple" = none) (z_len : mg "len" = none) : Cg P w K mg base 2 "_is_spot" spSpotD := by
  refine D.ok sc_is_spot (fun vs H Q E h => ?_) (fun cdv A outer s H vs Q E f hc hr h => ?_)
  · obtain ⟨v, d, rfl, _⟩ := h
    rfl
  · obtain ⟨v, d, rfl, k, o, q⟩ := h
    refine ⟨_, (pss_one (ps_ret (pe_and (pe_callB call_isi (by rfl) z_isinstance (by decide +kernel) (pa_cons (pv 0) (pa_cons (pe_bltn (v := .ty "tuple") (by rfl) z_tuple (by decide +kernel) rfl) pa_nil))) (pe_and (pe_cmpR op_eq (pe_callB call_len_seq (by rfl) z_len PySem.boot_len (pa_cons (pv 0) pa_nil)) pe_int (nomark _)) (pe_and (pe_cg G_is_name hc hr (by rfl) (pa_cons (pe_ix (ix_tup : IxR _ (rIxT K)) (pv 0) pe_int (fun _ _ => rfl)) pa_nil)) (pe_one (pe_cg G_is_integer hc hr (by rfl) (pa_cons (pe_ix (ix_tup : IxR _ (rIxT K)) (pv 0) pe_int (fun _ _ => rfl)) pa_nil)))))))), ?_⟩
    rcases tup_orS d with ⟨ds, rfl⟩ | ⟨m, e1⟩
    · cases k with
      | @tup a xs _ ha al =>
        have ln := al.len
        have ody : ∀ d ∈ ds, okD d = true := okDs_mem o
        refine ⟨_, rfl, _, _, _, _, true, rfl, .ty _, .base (.tup ha), kit_ty (by decide +kernel), _, rfl, iteT ⟨_, rfl, a, _, rfl, .inr (.inl (.inl ha)), rfl, ?_⟩⟩
        refine ⟨_, rfl, ?_⟩
        match xs, ds, al, ln, ody with
        | [], [], _, _, _ => exact iteF (q H (Same.refl H))
        | [x], [dx], _, _, _ => exact iteF (q H (Same.refl H))
        | [x, y], [dx, dy], .cons kx (.cons ky .nil), _, ody =>
          refine iteT ⟨_, rfl, a, _, _, _, rfl, rfl, .inl (.inl ha), rfl, x, rfl, kx.judged (ody dx (by simp)), fun H1 s1 => ⟨_, rfl, ?_⟩⟩
          have e : spotD (.tuple [dx, dy]) = (namD dx && intD dy) := rfl
          rw [e] at q
          rw [kx.nam]
          cases en : namD dx with
          | false =>
            rw [en] at q
            exact iteF (q H1 s1)
          | true =>
            rw [en, Bool.true_and] at q
            refine iteT ⟨_, rfl, a, _, _, _, rfl, rfl, .inl (.inl (s1 _ _ ha)), rfl, y, rfl, (ky.judged (ody dy (by simp))).same s1, fun H2 s2 => ?_⟩
            rw [int_dt ky]
            exact q H2 (s1.trans s2)
        | x :: y :: z :: r, dx :: dy :: dz :: rd, _, _, _ =>
          have e : decide (V.int ((x :: y :: z :: r).length : Int) = V.int 2) = false := decide_eq_false fun e => by
            have := V.int.inj e
            simp only [List.length_cons] at this
            omega
          rw [e]
          exact iteF (q H (Same.refl H))
    · rw [e1] at q
      refine ⟨_, rfl, _, _, _, _, false, rfl, .ty _, k.ty, kit_ty (kit_noT m), _, rfl, iteF (q H (Same.refl H))⟩
end
end K12
set_option Elab.async false
set_option linter.all false
set_option autoImplicit false
set_option maxRecDepth 100000
set_option maxHeartbeats 4000000
namespace K12
open PySem PySem.Spec PyProof.Rows L2 Vb Wd Xd Xo Xv SX Pc Zc Oi RZ
abbrev s_spots_below : Stmt := topS 45
theorem sc_spots_below : FnScope ["scheme", "picture", "level", "spots", "part", "sort", "step"] ["scheme", "picture", "level"] (defScope s_spots_below) := ⟨rfl, rfl, rfl, by decide +kernel, rfl, by decide +kernel, by decide +kernel⟩
def spBelow (C CS CP : Addr) (n : Nat) : Sp := fun vs H Q _ => ∃ (a : Addr) (b : Str) (ys : List Str) (ds : List FD) (p : Pic) (v : V) (lv : Int), vs = [.ref a, v, .int lv] ∧ SchemeAt H C CS a b ys ds ∧ PicAt H CP p v ∧ p.Ok ∧ p.lev < n ∧ p.lev ≤ 4 ∧ sound ds p = true ∧
  ∀ l xs H', Same H H' → H l = none → H' l = some (.lst xs) → xs.length = p.holes → Q (.ref l) H'
theorem holesL_take {ps : List Pic} {i : Nat} {q : Pic} (h : ps[i]? = some q) : holesL (ps.take (i + 1)) = holesL (ps.take i) + q.holes := by
  rw [holes_sum, holes_sum, List.take_add_one, h, List.map_append, List.sum_append]
  simp
theorem holes_le (p : Pic) : p.Ok → p.holes ≤ 4 ^ p.lev := by
  refine Pic.ind (P := fun p => p.Ok → p.holes ≤ 4 ^ p.lev) (fun _ => Nat.le_refl _) (fun n ps ih ok => ?_) p
  obtain ⟨w, l2, l4, oks⟩ := ok_node ok
  have hb : ∀ p ∈ ps, p.holes ≤ 4 ^ levL ps := fun p hp => Nat.le_trans (ih p hp (oks p hp)) (Nat.pow_le_pow_right (by decide) (lev_le hp))
  have all : ∀ qs : List Pic, (∀ p ∈ qs, p.holes ≤ 4 ^ levL ps) → holesL qs ≤ qs.length * 4 ^ levL ps := fun qs => by
    induction qs with
    | nil => intro _; exact Nat.zero_le _
    | cons q qs ihq =>
      intro h
      have h1 := h q (List.mem_cons_self ..)
      have h2 := ihq fun x hx => h x (List.mem_cons_of_mem _ hx)
      show q.holes + holesL qs ≤ _
      rw [List.length_cons, Nat.succ_mul]
      omega
  have h3 := all ps hb
  have h4 : ps.length * 4 ^ levL ps ≤ 4 * 4 ^ levL ps := Nat.mul_le_mul_right _ l4
  show holesL ps ≤ 4 ^ (1 + levL ps)
  rw [Nat.add_comm 1, Nat.pow_succ]
  omega
theorem holesL_le {ps : List Pic} {i : Nat} : holesL (ps.take i) ≤ holesL ps := by
  have e1 : holesL ps = holesL (ps.take i) + holesL (ps.drop i) := by
    conv => lhs; rw [← List.take_append_drop i ps]
    rw [holes_sum, holes_sum, holes_sum, List.map_append, List.sum_append]
  omega
theorem holes256 {p : Pic} (ok : p.Ok) (l : p.lev ≤ 4) : p.holes ≤ 256 := Nat.le_trans (holes_le p ok) (Nat.le_trans (Nat.pow_le_pow_right (by decide) l) (by decide))
/-- a part that a sound picture has is a hole or sound -/
theorem sound_part {ds : List FD} {n : List Nat} {ps : List Pic} {d : FD} (h : sound ds (.node n ps) = true) (ef : formOf ds n = some d) {i : Nat} {q : Pic} (hq : ps[i]? = some q) : isHole q = true ∨ sound ds q = true := by
  rw [sound_node ef, Bool.and_eq_true, soundL_all] at h
  obtain ⟨hf, ha⟩ := h
  rw [formed_yes ef, decide_eq_true_eq] at hf
  have il := (List.getElem?_eq_some_iff.mp hq).1
  have hc : d.2.2[i]? = some (d.2.2[i]'(by omega)) := List.getElem?_eq_getElem _
  have hz : (List.zipWith (fun p (c : Str × Int) => soundP ds p c.1) ps d.2.2)[i]? = some (soundP ds q (d.2.2[i]'(by omega)).1) := by
    rw [List.getElem?_zipWith, hq, hc]
  have := List.all_eq_true.mp ha _ (List.mem_of_getElem? hz)
  have h2 : (isHole q || (sound ds q && sortOk ds (d.2.2[i]'(by omega)).1 q)) = true := this
  rw [Bool.or_eq_true, Bool.and_eq_true] at h2
  exact h2.imp id And.left
section
variable {P : Program} {w : World} {K : PySem.W.Frag} {mg : Str → Option Value} {base : Heap} {C CS CU CP CI : Addr}
theorem ok_below (D : Df K mg "_spots_below" s_spots_below ["scheme", "picture", "level"]) (W : EnvW P w K mg base C CS CU) (VQ : EnvQ P w K mg base CP) (z_zip : mg "zip" = none) : ∀ n, Cg P w K mg base (7 + n) "_spots_below" (spBelow C CS CP n)
  | 0 => by
    obtain ⟨f, fd, F, m, b⟩ := D
    exact ⟨f, fd, _, ⟨fun vs H Q E h => by obtain ⟨_, _, _, _, p, _, _, _, _, _, _, l, _⟩ := h; omega, fun A outer s H args us vs Q E hc hr e0 hb r h => by obtain ⟨_, _, _, _, p, _, _, _, _, _, _, l, _⟩ := h; omega⟩, m, F.kp, b⟩
  | n + 1 => by
    have IH := ok_below D W VQ z_zip n
    obtain ⟨p1, g1, fd1, o1, G1, b1⟩ := VQ.TP.get ("called", "_called") (by simp)
    obtain ⟨p3, g3, fd3, o3, G3, b3⟩ := VQ.TP.get ("parts", "_parts") (by simp)
    obtain ⟨p2, g2, fd2, o2, G2, b2⟩ := W.TP.get ("children", "_children") (by simp)
    obtain ⟨fI, fdI, FI, eI, nI, tI, bI⟩ := W.item
    refine D.ok (k := 7 + n) sc_spots_below (fun vs H Q E h => ?_) (fun cdv A outer s H vs Q E f0 hc hr h => ?_)
    · obtain ⟨a, b, ys, ds, p, v, lv, rfl, _⟩ := h
      rfl
    · obtain ⟨a, b, ys, ds, p, v, lv, rfl, SA, PA, ok, ln, l4, sd, q⟩ := h
      have hr7 := hr.mono (show 7 ≤ 7 + n by omega)
      refine ⟨_, (pss_cons (ps_set (i := 3) sc_spots_below.nd rfl (Or.inl rfl) (pe_lst pa_nil))
      (pss_cons (ps_for PassesOwn.never rfl (pi_zipA (by rfl) z_zip (pa_cons (pe_propG (n := "parts") (pv 1) VQ.T.c o3 G3 hc (hr7.mono (by decide)) b3) (pa_cons (pe_propG (n := "children") (pe_itemO (E := fun _ _ _ => False) (W := fun _ _ _ _ => False) (pv 0) (pe_propG (n := "called") (pv 1) VQ.T.c o1 G1 hc (hr7.mono (by decide)) b1) FI eI nI tI bI hc (hr7.mono (by decide)) LamX.takes0 (fun _ _ _ _ z => z)) W.TF.c o2 G2 hc (hr7.mono (by decide)) b2) pa_nil)))
        (pg_tup (by rfl) (pgs_cons (pg_name (i := 4) sc_spots_below.nd rfl (Or.inl rfl)) (pgs_cons (pg_tup (by rfl) (pgs_cons (pg_name (i := 5) sc_spots_below.nd rfl (Or.inl rfl)) (pgs_cons (pg_name (i := 6) sc_spots_below.nd rfl (Or.inl rfl)) pgs_nil))) pgs_nil)))
      (pss_one (ps_if (pt_cmpR op_isN (pe_propG (n := "called") (pv 4) VQ.T.c o1 G1 hc (hr7.mono (by decide)) b1) pe_non (nomark _))
      (pss_one (ps_expr (pe_bm PySem.F.plainAttrs_list PySem.F.slot_list_append PySem.F.type_list_append mt_append (pv 3) (pa_cons (pe_tup (pa_cons (pv 5) (pa_cons (pe_op op_sub (pv 2) (pv 6)) pa_nil))) pa_nil))))
      (pss_one (ps_expr (pe_bm PySem.F.plainAttrs_list PySem.F.slot_list_extend PySem.F.type_list_extend mt_extend (pv 3) (pa_cons (pe_cg IH hc hr (by rfl) (pa_cons (pv 0) (pa_cons (pv 4) (pa_cons (pe_op op_sub (pv 2) (pv 6)) pa_nil))) (Nat.le_refl _)) pa_nil)))))))
      (pss_one (ps_ret (pv 3))))), ?_⟩
      cases p with
      | hole => cases sd
      | node n' ps =>
      have fm := sound_formed sd
      obtain ⟨d, ef, dl⟩ := formed_form fm
      obtain ⟨dm, de⟩ := formOf_mem ef
      refine ⟨by show 0 ≤ sizeLine; decide, fun l nl => ?_⟩
      have sl := same_new (o := .lst []) nl
      have PA1 := PA.keep (KeepP.of sl) _ _
      have SA1 := SA.same sl
      have el : (upd H l (.lst [])) l = some (.lst []) := upd_same
      generalize upd H l (.lst []) = H1 at sl PA1 SA1 el ⊢
      obtain ⟨x, dx, pt, nt, ws, rfl, h1, h2, h3, h4⟩ := PA1.ex
      have SA1' := SA1
      obtain ⟨dxs, t, bn, nm, f, so', kvs, fs, zs, ha, ht, hn, hf, FF, hb, hv, hs, mz, srt, nd⟩ := SA1'.ex
      refine ⟨_, rfl, x, dx, _, rfl, h1, x, dx, _, .ref pt, rfl, h1, by rfl, _, rfl, _, rfl, x, dx, _, rfl, h1, x, dx, _, .str (S n'), rfl, h1, by rfl, a, dxs, _, rfl, ha, a, b, ys, ds, .str (S n'), rfl, SA1, .inl rfl, fun d' x' ch ks hd' e FA => ?_, fun no => ?_⟩
      · have ed : d' = d := once_name SA.once hd' dm (by rw [de]; exact (V.str.inj e).symm)
        subst ed
        obtain ⟨⟨dx', fa⟩, kk⟩ := FA
        have kl := kk.len
        have wl : ws.length = ps.length := h4.len
        have k4 := kk.hi
        have big : ∀ {n : Nat}, n ≤ 600 → n < sizeLine := fun h => Nat.lt_of_le_of_lt h (by decide)
        have h256 := holes256 ok l4
        have hps : (Pic.node n' ps).holes = holesL ps := rfl
        refine ⟨x', dx', _, rfl, fa, x', ch, dx', _, _, .ref ch, rfl, fa, by rfl, pt, ch, ws, ks.map V.ref, rfl, .inr ⟨.inl (.inl h2), .inl (.inl kk.at_), ?_⟩⟩
        refine for_zipT (K := K) (a := pt) (b := ch) (xs := ws) (ys := ks.map V.ref) (by rw [List.length_map]; omega) (fun i σ H' => (∃ o4 o5 o6 : Option V, σ = [some (.ref a), some (.ref x), some (.int lv), some (.ref l), o4, o5, o6]) ∧ (∀ b o, b ≠ l → H1 b = some o → H' b = some o) ∧ ∃ xs, H' l = some (.lst xs) ∧ xs.length = holesL (ps.take i))
          ⟨⟨none, none, none, rfl⟩, fun _ _ _ e => e, [], el, rfl⟩ (fun i σ H' h => ?_) (fun i y1 y2 T σ H2 hy1 hy2 h nT => ?_) (fun σ H2 h => ?_)
        · have s2 : Same H H' := fun b o hb => h.2.1 _ _ (ne_of_none hb nl) (sl _ _ hb)
          have lpt : pt ≠ l := fun z => by rw [z, el] at h2; cases h2
          have lch : ch ≠ l := fun z => by
            have q := kk.at_
            rw [z, el] at q
            cases q
          exact ⟨.inl (.inl (h.2.1 _ _ lpt h2)), .inl (.inl (h.2.1 _ _ lch kk.at_))⟩
        · obtain ⟨⟨o4, o5, o6, rfl⟩, k2, xs, e2, xl⟩ := h
          have k1 : KeepP H1 H2 := fun b o hb kd => k2 _ _ (fun z => by
            rw [z, el] at hb
            cases hb
            rcases kd with ⟨_, _, _, z, _⟩ | ⟨_, z⟩ <;> cases z) hb
          have s2 : Same H H2 := fun b o hb => k2 _ _ (ne_of_none hb nl) (sl _ _ hb)
          rw [List.getElem?_map] at hy2
          obtain ⟨t1, ht1, rfl⟩ := Option.map_eq_some_iff.mp hy2
          obtain ⟨⟨c1, c2⟩, hc', kt⟩ := kk.get ht1
          have il : i < ps.length := by
            have := (List.getElem?_eq_some_iff.mp hy1).1
            omega
          have hp : ps[i]? = some ps[i] := List.getElem?_eq_getElem il
          have pi := (h4.get hp hy1).keep k1
          have pm : ps[i] ∈ (Pic.node n' ps).parts := List.getElem_mem il
          have lp := lev_part pm
          have okp := ok_part ok pm
          have hor := sound_part sd ef hp
          have hh := holesL_take hp
          have hle := holesL_le (ps := ps) (i := i + 1)
          generalize ps[i] = pp at hp pi lp okp hor hh
          have t1l : t1 ≠ l := fun z => by
            have q := kt.at_
            rw [z, el] at q
            cases q
          have et1 := k2 _ _ t1l kt.at_
          have sT := same_new (o := .tup [y1, .ref t1]) nT
          have lT : l ≠ T := ne_of_none e2 nT
          have s3 := s2.trans sT
          have e3 := sT _ _ e2
          have pi3 := pi.keep (KeepP.of sT)
          have et3 := sT _ _ et1
          have k3 : ∀ b o, b ≠ l → H1 b = some o → (upd H2 T (.tup [y1, .ref t1])) b = some o := fun b o n hb => sT _ _ (k2 _ _ n hb)
          have eT : (upd H2 T (.tup [y1, .ref t1])) T = some (.tup [y1, .ref t1]) := upd_same
          generalize upd H2 T (.tup [y1, .ref t1]) = H3 at s3 e3 pi3 et3 eT k3 ⊢
          obtain ⟨xa, dxa, pta, nta, wsa, rfl, g1, g2, g3, g4⟩ := pi3.ex
          refine ⟨T, _, rfl, .inl (.inl eT), rfl, .ref xa, _, rfl, .ref t1, _, rfl, t1, _, rfl, .inl (.inl et3), rfl, .str c1, _, rfl, .int c2, _, rfl, rfl, rfl, ?_⟩
          refine ⟨_, rfl, xa, dxa, _, rfl, g1, xa, dxa, _, calledV pp, rfl, g1, by rfl, rfl, ?_⟩
          cases pp with
          | hole =>
            have h1' : Pic.hole.holes = 1 := rfl
            refine ⟨true, rfl, iteT ⟨.ref l, rfl, .inl ⟨rfl, _, .inl (.inl e3)⟩, _, rfl, _, rfl, _, rfl, _, _, rfl, rfl, by show 2 ≤ sizeLine; decide, fun r nr => ?_⟩⟩
            have sr := same_new (o := .tup [.str c1, .int (lv - c2)]) nr
            refine ⟨l, _, _, rfl, rfl, sr _ _ e3, big (by omega), ⟨_, _, _, rfl⟩, fun b o n hb => ?_, _, upd_same, ?_⟩
            · rw [upd_ne n]
              exact sr _ _ (k3 _ _ n hb)
            · rw [List.length_append, xl, hh]
              rfl
          | node m qs =>
            have sdp : sound ds (.node m qs) = true := hor.resolve_left (by intro z; cases z)
            refine ⟨false, rfl, iteF ⟨.ref l, rfl, .inl ⟨rfl, _, .inl (.inl e3)⟩, _, rfl, _, rfl, _, rfl, _, rfl, _, _, rfl, rfl, a, b, ys, ds, .node m qs, .ref xa, lv - c2, rfl, SA.same s3, pi3, okp, by omega, by omega, sdp, fun l2 xs2 H4 s4 n4 e4 x2 => ?_⟩⟩
            have e34 := s4 _ _ e3
            refine ⟨l, l2, xs, xs2, rfl, rfl, e34, e4, Nat.le_of_lt (big (by omega)), ⟨_, _, _, rfl⟩, fun b o n hb => ?_, _, upd_same, ?_⟩
            · rw [upd_ne n]
              exact s4 _ _ (k3 _ _ n hb)
            · rw [List.length_append, xl, x2, hh]
        · obtain ⟨⟨o4, o5, o6, rfl⟩, k2, xs, e2, xl⟩ := h
          have s2 : Same H H2 := fun b o hb => k2 _ _ (ne_of_none hb nl) (sl _ _ hb)
          rw [wl, List.take_of_length_le (Nat.le_refl _)] at xl
          exact ⟨_, rfl, q l xs H2 s2 nl e2 xl⟩
      · rw [inT_mem] at no
        exact (of_decide_eq_false no (formOf_some ef)).elim
end
end K12
set_option Elab.async false
set_option linter.all false
set_option autoImplicit false
set_option maxRecDepth 100000
set_option maxHeartbeats 4000000
namespace K12
open PySem PySem.Spec PyProof.Rows L2 Vb Wd Xd Xo Xv SX Pc Zc Oi RZ
abbrev s_spot_held : Stmt := topS 46
abbrev nSH : List Str := ["scheme", "picture", "spots", "form", "levels", "begin", "part", "sort", "step", "spot"]
theorem sc_spot_held : FnScope nSH ["scheme", "picture", "spots"] (defScope s_spot_held) := ⟨rfl, rfl, rfl, by decide +kernel, rfl, by decide +kernel, by decide +kernel⟩
/-- a spot: a text and a number -/
def SpotV (H : Hp) (x : V) : Prop := ∃ (t : Addr) (z : Str) (i : Int), x = .ref t ∧ H t = some (.tup [.str z, .int i])
theorem SpotV.same {H H' : Hp} {x : V} (s : Same H H') (h : SpotV H x) : SpotV H' x := by
  obtain ⟨t, z, i, e, h⟩ := h
  exact ⟨t, z, i, e, s _ _ h⟩
def spHeld (C CS CP : Addr) (n : Nat) : Sp := fun vs H Q _ => ∃ (a sp : Addr) (b : Str) (ys : List Str) (ds : List FD) (p : Pic) (v : V) (xs : List V), vs = [.ref a, v, .ref sp] ∧ SchemeAt H C CS a b ys ds ∧ PicAt H CP p v ∧ p.Ok ∧ p.lev < n ∧ p.lev ≤ 4 ∧
  H sp = some (.tup xs) ∧ (∀ x ∈ xs, SpotV H x) ∧ xs.length = p.holes ∧ ∀ r H', Same H H' → (r = .non ∨ SpotV H' r) → Q r H'
theorem holes_pos (p : Pic) : p.Ok → 1 ≤ p.holes := by
  refine Pic.ind (P := fun p => p.Ok → 1 ≤ p.holes) (fun _ => Nat.le_refl _) (fun n ps ih ok => ?_) p
  obtain ⟨w, l2, l4, oks⟩ := ok_node ok
  cases ps with
  | nil => simp at l2
  | cons q qs =>
    have := ih q (List.mem_cons_self ..) (oks q (List.mem_cons_self ..))
    show 1 ≤ q.holes + holesL qs
    omega
theorem holesL_pos {ps : List Pic} (h : ∀ p ∈ ps, p.Ok) : ps.length ≤ holesL ps := by
  induction ps with
  | nil => exact Nat.le_refl _
  | cons q qs ih =>
    have h1 := holes_pos q (h q (List.mem_cons_self ..))
    have h2 := ih fun x hx => h x (List.mem_cons_of_mem _ hx)
    show qs.length + 1 ≤ q.holes + holesL qs
    omega
/-- the spots of a part are not all -/
theorem not_whole {ps : List Pic} {i : Nat} {q : Pic} (h : ∀ p ∈ ps, p.Ok) (l2 : 2 ≤ ps.length) (hq : ps[i]? = some q) : ¬ (holesL (ps.take i) = 0 ∧ holesL (ps.take i) + q.holes = holesL ps) := fun ⟨z1, z2⟩ => by
  have e1 : holesL ps = holesL (ps.take (i + 1)) + holesL (ps.drop (i + 1)) := by
    conv => lhs; rw [← List.take_append_drop (i + 1) ps]
    rw [holes_sum, holes_sum, holes_sum, List.map_append, List.sum_append]
  have h1 := holesL_pos (ps := ps.take i) fun p hp => h p (List.mem_of_mem_take hp)
  have h2 := holesL_pos (ps := ps.drop (i + 1)) fun p hp => h p (List.mem_of_mem_drop hp)
  have il := (List.getElem?_eq_some_iff.mp hq).1
  rw [holesL_take hq] at e1
  rw [List.length_take] at h1
  rw [List.length_drop] at h2
  omega
section
variable {P : Program} {w : World} {K : PySem.W.Frag} {mg : Str → Option Value} {base : Heap} {C CS CU CP CI : Addr}
theorem ok_held (D : Df K mg "_spot_held" s_spot_held ["scheme", "picture", "spots"]) (W : EnvW P w K mg base C CS CU) (VQ : EnvQ P w K mg base CP) (G_is_formed : Cg P w K mg base 7 "_is_formed" (spFormed C CS CP)) (z_zip : mg "zip" = none) (z_min : mg "min" = none) (z_max : mg "max" = none) : ∀ n, Cg P w K mg base (8 + n) "_spot_held" (spHeld C CS CP n)
  | 0 => by
    obtain ⟨f, fd, F, m, b⟩ := D
    exact ⟨f, fd, _, ⟨fun vs H Q E h => by obtain ⟨_, _, _, _, _, p, _, _, _, _, _, _, l, _⟩ := h; omega, fun A outer s H args us vs Q E hc hr e0 hb r h => by obtain ⟨_, _, _, _, _, p, _, _, _, _, _, _, l, _⟩ := h; omega⟩, m, F.kp, b⟩
  | n + 1 => by
    have IH := ok_held D W VQ G_is_formed z_zip z_min z_max n
    obtain ⟨p1, g1, fd1, o1, G1, b1⟩ := VQ.TP.get ("called", "_called") (by simp)
    obtain ⟨p3, g3, fd3, o3, G3, b3⟩ := VQ.TP.get ("parts", "_parts") (by simp)
    obtain ⟨p4, g4, fd4, o4, G4, b4⟩ := VQ.TP.get ("holes", "_holes") (by simp)
    obtain ⟨p2, g2, fd2, o2, G2, b2⟩ := W.TP.get ("children", "_children") (by simp)
    obtain ⟨p5, g5, fd5, o5, G5, b5⟩ := W.TP.get ("sort_name", "_sort_name") (by simp)
    obtain ⟨fI, fdI, FI, eI, nI, tI, bI⟩ := W.item
    refine D.ok (k := 8 + n) sc_spot_held (fun vs H Q E h => ?_) (fun cdv A outer s H vs Q E f0 hc hr h => ?_)
    · obtain ⟨a, sp, b, ys, ds, p, v, xs, rfl, _⟩ := h
      rfl
    · obtain ⟨a, sp, b, ys, ds, p, v, xs, rfl, SA, PA, ok, ln, l4, hsp, hx, xl, q⟩ := h
      have hr7 := hr.mono (show 7 ≤ 8 + n by omega)
      refine ⟨_, (pss_cons (ps_if (pt_cmpR op_isN (pe_propG (n := "called") (pv 1) VQ.T.c o1 G1 hc (hr7.mono (by decide)) b1) pe_non (nomark _))
      (pss_one (ps_ret (pe_ix (ix_tup : IxR _ (rIxT K)) (pv 2) pe_int (fun _ _ => rfl))))
      pss_nil)
      (pss_cons (ps_if (pt_not (pt_val (pe_cg G_is_formed hc hr7 (by rfl) (pa_cons (pv 0) (pa_cons (pv 1) pa_nil)))))
      (pss_one (ps_ret pe_non))
      pss_nil)
      (pss_cons (ps_set (i := 3) sc_spot_held.nd rfl (Or.inl rfl) (pe_itemO (E := fun _ _ _ => False) (W := fun _ _ _ _ => False) (pv 0) (pe_propG (n := "called") (pv 1) VQ.T.c o1 G1 hc (hr7.mono (by decide)) b1) FI eI nI tI bI hc (hr7.mono (by decide)) LamX.takes0 (fun _ _ _ _ z => z)))
      (pss_cons (ps_set (i := 4) sc_spot_held.nd rfl (Or.inl rfl) (pe_lst pa_nil))
      (pss_cons (ps_set (i := 5) sc_spot_held.nd rfl (Or.inl rfl) pe_int)
      (pss_cons (ps_for PassesOwn.never rfl (pi_zipA (by rfl) z_zip (pa_cons (pe_propG (n := "parts") (pv 1) VQ.T.c o3 G3 hc (hr7.mono (by decide)) b3) (pa_cons (pe_propG (n := "children") (pv 3) W.TF.c o2 G2 hc (hr7.mono (by decide)) b2) pa_nil)))
        (pg_tup (by rfl) (pgs_cons (pg_name (i := 6) sc_spot_held.nd rfl (Or.inl rfl)) (pgs_cons (pg_tup (by rfl) (pgs_cons (pg_name (i := 7) sc_spot_held.nd rfl (Or.inl rfl)) (pgs_cons (pg_name (i := 8) sc_spot_held.nd rfl (Or.inl rfl)) pgs_nil))) pgs_nil)))
      (pss_cons (ps_set (i := 9) sc_spot_held.nd rfl (Or.inl rfl) (pe_cg IH hc hr (by rfl) (pa_cons (pv 0) (pa_cons (pv 6) (pa_cons (pe_slice (sl_tup : SlR _ (rSlT K)) (pv 2) (po_some (pv 5)) (po_some (pe_op op_add (pv 5) (pe_propG (n := "holes") (pv 6) VQ.T.c o4 G4 hc (hr7.mono (by decide)) b4)))) pa_nil))) (Nat.le_refl _)))
      (pss_cons (ps_if (PW.pt (pw_or (pt_cmpR op_isN (pv 9) pe_non (nomark _)) (pw_or1 (pt_cmpR op_ne (pe_ix (ix_tup : IxR _ (rIxT K)) (pv 9) pe_int (fun _ _ => rfl)) (pv 7) (nomark _)))))
      (pss_one (ps_ret pe_non))
      pss_nil)
      (pss_cons (ps_expr (pe_bm PySem.F.plainAttrs_list PySem.F.slot_list_append PySem.F.type_list_append mt_append (pv 4) (pa_cons (pe_op op_add (pe_ix (ix_tup : IxR _ (rIxT K)) (pv 9) pe_int (fun _ _ => rfl)) (pv 8)) pa_nil)))
      (pss_one (ps_aug (i := 5) sc_spot_held.nd rfl (Or.inl rfl) (pe_propG (n := "holes") (pv 6) VQ.T.c o4 G4 hc (hr7.mono (by decide)) b4) ip_add))))))
      (pss_one (ps_ret (pe_ifExp (pt_cmpR op_eq (pe_callB (cr_min rfl) (by rfl) z_min (by decide +kernel) (pa_cons (pv 4) pa_nil)) (pe_callB (cr_max rfl) (by rfl) z_max (by decide +kernel) (pa_cons (pv 4) pa_nil)) (nomark _)) (pe_tup (pa_cons (pe_propG (n := "sort_name") (pv 3) W.TF.c o5 G5 hc (hr7.mono (by decide)) b5) (pa_cons (pe_ix (ix_list : IxR _ (rIxL K)) (pv 4) pe_int (fun _ _ => rfl)) pa_nil))) pe_non))))))))), ?_⟩
      obtain ⟨x, dx, pt, nt, ws, rfl, h1, h2, h3, h4⟩ := PA.ex
      have SA' := SA
      obtain ⟨dxs, t, bn, nm, f, so', kvs, fs, zs, ha, ht, hn, hf, FF, hb, hv, hs, mz, srt, nd⟩ := SA'.ex
      refine ⟨_, rfl, x, dx, _, rfl, h1, x, dx, _, calledV p, rfl, h1, by rfl, rfl, ?_⟩
      cases p with
      | hole =>
        match xs, xl, hx, hsp with
        | [x0], _, hx, hsp => exact ⟨true, rfl, iteT ⟨_, rfl, sp, _, 0, _, rfl, rfl, .inl (.inl hsp), rfl, q _ H (Same.refl H) (.inr (hx x0 (by simp)))⟩⟩
      | node n' ps =>
      obtain ⟨wn, l2, lm4, oks⟩ := ok_node ok
      refine ⟨false, rfl, iteF ⟨_, rfl, _, rfl, a, b, ys, ds, _, .ref x, rfl, SA, PA, _, rfl, ?_⟩⟩
      cases e1 : formed ds (.node n' ps) with
      | false => exact iteT (q _ H (Same.refl H) (.inl rfl))
      | true =>
      obtain ⟨d, ef, dl⟩ := formed_form e1
      obtain ⟨dm, de⟩ := formOf_mem ef
      refine iteF ⟨_, rfl, _, rfl, x, dx, _, rfl, h1, x, dx, _, .str (S n'), rfl, h1, by rfl, a, dxs, _, rfl, ha, a, b, ys, ds, .str (S n'), rfl, SA, .inl rfl, fun d' x' ch ks hd' e FA => ?_, fun no => ?_⟩
      · have ed : d' = d := once_name SA.once hd' dm (by rw [de]; exact (V.str.inj e).symm)
        subst ed
        obtain ⟨⟨dx', fa⟩, kk⟩ := FA
        have kl := kk.len
        have wl : ws.length = ps.length := h4.len
        have k4 := kk.hi
        have big : ∀ {n : Nat}, n ≤ 600 → n < sizeLine := fun h => Nat.lt_of_le_of_lt h (by decide)
        have h256 := holes256 ok l4
        have hps : (Pic.node n' ps).holes = holesL ps := rfl
        refine ⟨by show 0 ≤ sizeLine; decide, fun L nL => ?_⟩
        have sl := same_new (o := .lst []) nL
        have eL : (upd H L (.lst [])) L = some (.lst []) := upd_same
        generalize upd H L (.lst []) = H1 at sl eL ⊢
        refine ⟨_, rfl, x, dx, _, rfl, sl _ _ h1, x, dx, _, .ref pt, rfl, sl _ _ h1, by rfl, _, rfl, x', dx', _, rfl, sl _ _ fa, x', ch, dx', _, _, .ref ch, rfl, sl _ _ fa, by rfl, pt, ch, ws, ks.map V.ref, rfl, .inr ⟨.inl (.inl (sl _ _ h2)), .inl (.inl (sl _ _ kk.at_)), ?_⟩⟩
        refine for_zipT (K := K) (a := pt) (b := ch) (xs := ws) (ys := ks.map V.ref) (by rw [List.length_map]; omega) (fun i σ H' => (∃ o6 o7 o8 o9 : Option V, σ = [some (.ref a), some (.ref x), some (.ref sp), some (.ref x'), some (.ref L), some (.int (holesL (ps.take i) : Nat)), o6, o7, o8, o9]) ∧ (∀ b o, b ≠ L → H1 b = some o → H' b = some o) ∧ ∃ ns : List Int, H' L = some (.lst (ns.map V.int)) ∧ ns.length = i)
          ⟨⟨none, none, none, none, rfl⟩, fun _ _ _ e => e, [], eL, rfl⟩ (fun i σ H' h => ?_) (fun i y1 y2 T σ H2 hy1 hy2 h nT => ?_) (fun σ H2 h => ?_)
        · have s2 : Same H H' := fun b o hb => h.2.1 _ _ (ne_of_none hb nL) (sl _ _ hb)
          exact ⟨.inl (.inl (s2 _ _ h2)), .inl (.inl (s2 _ _ kk.at_))⟩
        · obtain ⟨⟨o6, o7, o8, o9, rfl⟩, k2, ns, e2, nsl⟩ := h
          have s2 : Same H H2 := fun b o hb => k2 _ _ (ne_of_none hb nL) (sl _ _ hb)
          rw [List.getElem?_map] at hy2
          obtain ⟨t1, ht1, rfl⟩ := Option.map_eq_some_iff.mp hy2
          obtain ⟨⟨c1, c2⟩, hc', kt⟩ := kk.get ht1
          have il : i < ps.length := by
            have := (List.getElem?_eq_some_iff.mp hy1).1
            omega
          have hp : ps[i]? = some ps[i] := List.getElem?_eq_getElem il
          have pi := (h4.get hp hy1)
          have pm : ps[i] ∈ (Pic.node n' ps).parts := List.getElem_mem il
          have lp := lev_part pm
          have okp := ok_part ok pm
          have hh := holesL_take hp
          have hle := holesL_le (ps := ps) (i := i + 1)
          have nw := not_whole oks l2 hp
          generalize ps[i] = pp at hp pi lp okp hh nw
          have sT := same_new (o := .tup [y1, .ref t1]) nT
          have lT : L ≠ T := ne_of_none e2 nT
          have s3 := s2.trans sT
          have e3 := sT _ _ e2
          have k3 : ∀ b o, b ≠ L → H1 b = some o → (upd H2 T (.tup [y1, .ref t1])) b = some o := fun b o n hb => sT _ _ (k2 _ _ n hb)
          have eT : (upd H2 T (.tup [y1, .ref t1])) T = some (.tup [y1, .ref t1]) := upd_same
          generalize upd H2 T (.tup [y1, .ref t1]) = H3 at s3 e3 eT k3 ⊢
          have pi3 := pi.keep (KeepP.of s3)
          have et3 := s3 _ _ kt.at_
          obtain ⟨xa, dxa, pta, nta, wsa, rfl, g1, g2, g3, g4⟩ := pi3.ex
          refine ⟨T, _, rfl, .inl (.inl eT), rfl, .ref xa, _, rfl, .ref t1, _, rfl, t1, _, rfl, .inl (.inl et3), rfl, .str c1, _, rfl, .int c2, _, rfl, rfl, rfl, ?_⟩
          refine ⟨_, rfl, _, rfl, _, rfl, _, rfl, (holesL (ps.take i) : Nat), rfl, _, rfl, _, rfl, xa, dxa, _, rfl, g1, xa, dxa, _, .int (pp.holes : Nat), rfl, g1, by rfl, _, _, rfl, rfl, _, rfl, sp, xs, rfl, .inl (.inl (s3 _ _ hsp)), ?_, fun r nr => ?_⟩
          · have ec : ((holesL (ps.take i) : Nat) : Int) + ((pp.holes : Nat) : Int) = ((holesL (ps.take i) + pp.holes : Nat) : Int) := by omega
            rw [ec, HT.sIx_nat, HT.sIx_nat, xl]
            omega
          have ec : ((holesL (ps.take i) : Nat) : Int) + ((pp.holes : Nat) : Int) = ((holesL (ps.take i) + pp.holes : Nat) : Int) := by omega
          have ecut : cutV xs (some ((holesL (ps.take i) : Nat) : Int)) (some (((holesL (ps.take i) : Nat) : Int) + ((pp.holes : Nat) : Int))) = (xs.drop (holesL (ps.take i))).take pp.holes := by
            unfold cutV
            rw [ec, HT.sIx_nat, HT.sIx_nat, xl]
            have e1 : min (holesL (List.take i ps)) (Pic.node n' ps).holes = holesL (ps.take i) := by omega
            have e2 : min (holesL (List.take i ps) + pp.holes) (Pic.node n' ps).holes = holesL (ps.take i) + pp.holes := by omega
            rw [e1, e2]
            congr 1
            omega
          rw [ecut]
          have s4 := same_new (o := .tup ((xs.drop (holesL (ps.take i))).take pp.holes)) nr
          have s34 := s3.trans s4
          refine ⟨a, r, b, ys, ds, pp, .ref xa, _, rfl, SA.same s34, pi3.keep (KeepP.of s4) _ _, okp, by omega, by omega, upd_same, fun u hu => (hx u (List.mem_of_mem_drop (List.mem_of_mem_take hu))).same s34, by rw [List.length_take, List.length_drop]; omega, fun rv H5 s5 hv => ?_⟩
          have s15 := s4.trans s5
          have s05 := s3.trans s15
          have e5 := s15 _ _ e3
          have g5' := s15 _ _ g1
          rcases hv with rfl | ⟨t', z', i', rfl, e'⟩
          · exact ⟨_, rfl, rfl, true, rfl, iteT (iteT (q _ _ s05 (.inl rfl)))⟩
          · refine ⟨_, rfl, rfl, false, rfl, iteF ⟨_, rfl, t', _, 0, _, rfl, rfl, .inl (.inl e'), rfl, _, rfl, rfl, _, rfl, ?_⟩⟩
            cases ed : (!decide (V.str z' = V.str c1)) with
            | true => exact iteT (q _ _ s05 (.inl rfl))
            | false =>
              refine iteF ⟨.ref L, rfl, .inl ⟨rfl, _, .inl (.inl e5)⟩, _, rfl, t', _, 1, _, rfl, rfl, .inl (.inl e'), rfl, _, rfl, _, _, rfl, rfl, L, _, _, rfl, rfl, e5, by rw [List.length_map]; exact big (by omega), ?_⟩
              have xaL : xa ≠ L := fun z => by rw [z, e5] at g5'; cases g5'
              have g6 : (upd H5 L (.lst (ns.map V.int ++ [.int (i' + c2)]))) xa = some (.ins CP dxa (fldsP pp pta nta)) := by
                rw [upd_ne xaL]
                exact g5'
              refine ⟨.int (holesL (ps.take i) : Nat), rfl, _, rfl, xa, dxa, _, rfl, g6, xa, dxa, _, .int (pp.holes : Nat), rfl, g6, by rfl, _, _, rfl, rfl, ⟨some (.ref xa), some (.str c1), some (.int c2), some (.ref t'), ?_⟩, fun b o n hb => ?_, ns ++ [i' + c2], ?_, by rw [List.length_append, nsl]; rfl⟩
              · have ei : (fun i j => i + j) ((holesL (ps.take i) : Nat) : Int) ((pp.holes : Nat) : Int) = ((holesL (ps.take (i + 1)) : Nat) : Int) := by
                  rw [hh]
                  exact ec
                rw [ei]
                rfl
              · rw [upd_ne n]
                exact s15 _ _ (k3 _ _ n hb)
              · rw [upd_same, List.map_append]
                rfl
        · obtain ⟨⟨o6, o7, o8, o9, rfl⟩, k2, ns, e2, nsl⟩ := h
          have s2 : Same H H2 := fun b o hb => k2 _ _ (ne_of_none hb nL) (sl _ _ hb)
          have fa2 := s2 _ _ fa
          have np : 0 < ns.length := by omega
          refine ⟨_, rfl, L, ns, rfl, .inl (.inl e2), np, fun mn _ _ => ⟨_, rfl, L, ns, rfl, .inl (.inl e2), np, fun mx _ _ => ⟨rfl, _, rfl, ?_⟩⟩⟩
          cases decide (V.int mn = V.int mx) with
          | false => exact iteF (q _ _ s2 (.inl rfl))
          | true =>
            match ns, np, e2 with
            | n0 :: nr, _, e2 =>
              refine iteT ⟨_, rfl, x', dx', _, rfl, fa2, x', ch, dx', _, _, .str d'.2.1, rfl, fa2, by rfl, _, rfl, L, _, 0, .int n0, rfl, rfl, .inl (.inl e2), atI_nat (j := 0) rfl, by show 2 ≤ sizeLine; decide, fun t nt => ?_⟩
              have st := same_new (o := .tup [.str d'.2.1, .int n0]) nt
              exact q _ _ (s2.trans st) (.inr ⟨t, _, _, rfl, upd_same⟩)
      · rw [inT_mem] at no
        exact (of_decide_eq_false no (formOf_some ef)).elim
end
end K12
set_option Elab.async false
set_option linter.all false
set_option autoImplicit false
set_option maxRecDepth 100000
set_option maxHeartbeats 4000000
namespace K12
open PySem PySem.Spec PyProof.Rows L2 Vb Wd Xd Xo Xv SX Pc Zc Oi RZ Oe Of
abbrev s_spots_of : Stmt := topS 36
theorem sc_spots_of : FnScope ["scheme", "picture"] ["scheme", "picture"] (defScope s_spots_of) := ⟨rfl, rfl, rfl, by decide +kernel, rfl, by decide +kernel, by decide +kernel⟩
abbrev s_spot_over : Stmt := topS 37
theorem sc_spot_over : FnScope ["scheme", "picture", "spots", "spot"] ["scheme", "picture", "spots"] (defScope s_spot_over) := ⟨rfl, rfl, rfl, by decide +kernel, rfl, by decide +kernel, by decide +kernel⟩
def spSpotsOf (K : PySem.W.Frag) (C CS CP CI CIP : Addr) (n : Nat) : Sp := fun vs H Q E => ∃ (u v : V), vs = [u, v] ∧
  ((NotOf K H u CS ∧ E (.ref CI) none H) ∨
   (∃ (a : Addr) (b : Str) (ys : List Str) (ds : List FD), u = .ref a ∧ SchemeAt H C CS a b ys ds ∧
     ((NotOf K H v CP ∧ ∀ H', Same H H' → E (.ref CIP) none H') ∨
      (∃ p : Pic, PicAt H CP p v ∧ p.Ok ∧ p.lev < n ∧ p.lev ≤ 4 ∧ (sound ds p = false → ∀ H', Same H H' → E (.ref CIP) none H') ∧ (sound ds p = true → ∀ t xs H', Same H H' → H' t = some (.tup xs) → Q (.ref t) H')))))
def spotsD (d : PyData) (n : Nat) : Bool := match d with
  | .tuple ds => ds.all spotD && decide (ds.length = n)
  | _ => false
def sizeD : PyData → Nat
  | .tuple ds => ds.length
  | _ => 0
def spSpotOver (K : PySem.W.Frag) (C CS CP CI CIP CO : Addr) (n : Nat) : Sp := fun vs H Q E => ∃ (u v s : V), vs = [u, v, s] ∧
  ((NotOf K H u CS ∧ E (.ref CI) none H) ∨
   (∃ (a : Addr) (b : Str) (ys : List Str) (ds : List FD), u = .ref a ∧ SchemeAt H C CS a b ys ds ∧
     ((NotOf K H v CP ∧ E (.ref CIP) none H) ∨
      (∃ (p : Pic) (d : PyData), PicAt H CP p v ∧ p.Ok ∧ p.lev < n ∧ p.lev ≤ 4 ∧ Dt H s d ∧ okD d = true ∧ sizeD d ≤ 600 ∧ (spotsD d p.holes = false → ∀ H', Same H H' → E (.ref CO) none H') ∧ (spotsD d p.holes = true → ∀ r H', Same H H' → (r = .non ∨ SpotV H' r) → Q r H')))))
theorem spot_dt {H : Hp} {v : V} {d : PyData} (h : Dt H v d) (e : spotD d = true) : SpotV H v := by
  cases h with
  | @tup a xs ds ha al =>
    match xs, ds, al, e with
    | [x, y], [dx, dy], .cons kx (.cons ky .nil), e =>
      have e' : (namD dx && intD dy) = true := e
      rw [Bool.and_eq_true] at e'
      cases kx with
      | str z =>
        cases ky with
        | int i => exact ⟨a, z, i, rfl, ha⟩
        | _ => cases e'.2
      | _ => cases e'.1
    | [], [], _, e => cases e
    | [_], [_], _, e => cases e
    | _ :: _ :: _ :: _, _ :: _ :: _ :: _, _, e => cases e
  | _ => cases e
section
variable {P : Program} {w : World} {K : PySem.W.Frag} {mg : Str → Option Value} {base : Heap} {C CS CU CP CI CIP CO : Addr}
theorem ok_spots_of {n k j : Nat} (D : Df K mg "spots_of" s_spots_of ["scheme", "picture"]) (TE : ErrC K mg "InvalidPicture" CIP) (G_sound : CgE P w K mg base k "is_sound_picture" (spSoundX K C CS CP CI n)) (G_below : Cg P w K mg base j "_spots_below" (spBelow C CS CP n)) (hj : j ≤ k) (z_tuple : mg "tuple" = none) : CgE P w K mg base (k + 1) "spots_of" (spSpotsOf K C CS CP CI CIP n) := by
  obtain ⟨f, fd, F, m, b⟩ := D
  refine ⟨f, fd, _, goes_exc F sc_spots_of (fun vs H Q E h => ?_) (fun cdv A outer s H vs Q E hc hr tk h => ?_), m, F.kp, b⟩
  · obtain ⟨u, v, rfl, _⟩ := h
    rfl
  · obtain ⟨u, v, rfl, h⟩ := h
    refine ⟨_, (pss_cons (ps_if (pt_not (pt_val (pe_cgE (E := E) G_sound hc hr (by rfl) tk (fun _ _ _ _ z => z) (pa_cons (pv 0) (pa_cons (pv 1) pa_nil)) (hj := Nat.le_refl _))))
      (pss_one (ps_raise (by rfl) tk (pmk_own PySem.F.excBase_ValueError TE.e TE.g TE.k (raises_own TE.b TE.t) (by rfl))))
      pss_nil)
      (pss_one (ps_ret (pe_callTy (cr_tuple : CallR _ _ (rTup K)) (by rfl) z_tuple (by decide +kernel) (pa_cons (pe_cg G_below hc hr (by rfl) (pa_cons (pv 0) (pa_cons (pv 1) (pa_cons pe_int pa_nil))) hj (hx := pass0)) pa_nil))))), ?_⟩
    rcases h with ⟨no, q⟩ | ⟨a, b, ys, ds, rfl, SA, h⟩
    · exact ⟨_, rfl, _, rfl, u, v, rfl, .inl ⟨no, q⟩⟩
    rcases h with ⟨no, q⟩ | ⟨p, PA, ok, ln, l4, q1, q2⟩
    · exact ⟨_, rfl, _, rfl, .ref a, v, rfl, .inr ⟨a, b, ys, ds, rfl, SA, .inl ⟨no, _, rfl, iteT (q H (Same.refl H))⟩⟩⟩
    · refine ⟨_, rfl, _, rfl, .ref a, v, rfl, .inr ⟨a, b, ys, ds, rfl, SA, .inr ⟨p, PA, ok, ln, fun H1 s1 => ⟨_, rfl, ?_⟩⟩⟩⟩
      cases e : sound ds p with
      | false => exact iteT (q1 e H1 s1)
      | true =>
        refine iteF ⟨_, rfl, _, rfl, a, b, ys, ds, p, v, 0, rfl, SA.same s1, PA.keep (KeepP.of s1) _ _, ok, ln, l4, e, fun l xs H2 s2 nl el xl => ⟨l, xs, rfl, .inl ⟨.inl (.inl el), fun r nr => ?_⟩⟩⟩
        have s3 := same_new (o := .tup xs) nr
        exact q2 e r xs _ ((s1.trans s2).trans s3) upd_same
theorem ok_spot_over {n k : Nat} (D : Df K mg "spot_over" s_spot_over ["scheme", "picture", "spots"]) (TS : SchemeC K CS) (VQ : EnvQ P w K mg base CP) (TIS : FormI K CS) (TIP : FormI K CP) (gS : mg "Scheme" = some (.ref CS)) (TE : ErrC K mg "InvalidScheme" CI) (TEP : ErrC K mg "InvalidPicture" CIP) (TEO : ErrC K mg "InvalidOperation" CO)
    (G_is_spot : Cg P w K mg base 2 "_is_spot" spSpotD) (G_held : Cg P w K mg base k "_spot_held" (spHeld C CS CP n)) (hk : 7 ≤ k) (z_isinstance : mg "isinstance" = none) (z_tuple : mg "tuple" = none) (z_all : mg "all" = none) (z_len : mg "len" = none) : CgE P w K mg base (k + 1) "spot_over" (spSpotOver K C CS CP CI CIP CO n) := by
  obtain ⟨p4, g4, fd4, o4, G4, b4⟩ := VQ.TP.get ("holes", "_holes") (by simp)
  obtain ⟨f, fd, F, m, b⟩ := D
  refine ⟨f, fd, _, goes_exc F sc_spot_over (fun vs H Q E h => ?_) (fun cdv A outer s H vs Q E hc hr tk h => ?_), m, F.kp, b⟩
  · obtain ⟨u, v, s, rfl, _⟩ := h
    rfl
  · obtain ⟨u, v, sv, rfl, h⟩ := h
    have hr7 := hr.mono hk
    refine ⟨_, (pss_cons (ps_if (pt_not (pt_val (pe_callB call_isi (by rfl) z_isinstance (by decide +kernel) (pa_cons (pv 0) (pa_cons (pe_glob (v := .ref CS) (by rfl) gS rfl) pa_nil)))))
      (pss_one (ps_raise (by rfl) tk (pmk_own PySem.F.excBase_ValueError TE.e TE.g TE.k (raises_own TE.b TE.t) (by rfl))))
      pss_nil)
      (pss_cons (ps_if (pt_not (pt_val (pe_callB call_isi (by rfl) z_isinstance (by decide +kernel) (pa_cons (pv 1) (pa_cons (pe_glob (v := .ref CP) (by rfl) VQ.g rfl) pa_nil)))))
      (pss_one (ps_raise (by rfl) tk (pmk_own PySem.F.excBase_ValueError TEP.e TEP.g TEP.k (raises_own TEP.b TEP.t) (by rfl))))
      pss_nil)
      (pss_cons (ps_if (PW.pt (pw_or (pt_not (pt_val (pe_callB call_isi (by rfl) z_isinstance (by decide +kernel) (pa_cons (pv 2) (pa_cons (pe_bltn (v := .ty "tuple") (by rfl) z_tuple (by decide +kernel) rfl) pa_nil))))) (pw_or1 (pt_not (pt_val (pe_callB (cr_all rfl) (by rfl) z_all (by decide +kernel) (pa_cons (pe_lc (own := [("spot", 3)]) (g := gName 3) (by rfl) sc_spot_over.nd (pi_tup (pv 2)) (blkOk_by (own := [("spot", 3)]) (N := ["scheme", "picture", "spots", "spot"]) (sc := defScope s_spot_over) (by decide +kernel)) (fun _ _ _ _ _ => pg_name (i := 3) sc_spot_over.nd rfl (Or.inl rfl)) (fun _ _ _ _ _ => pts_nil)
        (fun _ _ _ _ _ => (pe_cg G_is_spot hc hr7 (by rfl) (pa_cons (pv 3) pa_nil) (hx := pass0)))) pa_nil)))))))
      (pss_one (ps_raise (by rfl) tk (pmk_own PySem.F.excBase_ValueError TEO.e TEO.g TEO.k (raises_own TEO.b TEO.t) (by rfl))))
      pss_nil)
      (pss_cons (ps_if (pt_cmpR op_ne (pe_callB call_len_seq (by rfl) z_len PySem.boot_len (pa_cons (pv 2) pa_nil)) (pe_propG (n := "holes") (pv 1) VQ.T.c o4 G4 hc (hr7.mono (by decide)) b4) (nomark _))
      (pss_one (ps_raise (by rfl) tk (pmk_own PySem.F.excBase_ValueError TEO.e TEO.g TEO.k (raises_own TEO.b TEO.t) (by rfl))))
      pss_nil)
      (pss_one (ps_ret (pe_cg G_held hc hr (by rfl) (pa_cons (pv 0) (pa_cons (pv 1) (pa_cons (pv 2) pa_nil))) (Nat.le_refl _) (hx := pass0)))))))), ?_⟩
    rcases h with ⟨⟨t, ty, no⟩, q⟩ | ⟨a, b, ys, ds, rfl, SA, h⟩
    · exact ⟨_, rfl, _, _, _, _, false, rfl, .own CS, ty, no, _, rfl, iteT q⟩
    have SA' := SA
    obtain ⟨dxs, t, bn, nm, f, so', kvs, fs, zs, ha, ht, hn, hf, FF, hb, hv, hs, mz, srt, nd⟩ := SA'.ex
    refine ⟨_, rfl, _, _, _, _, true, rfl, .own CS, .base (.ins ha TS.c TIS.ca TIS.sp TIS.tk TIS.mo), TIS.yes, _, rfl, iteF ?_⟩
    rcases h with ⟨⟨t', ty, no⟩, q⟩ | ⟨p, d, PA, ok, ln, l4, kd, o, sz, q1, q2⟩
    · exact ⟨_, rfl, _, _, _, _, false, rfl, .own CP, ty, no, _, rfl, iteT q⟩
    obtain ⟨x, dx, pt, nt, ws, rfl, h1, h2, h3, h4⟩ := PA.ex
    refine ⟨_, rfl, _, _, _, _, true, rfl, .own CP, .base (.ins h1 VQ.T.c TIP.ca TIP.sp TIP.tk TIP.mo), TIP.yes, _, rfl, iteF ?_⟩
    rcases tup_orS d with ⟨es, rfl⟩ | ⟨mm, e1⟩
    · cases kd with
      | @tup sp xs _ hsp al =>
        have lnx := al.len
        have ody : ∀ d ∈ es, okD d = true := okDs_mem o
        have hT : ∀ {H' : Hp}, Same H H' → SqT K H' sp xs := fun s => .inl (.inl (s _ _ hsp))
        have sz' : es.length ≤ 600 := sz
        refine ⟨_, rfl, _, _, _, _, true, rfl, .ty _, .base (.tup hsp), kit_ty (by decide +kernel), _, rfl, iteF ?_⟩
        refine ⟨_, rfl, sp, rfl, ⟨_, hT (Same.refl H)⟩, fun D nD => lc_tup (K := K) (a := sp) (xs := xs) (fun i H' => Same H H' ∧ H' D = some (.lst (((es.take i).map spotD).map V.bl))) ⟨same_put nD (Same.refl H), upd_same⟩ (fun i H' _ h => hT h.1) (fun i y H1 hx h => ?_) (fun H1 h => ?_)⟩
        · obtain ⟨s1, e1⟩ := h
          obtain ⟨d, hd, kd⟩ := al.get hx
          refine ⟨rfl, _, rfl, y, d, rfl, kd.same s1, ody d (List.mem_of_getElem? hd), fun H2 s2 => ⟨_, s2 _ _ e1, ?_, same_put nD (s1.trans s2), ?_⟩⟩
          · rw [List.length_map, List.length_map, List.length_take]
            exact Nat.lt_of_le_of_lt (show _ ≤ 600 by omega) (by decide)
          · rw [upd_same, List.take_add_one, hd, List.map_append, List.map_append]
            rfl
        · obtain ⟨s1, e1⟩ := h
          rw [lnx, List.take_of_length_le (Nat.le_refl _)] at e1
          refine ⟨D, _, rfl, .inl (.inl e1), _, rfl, ?_⟩
          have ea : (es.map spotD).all id = es.all spotD := by rw [List.all_map]; rfl
          rw [ea]
          have eq : spotsD (.tuple es) p.holes = (es.all spotD && decide (es.length = p.holes)) := rfl
          rw [eq] at q1 q2
          cases eall : es.all spotD with
          | false =>
            rw [eall, Bool.false_and] at q1
            exact iteT (q1 rfl H1 s1)
          | true =>
            rw [eall, Bool.true_and] at q1 q2
            refine iteF ⟨_, rfl, sp, xs, rfl, .inr (hT s1), _, rfl, x, dx, _, rfl, s1 _ _ h1, x, dx, _, .int (p.holes : Nat), rfl, s1 _ _ h1, by rfl, rfl, _, rfl, ?_⟩
            by_cases el : es.length = p.holes
            · rw [decide_eq_true (show V.int (xs.length : Nat) = V.int (p.holes : Nat) by rw [lnx, el])]
              have allS : ∀ u ∈ xs, SpotV H u := fun u hu => by
                obtain ⟨i, hi⟩ := List.mem_iff_getElem?.mp hu
                obtain ⟨d, hd, kd⟩ := al.get hi
                exact spot_dt kd (List.all_eq_true.mp eall d (List.mem_of_getElem? hd))
              exact iteF ⟨_, rfl, _, rfl, _, rfl, a, sp, b, ys, ds, p, .ref x, xs, rfl, SA.same s1, PA.keep (KeepP.of s1) _ _, ok, ln, l4, s1 _ _ hsp, fun u hu => (allS u hu).same s1, by rw [lnx, el], fun r H2 s2 hr => q2 (decide_eq_true el) r H2 (s1.trans s2) hr⟩
            · rw [decide_eq_false (show ¬ V.int (xs.length : Nat) = V.int (p.holes : Nat) from fun z => by
                have := V.int.inj z
                omega)]
              exact iteT (q1 (decide_eq_false el) H1 s1)
    · refine ⟨_, rfl, _, _, _, _, false, rfl, .ty _, kd.ty, kit_ty (kit_noT mm), _, rfl, iteT (iteT (q1 ?_ H (Same.refl H)))⟩
      cases d <;> first | rfl | simp [kndOf] at mm
end
end K12
set_option Elab.async false
set_option linter.all false
set_option autoImplicit false
set_option maxRecDepth 100000
set_option maxHeartbeats 4000000
namespace K12
open PySem PySem.Spec PyProof.Rows L2 Vb Wd
abbrev s_l_mixed : Stmt := topS 51
theorem sc_l_mixed : FnScope ["_law_dice_here", "_law_items", "_law_left", "_law_found"] ["_law_dice_here", "_law_items"] (defScope s_l_mixed) := ⟨rfl, rfl, rfl, by decide +kernel, rfl, by decide +kernel, by decide +kernel⟩
abbrev s_l_names : Stmt := topS 52
theorem sc_l_names : FnScope ["_law_dice_here", "_law_many", "_law_pool"] ["_law_dice_here", "_law_many"] (defScope s_l_names) := ⟨rfl, rfl, rfl, by decide +kernel, rfl, by decide +kernel, by decide +kernel⟩
/-- mixed(dice, items): the same texts in a drawn order, a new list -/
def spMixed (K : PySem.W.Frag) : Sp := fun vs H Q _ => ∃ (d a : Addr) (ys : List Str), vs = [.ref d, .ref a] ∧ Dice H d ∧ SqL K H a (ys.map V.str) ∧ (∀ y ∈ ys, Asc y) ∧ ys.length ≤ 60 ∧
  ∀ (p : Addr) (zs : List Str) (H' : Hp), Past d H H' → H p = none → p ≠ d → H' p = some (.lst (zs.map V.str)) → zs.Perm ys → Q (.ref p) H'
section
variable {P : Program} {w : World} {K : PySem.W.Frag} {mg : Str → Option Value} {base : Heap}
theorem eqv_cons (u : Str) (us : List Str) : (!PyData.eqv (.list ((u :: us).map PyData.str)) (.list [])) = true := by
  simp [PyData.eqv, PyData.eqvAll]
theorem map_erase {α β : Type} (f : α → β) (l : List α) (i : Nat) : (l.map f).eraseIdx i = (l.eraseIdx i).map f := by
  rw [List.eraseIdx_eq_take_drop_succ, List.eraseIdx_eq_take_drop_succ, List.map_append, List.map_take, List.map_drop]
theorem seq_at {r : Int} {n : Nat} (h0 : 0 ≤ r) (h1 : r < n) : seqIndex? r n = some r.toNat := by
  unfold seqIndex?
  have n0 : ¬ r < 0 := by omega
  simp only [if_neg n0]
  rw [if_pos (by simp [h0, h1])]
theorem erase_perm {α : Type} : ∀ (l : List α) (i : Nat) (h : i < l.length), List.Perm (l[i] :: l.eraseIdx i) l
  | x :: l, 0, _ => List.Perm.refl _
  | x :: l, i + 1, h => ((List.Perm.swap x _ _).trans ((erase_perm l i (by simpa using h)).cons x))
theorem small8000 {n : Nat} (h : n ≤ 60) : (n : Int).natAbs < 2 ^ 8000 := Nat.lt_of_le_of_lt (show (n : Int).natAbs ≤ 60 by omega) (by decide +kernel)
theorem ok_l_mixed (D : Df K mg "_law_mixed" s_l_mixed ["_law_dice_here", "_law_items"]) (G_l_roll : Cg P w K mg base 1 "_law_roll" spRoll) (z_len : mg "len" = none) (z_list : mg "list" = none) : Cg P w K mg base 2 "_law_mixed" (spMixed K) := by
  refine D.ok sc_l_mixed (fun vs H Q E h => ?_) (fun cdv A outer s H vs Q E f hc hr h => ?_)
  · obtain ⟨d, a, ys, rfl, _⟩ := h
    rfl
  · obtain ⟨d, a, ys, rfl, hd, hS, ha, hl, q⟩ := h
    refine ⟨_, (pss_cons (ps_par (i := 2) (j := 3) (by rfl) sc_l_mixed.nd rfl rfl (by decide) rfl rfl (pa_cons (pe_callTy call_list_of (by rfl) z_list (by decide +kernel) (pa_cons (pv 1) pa_nil)) (pa_cons (pe_lst pa_nil) pa_nil)) (by rfl))
      (pss_cons (ps_while PassesOwn.never (pt_cmpR (op_neD hr.units) (pv 2) (pe_lst pa_nil) (nomark _))
      (pss_one (ps_expr (pe_bm PySem.F.plainAttrs_list PySem.F.slot_list_append PySem.F.type_list_append mt_append (pv 3) (pa_cons (pe_bm PySem.F.plainAttrs_list PySem.F.slot_list_pop PySem.F.type_list_pop mt_popAt (pv 2) (pa_cons (pe_cg G_l_roll hc hr (by rfl) (pa_cons (pv 0) (pa_cons (pe_callB call_len_seq (by rfl) z_len PySem.boot_len (pa_cons (pv 2) pa_nil)) pa_nil))) pa_nil)) pa_nil)))))
      (pss_one (ps_ret (pv 3))))), ?_⟩
    refine ⟨_, rfl, a, _, rfl, .inl hS, fun l nl => ⟨by show 0 ≤ sizeLine; decide, fun f nf => ?_⟩⟩
    refine ⟨_, _, rfl, ?_⟩
    refine ⟨fun m σ H' => ∃ us zs : List Str, us.length = m ∧ σ = [some (.ref d), some (.ref a), some (.ref l), some (.ref f)] ∧ Past d H H' ∧ H l = none ∧ H f = none ∧ l ≠ f ∧ l ≠ d ∧ f ≠ d ∧ H' l = some (.lst (us.map V.str)) ∧ H' f = some (.lst (zs.map V.str)) ∧ (zs ++ us).Perm ys, ⟨ys.length, ys, [], rfl, rfl, ?_⟩, ?_⟩
    · have lf : l ≠ f := fun e => by
        rw [← e, upd_same] at nf
        cases nf
      have nf0 : H f = none := by rw [upd_ne lf.symm] at nf; exact nf
      exact ⟨(Past.new hd nl).trans (Past.new (Past.new hd nl).dice nf), nl, nf0, lf, hd.ne nl, hd.ne nf0, by rw [upd_ne lf]; exact upd_same, upd_same, List.Perm.refl _⟩
    · rintro m σ H' ⟨us, zs, rfl, rfl, pp, nl', nf', lf, ld, fd', el, ef, pm⟩
      have hd' := pp.dice
      refine ⟨_, rfl, by show 0 ≤ sizeLine; decide, fun t nt => ?_⟩
      have st := same_new (o := .lst []) nt
      have pt := Past.new (o := .lst []) hd' nt
      refine ⟨.list (us.map PyData.str), .list [], .lst (.inl (.inl (st _ _ el))) (dp_strs us), .lst (.inl (.inl upd_same)) .nil, shaped_strs fun y hy => ha y (pm.mem_iff.mp (List.mem_append.mpr (.inr hy))), by decide +kernel, _, rfl, ?_⟩
      cases us with
      | nil =>
        rw [show (!PyData.eqv (.list (([] : List Str).map PyData.str)) (.list [])) = false from by decide +kernel]
        refine iteF ⟨_, rfl, q f zs _ (pp.trans pt) nf' fd' (st _ _ ef) ?_⟩
        simpa using pm
      | cons u0 us0 =>
        rw [eqv_cons]
        refine iteT ⟨fun σ' H'' => ∃ us1 zs1 : List Str, us1.length < (u0 :: us0).length ∧ σ' = [some (.ref d), some (.ref a), some (.ref l), some (.ref f)] ∧ Past d H H'' ∧ H'' l = some (.lst (us1.map V.str)) ∧ H'' f = some (.lst (zs1.map V.str)) ∧ (zs1 ++ us1).Perm ys, fun σ' H'' ⟨us1, zs1, h1, h2, h3, h4, h5, h6⟩ => ⟨us1.length, h1, us1, zs1, rfl, h2, h3, nl', nf', lf, ld, fd', h4, h5, h6⟩, ?_⟩
        have few : (u0 :: us0).length ≤ 60 := by
          have := pm.length_eq
          rw [List.length_append] at this
          omega
        have el1 := st _ _ el
        have ef1 := st _ _ ef
        have lp : l ≠ f := lf
        generalize upd H' t (.lst []) = H1 at pt el1 ef1 ⊢
        refine ⟨.ref f, rfl, .inl ⟨rfl, _, .inl (.inl ef1)⟩, .ref l, rfl, .inl ⟨rfl, _, .inl (.inl el1)⟩, _, rfl, _, rfl, l, _, rfl, .inl (.inl (.inl el1)), d, _, rfl, pt.dice, by rw [List.length_map]; simp, by rw [List.length_map]; exact small8000 (by omega), fun r H2 p2 r0 r1 => ?_⟩
        rw [List.length_map] at r1
        have rk : r.toNat < (u0 :: us0).length := by omega
        have el2 := p2.keep ld el1
        have ef2 := p2.keep fd' ef1
        have d2 := p2.dice
        refine ⟨l, _, r, r.toNat, .str ((u0 :: us0)[r.toNat]), rfl, rfl, el2, by omega, by have := few; omega, by rw [List.length_map]; exact seq_at r0 r1, by rw [List.getElem?_map, List.getElem?_eq_getElem rk]; rfl, ?_⟩
        refine ⟨f, _, _, rfl, rfl, by rw [upd_ne lf.symm]; exact ef2, ?_, (u0 :: us0).eraseIdx r.toNat, zs ++ [(u0 :: us0)[r.toNat]], ?_, rfl, ?_, ?_, ?_, ?_⟩
        · rw [List.length_map]
          have := pm.length_eq
          rw [List.length_append] at this
          exact Nat.lt_of_le_of_lt (show zs.length ≤ 60 by omega) (by decide)
        · rw [List.length_eraseIdx_of_lt rk]
          omega
        · have p12 := (pp.trans pt).trans p2
          exact ⟨fun b o n e => by
            have bl : b ≠ l := fun z => by rw [z, nl'] at e; cases e
            have bf : b ≠ f := fun z => by rw [z, nf'] at e; cases e
            rw [upd_ne bf, upd_ne bl]
            exact p12.1 b o n e, by
            obtain ⟨g, s, c, e⟩ := d2
            exact ⟨g, s, c, by rw [upd_ne fd'.symm, upd_ne ld.symm]; exact e⟩⟩
        · rw [upd_ne lf, upd_same, map_erase]
        · rw [upd_same, List.map_append]
          rfl
        · refine List.Perm.trans ?_ pm
          rw [List.append_assoc]
          exact List.Perm.append_left zs (erase_perm _ _ rk)
def pool : List Str := ["a", "b", "ab", "even", "left", "leftmost", "put", "top", "x", "zzzzzzzz"]
theorem pool_nodup : pool.Nodup := by decide +kernel
theorem pool_asc : ∀ y ∈ pool, Asc y := by
  have h : pool.all (fun y => y.cps.toList.all (fun c => decide (c < 128))) = true := by decide +kernel
  intro y hy c hc
  exact of_decide_eq_true (List.all_eq_true.mp (List.all_eq_true.mp h y hy) c hc)
theorem cut_take (zs : List Str) (m : Nat) : cutV (zs.map V.str) none (some (m : Int)) = (zs.take m).map V.str := by
  unfold cutV
  rw [HT.sIx_none, HT.sIx_nat]
  rw [List.drop_zero, Nat.sub_zero, List.length_map, ← List.map_take]
  by_cases h : m ≤ zs.length
  · rw [Nat.min_eq_left h]
  · rw [Nat.min_eq_right (by omega), List.take_of_length_le (Nat.le_refl _), List.take_of_length_le (by omega)]
/-- names(dice, many): so many different names of the pool, a new list -/
def spNms : Sp := fun vs H Q _ => ∃ (d : Addr) (m : Nat), vs = [.ref d, .int m] ∧ Dice H d ∧ m ≤ 10 ∧
  ∀ (p : Addr) (zs : List Str) (H' : Hp), Past d H H' → H p = none → p ≠ d → H' p = some (.lst (zs.map V.str)) → zs.length = m → zs.Nodup → (∀ z ∈ zs, z ∈ pool) → Q (.ref p) H'
theorem ok_l_names (D : Df K mg "_law_names" s_l_names ["_law_dice_here", "_law_many"]) (G_l_mixed : Cg P w K mg base 2 "_law_mixed" (spMixed K)) : Cg P w K mg base 3 "_law_names" spNms := by
  refine D.ok sc_l_names (fun vs H Q E h => ?_) (fun cdv A outer s H vs Q E f hc hr h => ?_)
  · obtain ⟨d, m, rfl, _⟩ := h
    rfl
  · obtain ⟨d, m, rfl, hd, hm, q⟩ := h
    refine ⟨_, (pss_cons (ps_set (i := 2) sc_l_names.nd rfl (Or.inl rfl) (pe_lst (pa_cons pe_str (pa_cons pe_str (pa_cons pe_str (pa_cons pe_str (pa_cons pe_str (pa_cons pe_str (pa_cons pe_str (pa_cons pe_str (pa_cons pe_str (pa_cons pe_str pa_nil))))))))))))
      (pss_one (ps_ret (pe_slice sl_list (pe_cg G_l_mixed hc hr (by rfl) (pa_cons (pv 0) (pa_cons (pv 2) pa_nil))) po_none (po_some (pv 1)))))), ?_⟩
    refine ⟨by show 10 ≤ sizeLine; decide, fun l nl => ⟨_, rfl, ?_⟩⟩
    have ll : l ≠ d := hd.ne nl
    refine ⟨_, rfl, d, l, pool, rfl, (Past.new hd nl).dice, .inl (.inl upd_same), pool_asc, by decide +kernel, fun p zs H1 p1 np pd e pm => ⟨_, rfl, _, rfl, ?_⟩⟩
    have p01 := (Past.new (o := .lst (pool.map V.str)) hd nl).trans p1
    have len : zs.length = 10 := pm.length_eq
    refine ⟨p, _, rfl, .inl (.inl e), fun t nt => ?_⟩
    rw [cut_take]
    have tn : H t = none := by
      cases z : H t with
      | none => rfl
      | some o =>
        have td : t ≠ d := p1.dice.ne nt
        rw [p01.keep td z] at nt
        cases nt
    refine q t (zs.take m) _ (p01.trans (Past.new p1.dice nt)) tn (p1.dice.ne nt) upd_same (by rw [List.length_take]; omega) ?_ fun z hz => ?_
    · exact ((List.Perm.nodup_iff pm).mpr pool_nodup).sublist (List.take_sublist _ _)
    · exact pm.mem_iff.mp (List.mem_of_mem_take hz)
end
end K12
set_option Elab.async false
set_option linter.all false
set_option autoImplicit false
set_option maxRecDepth 100000
set_option maxHeartbeats 4000000
/-! Zt: what stays while dice, lists and dicts change: tuples; small helps. -/
namespace Zt
open PySem PySem.Spec PyProof.Rows L2 Vb Wd
/-- all tuples stay -/
def Tups (H H' : Hp) : Prop := ∀ b xs, H b = some (.tup xs) → H' b = some (.tup xs)
theorem Tups.refl (H : Hp) : Tups H H := fun _ _ e => e
theorem Tups.trans {H H1 H2 : Hp} (s : Tups H H1) (t : Tups H1 H2) : Tups H H2 := fun b xs e => t b xs (s b xs e)
theorem Tups.of {H H1 : Hp} (s : Same H H1) : Tups H H1 := fun b xs e => s b _ e
theorem Tups.past {d : Addr} {H H1 : Hp} (hd : Dice H d) (p : Past d H H1) : Tups H H1 := fun b xs e => p.1 b _ (fun z => by
  obtain ⟨g, s, c, q⟩ := hd
  rw [z, q] at e
  cases e) e
theorem Tups.put {H : Hp} {a : Addr} (o : HO) (n : ∀ xs, H a ≠ some (.tup xs)) : Tups H (upd H a o) := fun b xs e => by
  have ne : b ≠ a := fun z => by
    rw [z] at e
    exact n xs e
  rw [upd_ne ne]
  exact e
theorem Tups.putL {H : Hp} {a : Addr} {ys : List V} (o : HO) (h : H a = some (.lst ys)) : Tups H (upd H a o) := Tups.put o fun xs e => by
  rw [h] at e
  cases e
theorem Tups.putD {H : Hp} {a : Addr} {kvs : List (L2.Key × V)} (o : HO) (h : H a = some (.dK kvs)) : Tups H (upd H a o) := Tups.put o fun xs e => by
  rw [h] at e
  cases e
theorem Tups.new {H : Hp} {a : Addr} (o : HO) (h : H a = none) : Tups H (upd H a o) := Tups.put o fun xs e => by
  rw [h] at e
  cases e
/-- a new thing changes, the dice roll -/
theorem past_put {d D : Addr} {H H' : Hp} {o : HO} (nD : H D = none) (ne : D ≠ d) (p : Past d H H') : Past d H (upd H' D o) := by
  obtain ⟨k, g, s, c, q⟩ := p
  refine ⟨fun b x n e => ?_, g, s, c, ?_⟩
  · rw [upd_ne (ne_of_none e nD)]
    exact k b x n e
  · rw [upd_ne ne.symm]
    exact q
theorem nat_of {r : Int} (h : 0 ≤ r) : ∃ k : Nat, r = k := ⟨r.toNat, (Int.toNat_of_nonneg h).symm⟩
theorem fresh_of {d p : Addr} {H H' : Hp} (q : Past d H H') (n : H' p = none) (ne : p ≠ d) : H p = none := by
  cases z : H p with
  | none => rfl
  | some o =>
    rw [q.1 _ _ ne z] at n
    cases n
theorem units65 {k : Nat} {A : Around} (r : Room k A) : A.units + 65 < cLine := by
  have := r.un
  omega
theorem ne_dice {d a : Addr} {H : Hp} {o : HO} (hd : Dice H d) (e : H a = some o) (n : ∀ g s c, o ≠ dz g s c) : a ≠ d := fun z => by
  obtain ⟨g, s, c, q⟩ := hd
  rw [z, q] at e
  cases e
  exact n g s c rfl
/-- a new thing, by a name for the heap -/
theorem opened {d p : Addr} {H : Hp} (hd : Dice H d) (np : H p = none) (o : HO) : ∃ H1, upd H p o = H1 ∧ Past d H H1 ∧ H1 p = some o ∧ p ≠ d := ⟨_, rfl, Past.new hd np, upd_same, hd.ne np⟩
/-- a statement that leads on in more than one way -/
theorem seq_join {s u : TS} {D : Ends} {σ : L2.St} {H : Hp} (I : L2.St → Hp → Prop) (hs : ∀ nx : L2.St → Hp → Prop, (∀ σ H, I σ H → nx σ H) → s { D with nx := nx } σ H) (hu : ∀ σ H, I σ H → u D σ H) : tSeq s u D σ H := hs _ hu
/-- .. right behind a name was given a value -/
theorem name_join {s u : TS} {D : Ends} {σ : L2.St} {H : Hp} {i : Nat} {x : V} (I : L2.St → Hp → Prop) (hs : ∀ nx : L2.St → Hp → Prop, (∀ σ H, I σ H → nx σ H) → s { D with nx := nx } (σ.set i (some x)) H) (hu : ∀ σ H, I σ H → u D σ H) {rt : VK} {bk ct : L2.St → Hp → Prop} : gName i x σ H (Ends.mk (tSeq s u D) rt bk ct).nx := hs _ hu
/-! ### data that can be compared -/
def Lays (n : Nat) (d : PyData) : Prop := d.canLay0 = true ∧ d.depth ≤ n
theorem Lays.le {n m : Nat} {d : PyData} (h : Lays n d) (l : n ≤ m) : Lays m d := ⟨h.1, Nat.le_trans h.2 l⟩
theorem lays_str {z : Str} (a : Asc z) : Lays 0 (.str z) := ⟨by
  show z.cps.all (· < 0x110000) = true
  rw [← Array.all_toList, List.all_eq_true]
  exact fun c hc => decide_eq_true (Nat.lt_trans (a c hc) (by decide)), Nat.le_refl _⟩
theorem lays_int (i : Int) : Lays 0 (.int i) := ⟨rfl, Nat.le_refl _⟩
theorem lays_all {n : Nat} : ∀ {ds : List PyData}, (∀ d ∈ ds, Lays n d) → PyData.canLayAll0 ds = true ∧ PyData.depthAll ds ≤ n
  | [], _ => ⟨rfl, Nat.zero_le _⟩
  | d :: ds, h => by
    obtain ⟨h1, h2⟩ := h d List.mem_cons_self
    obtain ⟨h3, h4⟩ := lays_all fun x hx => h x (List.mem_cons_of_mem _ hx)
    refine ⟨?_, ?_⟩
    · show (PyData.canLay0 d && PyData.canLayAll0 ds) = true
      rw [h1, h3]
      rfl
    · show max (PyData.depth d) (PyData.depthAll ds) ≤ n
      omega
theorem lays_tup {n : Nat} {ds : List PyData} (h : ∀ d ∈ ds, Lays n d) : Lays (n + 1) (.tuple ds) := ⟨(lays_all h).1, Nat.succ_le_succ (lays_all h).2⟩
theorem lays_lst {n : Nat} {ds : List PyData} (h : ∀ d ∈ ds, Lays n d) : Lays (n + 1) (.list ds) := ⟨(lays_all h).1, Nat.succ_le_succ (lays_all h).2⟩
theorem Lays.shaped {n : Nat} {d : PyData} (h : Lays n d) (l : n ≤ 64) : SeqAt.shaped d = true := by
  show (PyData.canLay0 d && decide (PyData.depth d ≤ 64)) = true
  rw [h.1, Bool.true_and]
  exact decide_eq_true (Nat.le_trans h.2 l)
/-- one of some small numbers -/
theorem pick_nat {xs : List Int} {lo hi : Nat} (h : (xs.all fun x => decide ((lo : Int) ≤ x) && decide (x ≤ (hi : Int))) = true) : ∀ v ∈ xs.map V.int, ∃ m : Nat, v = .int m ∧ lo ≤ m ∧ m ≤ hi := fun v hv => by
  obtain ⟨x, hx, rfl⟩ := List.mem_map.mp hv
  have q := List.all_eq_true.mp h x hx
  rw [Bool.and_eq_true, decide_eq_true_eq, decide_eq_true_eq] at q
  obtain ⟨m, rfl⟩ := nat_of (r := x) (by omega)
  exact ⟨m, rfl, by omega, by omega⟩
end Zt
set_option Elab.async false
set_option linter.all false
set_option autoImplicit false
set_option maxRecDepth 100000
set_option maxHeartbeats 8000000
namespace K12
open PySem PySem.Spec PyProof.Rows L2 Vb Wd Xd Xo Ts K01 Zt
abbrev s_l_scheme : Stmt := topS 53
abbrev nS : List Str := ["_law_dice_here", "_law_sorts", "_law_forms", "_law_names_here", "_law_name", "_law_tops", "_law_called", "_law_table", "_law_done", "_law_many", "_law_level", "_law_levels", "_law_form", "_law_turn", "_law_step"]
theorem sc_l_scheme : FnScope nS ["_law_dice_here", "_law_sorts", "_law_forms"] (defScope s_l_scheme) := ⟨rfl, rfl, rfl, by decide +kernel, rfl, by decide +kernel, by decide +kernel⟩
theorem Kid.tups {H H' : Hp} {t : Addr} {n : Str} {s : Int} (b : Tups H H') (k : Kid H t n s) : Kid H' t n s := ⟨b _ _ k.at_, k.nam, k.plain, k.lo, k.hi⟩
theorem Kids.tups {H H' : Hp} {c : Addr} {ts : List Addr} {cs : List (Str × Int)} (b : Tups H H') (k : Kids H c ts cs) : Kids H' c ts cs := ⟨b _ _ k.at_, k.len, k.lo, k.hi, fun i t c' h1 h2 => (k.kid i t c' h1 h2).tups b⟩
/-- the row of a form: a tuple of its sort and its children -/
def RowAt (H : Hp) (q : Addr) (d : FD) : Prop := ∃ (ch : Addr) (ks : List Addr), H q = some (.tup [.str d.2.1, .ref ch]) ∧ Kids H ch ks d.2.2
theorem RowAt.tups {H H' : Hp} {q : Addr} {d : FD} (b : Tups H H') (r : RowAt H q d) : RowAt H' q d := by
  obtain ⟨ch, ks, e, k⟩ := r
  exact ⟨ch, ks, b _ _ e, k.tups b⟩
/-- the words of a scheme as the law draws it: sorts of zs, forms called by names of the pool -/
structure Fit (b : Str) (ts : List Str) (rows : List FD) : Prop where
  ex : ∃ zs : List Str, zs.Nodup ∧ zs.length ≤ 6 ∧ (∀ z ∈ zs, z ∈ pool) ∧ (∀ y ∈ ts, y ∈ zs) ∧ ∀ r ∈ rows, ∀ y ∈ saidBy r, y ∈ zs
  bt : b ∈ ts
  srt : sortedS ts = true
  nd : ts.Nodup
  once : (rows.map (·.1)).Nodup
  named : ∀ r ∈ rows, r.1 ∈ pool
  some_ : 1 ≤ rows.length
  kinds : (rows.map (·.2)).Nodup
/-- such a scheme as the law holds it -/
structure Held (H : Hp) (a tl tb : Addr) (b : Str) (ts : List Str) (ps : List (FD × Addr)) : Prop where
  at_ : H a = some (.lst [.str b, .ref tl, .ref tb])
  tops : H tl = some (.lst (ts.map V.str))
  dict : H tb = some (.dK (kvsP ps))
  row : ∀ p ∈ ps, RowAt H p.2 p.1
def spLS : Sp := fun vs H Q _ => ∃ (d : Addr) (so fo : Nat), vs = [.ref d, .int so, .int fo] ∧ Dice H d ∧ 1 ≤ so ∧ so ≤ 6 ∧ 1 ≤ fo ∧ fo ≤ 10 ∧
  ∀ (p tl tb : Addr) (b : Str) (ts : List Str) (ps : List (FD × Addr)) (H' : Hp), Past d H H' → H p = none → p ≠ d → Held H' p tl tb b ts ps → Fit b ts (ps.map (·.1)) → ps.length ≤ fo → Q (.ref p) H'
theorem cut1 {α : Type} (f : α → V) (ws : List α) : cutV (ws.map f) (some 1) none = (ws.drop 1).map f := by
  unfold cutV
  have e : HT.sIx (ws.map f).length 0 (some 1) = min 1 (ws.map f).length := HT.sIx_nat _ _ 1
  rw [e, HT.sIx_none, List.length_map]
  by_cases h : ws.length ≤ 1
  · rw [Nat.min_eq_right h, List.drop_of_length_le (by rw [List.length_map]; exact Nat.le_refl _), List.drop_of_length_le h, List.take_nil]
    rfl
  · rw [Nat.min_eq_left (by omega), List.take_of_length_le (by rw [List.length_drop, List.length_map]; exact Nat.le_refl _), List.map_drop]
theorem cut01 (ws : List Str) : cutV (ws.map V.str) none (some 1) = (ws.take 1).map V.str := cut_take ws 1
theorem eqv_kinds (d e : Str × List (Str × Int)) : PyData.eqv (kindK d).data (kindK e).data = decide (d = e) := by
  rw [kind_data, kind_data]
  show (PyData.eqv (.str d.1) (.str e.1) && (PyData.eqvAll (d.2.map kidD) (e.2.map kidD) && true)) = _
  rw [eqv_kids, Bool.and_true]
  obtain ⟨a, cs⟩ := d
  obtain ⟨b, ds⟩ := e
  by_cases h1 : a = b <;> by_cases h2 : cs = ds <;> simp [PyData.eqv, h1, h2]
theorem lays_kid {c : Str × Int} (a : Asc c.1) : Lays 1 (kidD c) := lays_tup fun d hd => by
  rcases List.mem_cons.mp hd with rfl | hd
  · exact lays_str a
  · cases List.mem_singleton.mp hd
    exact lays_int _
theorem lays_kind {d : Str × List (Str × Int)} (a : Asc d.1) (b : ∀ c ∈ d.2, Asc c.1) : Lays 3 (kindK d).data := by
  rw [kind_data]
  refine lays_tup fun x hx => ?_
  rcases List.mem_cons.mp hx with rfl | hx
  · exact (lays_str a).le (by decide)
  · cases List.mem_singleton.mp hx
    refine lays_tup fun y hy => ?_
    obtain ⟨c, hc, rfl⟩ := List.mem_map.mp hy
    exact lays_kid (b c hc)
theorem RowAt.dp {K : PySem.W.Frag} {H : Hp} {q : Addr} {d : FD} (r : RowAt H q d) : Dp K H (.ref q) (kindK d.2).data := by
  obtain ⟨ch, ks, e, k⟩ := r
  rw [kind_data]
  exact .tup (.inl (.inl e)) (.cons (.str _) (.cons k.dp .nil))
theorem rows_dp {K : PySem.W.Frag} {H : Hp} : ∀ {ps : List (FD × Addr)}, (∀ p ∈ ps, RowAt H p.2 p.1) → DpAll K H (ps.map fun p => V.ref p.2) (ps.map fun p => (kindK p.1.2).data)
  | [], _ => .nil
  | p :: ps, h => .cons (h p List.mem_cons_self).dp (rows_dp fun q hq => h q (List.mem_cons_of_mem _ hq))
theorem Kids.asc {H : Hp} {a : Addr} {ts : List Addr} {cs : List (Str × Int)} (k : Kids H a ts cs) : ∀ c ∈ cs, Asc c.1 := fun c hc => by
  obtain ⟨i, hi, e⟩ := List.mem_iff_getElem.mp hc
  have ti : i < ts.length := by rw [k.len]; exact hi
  exact (k.kid i ts[i] c (List.getElem?_eq_getElem ti) (by rw [List.getElem?_eq_getElem hi, e])).plain.2
theorem pool_nam : ∀ y ∈ pool, isNam (.str y) = true := by
  intro y hy
  have : pool.all (fun y => isNam (.str y)) = true := by decide +kernel
  exact List.all_eq_true.mp this y hy
section
variable {P : Program} {w : World} {K : PySem.W.Frag} {mg : Str → Option Value} {base : Heap}
theorem ok_l_scheme (D : Df K mg "_law_scheme" s_l_scheme ["_law_dice_here", "_law_sorts", "_law_forms"]) (G_l_roll : Cg P w K mg base 1 "_law_roll" spRoll) (G_l_pick : Cg P w K mg base 2 "_law_pick" (spPick K)) (G_l_names : Cg P w K mg base 3 "_law_names" spNms)
    (z_sorted : mg "sorted" = none) (z_range : mg "range" = none) (z_tuple : mg "tuple" = none) : Cg P w K mg base 4 "_law_scheme" spLS := by
  refine D.ok sc_l_scheme (fun vs H Q E h => ?_) (fun cdv A outer s H vs Q E f hc hr h => ?_)
  · obtain ⟨d, so, fo, rfl, _⟩ := h
    rfl
  · obtain ⟨d, so, fo, rfl, hd, so1, so8, fo1, fo10, q⟩ := h
    refine ⟨_, (pss_cons (ps_set (i := 3) sc_l_scheme.nd rfl (Or.inr rfl) (pe_cg G_l_names hc hr (by rfl) (pa_cons (pv 0) (pa_cons (pe_op op_add pe_int (pe_cg G_l_roll hc hr (by rfl) (pa_cons (pv 0) (pa_cons (pv 1) pa_nil)))) pa_nil))))
      (pss_cons (ps_set (i := 5) sc_l_scheme.nd rfl (Or.inl rfl) (pe_callB cr_sortedS (by rfl) z_sorted (by decide +kernel) (pa_cons (pe_op op_cat (pe_slice sl_list (pv 3) po_none (po_some pe_int)) (pe_lc (own := [("_law_name", 4)]) (g := gName 4) (by rfl) sc_l_scheme.nd (pi_list (pe_slice sl_list (pv 3) (po_some pe_int) po_none)) (blkOk_by (own := [("_law_name", 4)]) (N := nS) (sc := defScope s_l_scheme) (by decide +kernel)) (fun _ _ _ _ _ => pg_name (i := 4) sc_l_scheme.nd rfl (Or.inl rfl))
        (fun _ _ _ _ _ => (pts_one (pt_cmpR op_eq (pe_cg G_l_roll hc hr (by rfl) (pa_cons (pv 0) (pa_cons pe_int pa_nil))) pe_int (nomark _)))) (fun _ _ _ _ _ => (pv 4)))) pa_nil)))
      (pss_cons (ps_set (i := 6) sc_l_scheme.nd rfl (Or.inl rfl) (pe_cg G_l_names hc hr (by rfl) (pa_cons (pv 0) (pa_cons (pe_op op_add pe_int (pe_cg G_l_roll hc hr (by rfl) (pa_cons (pv 0) (pa_cons (pv 2) pa_nil)))) pa_nil))))
      (pss_cons (ps_par (i := 7) (j := 8) (by rfl) sc_l_scheme.nd rfl rfl (by decide) rfl rfl (pa_cons pe_dnewK (pa_cons (pe_lst pa_nil) pa_nil)) (by rfl))
      (pss_cons (ps_for PassesOwn.never rfl (pi_list (pv 6)) (pg_name (i := 4) sc_l_scheme.nd rfl (Or.inl rfl))
      (pss_cons (ps_set (i := 9) sc_l_scheme.nd rfl (Or.inl rfl) (pe_cg G_l_pick hc hr (by rfl) (pa_cons (pv 0) (pa_cons (pe_lst (pa_cons pe_int (pa_cons pe_int (pa_cons pe_int (pa_cons pe_int (pa_cons pe_int (pa_cons pe_int pa_nil))))))) pa_nil))))
      (pss_cons (ps_set (i := 10) sc_l_scheme.nd rfl (Or.inl rfl) (pe_cg G_l_pick hc hr (by rfl) (pa_cons (pv 0) (pa_cons (pe_lst (pa_cons pe_int (pa_cons pe_int (pa_cons pe_int (pa_cons pe_int (pa_cons pe_int (pa_cons pe_int (pa_cons pe_int (pa_cons pe_int pa_nil))))))))) pa_nil))))
      (pss_cons (ps_set (i := 11) sc_l_scheme.nd rfl (Or.inl rfl) (pe_op op_rep (pe_lst (pa_cons (pv 10) pa_nil)) (pv 9)))
      (pss_cons (ps_if (pt_cmpR op_eq (pe_cg G_l_roll hc hr (by rfl) (pa_cons (pv 0) (pa_cons pe_int pa_nil))) pe_int (nomark _))
      (pss_one (ps_setLc (i := 11) (own := [("_law_turn", 13)]) (g := gName 13) (by rfl) sc_l_scheme.nd rfl rfl (sw_true rfl rfl rfl (by decide +kernel)) (pi_range1 (by rfl) z_range (pa_cons (pv 9) pa_nil)) (blkOk_by (own := [("_law_turn", 13)]) (N := nS) (sc := defScope s_l_scheme) (by decide +kernel)) (fun _ _ _ _ _ => pg_name (i := 13) sc_l_scheme.nd rfl (Or.inl rfl)) (fun _ _ _ _ _ => pts_nil)
        (fun _ _ _ _ _ => (pe_cg G_l_pick hc hr (by rfl) (pa_cons (pv 0) (pa_cons (pe_lst (pa_cons pe_int (pa_cons pe_int (pa_cons pe_int (pa_cons pe_int (pa_cons pe_int pa_nil)))))) pa_nil))))))
      pss_nil)
      (pss_cons (ps_set (i := 12) sc_l_scheme.nd rfl (Or.inl rfl) (pe_tup (pa_cons (pe_cg G_l_pick hc hr (by rfl) (pa_cons (pv 0) (pa_cons (pv 3) pa_nil))) (pa_cons (pe_callTy (cr_tuple : CallR _ _ (rTup K)) (by rfl) z_tuple (by decide +kernel) (pa_cons (pe_lc (own := [("_law_step", 14)]) (g := gName 14) (by rfl) sc_l_scheme.nd (pi_list (pv 11)) (blkOk_by (own := [("_law_step", 14)]) (N := nS) (sc := defScope s_l_scheme) (by decide +kernel)) (fun _ _ _ _ _ => pg_name (i := 14) sc_l_scheme.nd rfl (Or.inl rfl)) (fun _ _ _ _ _ => pts_nil)
        (fun _ _ _ _ _ => (pe_tup (pa_cons (pe_cg G_l_pick hc hr (by rfl) (pa_cons (pv 0) (pa_cons (pv 3) pa_nil))) (pa_cons (pv 14) pa_nil))))) pa_nil)) pa_nil))))
      (pss_one (ps_if (pt_cmpR (op_notInD (units65 hr)) (pv 12) (pv 8) (by rfl))
      (pss_cons (ps_expr (pe_bm PySem.F.plainAttrs_list PySem.F.slot_list_append PySem.F.type_list_append mt_append (pv 8) (pa_cons (pv 12) pa_nil)))
      (pss_one (ps_dput (hu_of hr) (pv 7) (pv 4) (pv 12) (by rfl))))
      pss_nil))))))))
      (pss_one (ps_ret (pe_lst (pa_cons (pe_ix (ix_list : IxR _ (rIxL K)) (pv 3) pe_int (fun _ _ => rfl)) (pa_cons (pv 5) (pa_cons (pv 7) pa_nil))))))))))), ?_⟩
    have big : ∀ {n : Nat}, n ≤ 200 → n < sizeLine := fun h => Nat.lt_of_le_of_lt h (by decide)
    have dice : ∀ {H' : Hp}, Past d H H' → Dice H' d := fun p => p.2
    refine ⟨_, rfl, _, rfl, _, rfl, d, so, rfl, hd, by omega, small8000 (by omega), fun r H1 p1 r0 r1 => ?_⟩
    obtain ⟨k1, rfl⟩ := nat_of r0
    refine ⟨_, _, rfl, rfl, d, 1 + k1, rfl, p1.2, by omega, fun a1 zs H2 p2 n2 d2 e2 zl znd zp => ?_⟩
    have p02 := p1.trans p2
    have hd2 := p02.2
    obtain ⟨z0, zt, rfl⟩ : ∃ z0 zt, zs = z0 :: zt := by
      cases zs with
      | nil => simp at zl; omega
      | cons z0 zt => exact ⟨z0, zt, rfl⟩
    -- the tops
    refine ⟨_, rfl, _, rfl, a1, _, rfl, .inl (.inl e2), fun l1 nl1 => ?_⟩
    rw [cut01]
    obtain ⟨H3, eH3, p3, e3, d3⟩ := opened hd2 nl1 (.lst (((z0 :: zt).take 1).map V.str))
    rw [eH3]
    refine ⟨_, rfl, _, rfl, a1, _, rfl, .inl (.inl (p3.1 _ _ d2 e2)), fun l2 nl2 => ?_⟩
    rw [cut1]
    obtain ⟨H4, eH4, p4, e4, d4⟩ := opened p3.2 nl2 (.lst (((z0 :: zt).drop 1).map V.str))
    rw [eH4]
    have zpool : ∀ z ∈ z0 :: zt, z ∈ pool := zp
    refine ⟨l2, rfl, ⟨_, .inl (.inl e4)⟩, fun D nD => ?_⟩
    have dD := p4.2.ne nD
    refine lc_list (K := K) (a := l2) (xs := zt.map V.str) (fun i H' => Past d H4 H' ∧ ∃ ws : List Str, H' D = some (.lst (ws.map V.str)) ∧ ws.Sublist (zt.take i)) ⟨past_put nD dD (Past.refl p4.2), [], upd_same, List.Sublist.refl _⟩ (fun i H' _ h => h.1.seq d4 (.inl (.inl e4))) (fun i x H5 hx h => ?_) (fun H5 h => ?_)
    · obtain ⟨p5, ws, e5, sub⟩ := h
      rw [List.getElem?_map] at hx
      obtain ⟨z, hz, rfl⟩ := Option.map_eq_some_iff.mp hx
      refine ⟨rfl, _, rfl, d, 3, rfl, p5.2, by decide, by decide +kernel, fun r H6 p6 r0 r1 => ⟨rfl, _, rfl, ?_⟩⟩
      have tk : zt.take (i + 1) = zt.take i ++ [z] := by
        rw [List.take_add_one, hz]
        rfl
      have e6 := p6.1 _ _ dD e5
      refine ite2 (fun _ => ⟨_, rfl, _, e6, ?_, past_put nD dD (p5.trans p6), ws ++ [z], ?_, ?_⟩) (fun _ => ⟨p5.trans p6, ws, e6, ?_⟩)
      · rw [List.length_map]
        have := sub.length_le
        rw [List.length_take] at this
        have := zt.length
        simp only [List.length_cons] at zl
        exact big (by omega)
      · rw [upd_same, List.map_append]
        rfl
      · rw [tk]
        exact sub.append (List.Sublist.refl _)
      · rw [tk]
        exact sub.trans (List.sublist_append_left _ _)
    · obtain ⟨p5, ws, e5, sub⟩ := h
      rw [List.length_map, List.take_of_length_le (Nat.le_refl _)] at sub
      simp only [List.length_cons] at zl
      have wl := sub.length_le
      have e3' := (p4.trans p5).1 _ _ d3 e3
      refine ⟨l1, D, _, _, rfl, rfl, e3', e5, by simp only [List.length_map, List.length_take, List.length_cons]; exact Nat.le_of_lt (big (by omega)), fun l3 nl3 => ?_⟩
      obtain ⟨H6, eH6, p6, e6, d6⟩ := opened p5.2 nl3 (.lst ((((z0 :: zt).take 1).map V.str) ++ ws.map V.str))
      rw [eH6]
      have e6' : H6 l3 = some (.lst ((z0 :: ws).map V.str)) := e6
      refine ⟨l3, z0 :: ws, rfl, .inl (.inl e6'), by simp only [List.length_cons]; omega, fun ts tl pm srt ntl => ?_⟩
      obtain ⟨H7, eH7, p7, e7, d7⟩ := opened p6.2 ntl (.lst (ts.map V.str))
      rw [eH7]
      -- the names of the forms
      refine ⟨_, rfl, _, rfl, _, rfl, d, fo, rfl, p7.2, by omega, small8000 (by omega), fun r H8 p8 r0 r1 => ?_⟩
      obtain ⟨k2, rfl⟩ := nat_of r0
      refine ⟨_, _, rfl, rfl, d, 1 + k2, rfl, p8.2, by omega, fun cl cs H9 p9 n9 d9 e9 cl9 cnd cp => ?_⟩
      refine fun tb ntb => ?_
      obtain ⟨H10, eH10, p10, e10, d10⟩ := opened p9.2 ntb (.dK [])
      rw [eH10]
      refine ⟨by show 0 ≤ sizeLine; decide, fun dn ndn => ?_⟩
      obtain ⟨H11, eH11, p11, e11, d11⟩ := opened p10.2 ndn (.lst [])
      rw [eH11]
      have ndn9 : H9 dn = none := fresh_of p10 ndn d11
      have tdn : tb ≠ dn := ne_of_none e10 ndn
      have a9 : H9 a1 = some (.lst ((z0 :: zt).map V.str)) := ((((((p3.trans p4).trans p5).trans p6).trans p7).trans p8).trans p9).1 _ _ d2 e2
      have t9 : H9 tl = some (.lst (ts.map V.str)) := (p8.trans p9).1 _ _ d7 e7
      have cp' : ∀ y ∈ cs, y ∈ pool := cp
      refine ⟨_, _, rfl, _, rfl, cl, rfl, ⟨_, .inl (.inl ((p10.trans p11).1 _ _ d9 e9))⟩, for_list (K := K) (a := cl) (xs := cs.map V.str) (fun i σ H' => (∃ o4 o9 o10 o11 o12 o13 o14, σ = [some (.ref d), some (.int so), some (.int fo), some (.ref a1), o4, some (.ref tl), some (.ref cl), some (.ref tb), some (.ref dn), o9, o10, o11, o12, o13, o14]) ∧
          ∃ ps : List (FD × Addr), Past d H9 H' ∧ H' tb = some (.dK (kvsP ps)) ∧ H' dn = some (.lst (ps.map fun p => V.ref p.2)) ∧ (∀ p ∈ ps, RowAt H' p.2 p.1) ∧ (ps.map (·.1.1)).Sublist (cs.take i) ∧ (ps.map (·.1.2)).Nodup ∧ (∀ p ∈ ps, ∀ y ∈ saidBy p.1, y ∈ z0 :: zt) ∧ (1 ≤ i → ps ≠ []))
        ⟨⟨none, none, none, none, none, none, none, rfl⟩, [], p10.trans p11, p11.1 _ _ d10 e10, e11, (fun p h => nomatch h), List.nil_sublist _, List.nodup_nil, (fun p h => nomatch h), (fun h => absurd h (by decide))⟩ (fun i σ H' _ h => ?_) (fun i x σ H12 hx h => ?_) (fun σ H12 h => ?_)⟩
      · obtain ⟨_, ps, p12, _⟩ := h
        exact p12.seq d9 (.inl (.inl e9))
      · obtain ⟨⟨o4, o9, o10, o11, o12, o13, o14, rfl⟩, ps, p12, tb12, dn12, row12, sub12, kin12, said12, some12⟩ := h
        rw [List.getElem?_map] at hx
        obtain ⟨c, hc', rfl⟩ := Option.map_eq_some_iff.mp hx
        have a12 := p12.1 _ _ d2 a9
        -- how many children, on what level
        refine ⟨_, rfl, by show 6 ≤ sizeLine; decide, fun l20 n20 => ?_⟩
        obtain ⟨H13, eH13, p13, e13, d13⟩ := opened p12.2 n20 (.lst (([2, 2, 2, 3, 3, 4] : List Int).map V.int))
        rw [show upd H12 l20 (.lst [.int 2, .int 2, .int 2, .int 3, .int 3, .int 4]) = H13 from eH13]
        refine ⟨d, .ref l20, (fun v => ∃ m : Nat, v = .int m ∧ 2 ≤ m ∧ m ≤ 4), rfl, p13.2, .inl ⟨l20, _, rfl, d13, .inl (.inl (.inl e13)), by simp, by decide, pick_nat (by decide)⟩, fun v H14 p14 hv => ?_⟩
        obtain ⟨m, rfl, m2, m4⟩ := hv
        refine ⟨_, rfl, by show 8 ≤ sizeLine; decide, fun l21 n21 => ?_⟩
        obtain ⟨H15, eH15, p15, e15, d15⟩ := opened p14.2 n21 (.lst (([1, 1, 1, 1, 2, 2, 3, 0] : List Int).map V.int))
        rw [show upd H14 l21 (.lst [.int 1, .int 1, .int 1, .int 1, .int 2, .int 2, .int 3, .int 0]) = H15 from eH15]
        refine ⟨d, .ref l21, (fun v => ∃ m : Nat, v = .int m ∧ 0 ≤ m ∧ m ≤ 3), rfl, p15.2, .inl ⟨l21, _, rfl, d15, .inl (.inl (.inl e15)), by simp, by decide, pick_nat (by decide)⟩, fun v H16 p16 hv => ?_⟩
        obtain ⟨lv0, rfl, _, lv3⟩ := hv
        refine ⟨_, rfl, by show 1 ≤ sizeLine; decide, fun l22 n22 => ?_⟩
        obtain ⟨H17, eH17, p17, e17, d17⟩ := opened p16.2 n22 (.lst [.int lv0])
        rw [eH17]
        refine ⟨_, rfl, l22, m, _, rfl, rfl, e17, by omega, by omega, by show 1 * (m : Int).toNat ≤ sizeLine; exact Nat.le_of_lt (big (by omega)), fun l23 n23 => ?_⟩
        obtain ⟨H18, eH18, p18, e18, d18⟩ := opened p17.2 n23 (.lst (List.replicate (m : Int).toNat [V.int lv0]).flatten)
        rw [eH18]
        have fl : (List.replicate (m : Int).toNat [V.int lv0]).flatten = (List.replicate m lv0).map fun (k : Nat) => V.int k := by
          rw [Int.toNat_natCast, List.map_replicate]
          exact List.flatten_replicate_singleton
        rw [fl] at e18
        have p1218 := ((((p13.trans p14).trans p15).trans p16).trans p17).trans p18
        -- the steps
        refine name_join (fun σ H' => ∃ (o13 : Option V) (lv : Addr) (ks : List Nat), σ = [some (.ref d), some (.int so), some (.int fo), some (.ref a1), some (.str c), some (.ref tl), some (.ref cl), some (.ref tb), some (.ref dn), some (.int m), some (.int lv0), some (.ref lv), o12, o13, o14] ∧ Past d H12 H' ∧ lv ≠ d ∧ H' lv = some (.lst (ks.map fun (k : Nat) => V.int k)) ∧ ks.length = m ∧ ∀ k ∈ ks, k ≤ 3) (fun nx hnx => ?_) (fun σ H19 h => ?_)
        · refine ⟨_, rfl, d, 2, rfl, p18.2, by decide, by decide +kernel, fun r H19 p19 r0 r1 => ⟨rfl, _, rfl, ite2 (fun _ => ?_) (fun _ => ?_)⟩⟩
          · refine ⟨_, rfl, m, rfl, by omega, by omega, fun D nD => ?_⟩
            have dD := p19.2.ne nD
            refine lc_range (n := ((m : Int)).toNat) (lo := 0) (fun i H' => Past d H19 H' ∧ ∃ ks : List Nat, H' D = some (.lst (ks.map fun (k : Nat) => V.int k)) ∧ ks.length = i ∧ ∀ k ∈ ks, k ≤ 3) ⟨past_put nD dD (Past.refl p19.2), [], upd_same, rfl, (fun k h => nomatch h)⟩ (fun i H20 hi h => ?_) (fun H20 h => ?_)
            · obtain ⟨p20, ks, e20, kl, k3⟩ := h
              refine ⟨rfl, _, rfl, by show 5 ≤ sizeLine; decide, fun l24 n24 => ?_⟩
              obtain ⟨H21, eH21, p21, e21, d21⟩ := opened p20.2 n24 (.lst (([1, 1, 2, 0, 3] : List Int).map V.int))
              rw [show upd H20 l24 (.lst [.int 1, .int 1, .int 2, .int 0, .int 3]) = H21 from eH21]
              refine ⟨d, .ref l24, (fun v => ∃ m : Nat, v = .int m ∧ 0 ≤ m ∧ m ≤ 3), rfl, p21.2, .inl ⟨l24, _, rfl, d21, .inl (.inl (.inl e21)), by simp, by decide, pick_nat (by decide)⟩, fun v H22 p22 hv => ?_⟩
              obtain ⟨k, rfl, _, hk⟩ := hv
              have e22 := (p21.trans p22).1 _ _ dD e20
              refine ⟨_, e22, by rw [List.length_map]; exact big (by omega), past_put nD dD ((p20.trans p21).trans p22), ks ++ [k], ?_, by rw [List.length_append, kl]; rfl, fun x hx => ?_⟩
              · rw [upd_same, List.map_append]
                rfl
              · rcases List.mem_append.mp hx with hx | hx
                · exact k3 x hx
                · rw [List.mem_singleton.mp hx]
                  exact hk
            · obtain ⟨p20, ks, e20, kl, k3⟩ := h
              exact hnx _ _ ⟨_, D, ks, rfl, (p1218.trans p19).trans p20, dD, e20, by rw [kl, Int.toNat_natCast], k3⟩
          · refine hnx _ _ ⟨_, l23, List.replicate m lv0, rfl, p1218.trans p19, d18, p19.1 _ _ d18 e18, List.length_replicate .., fun k hk => ?_⟩
            rw [(List.mem_replicate.mp hk).2]
            exact lv3
        · obtain ⟨o13', lv, ks, rfl, p1219, dlv, e19, kl, k3⟩ := h
          have a19 := p1219.1 _ _ d2 a12
          have pickz : ∀ {H' : Hp}, Dice H' d → SqL K H' a1 ((z0 :: zt).map V.str) → Some1 K H' d (.ref a1) (fun v => ∃ z, v = .str z ∧ z ∈ z0 :: zt) := fun hd' sq => .inl ⟨a1, _, rfl, d2, .inl sq, by simp, by rw [List.length_map]; simp only [List.length_cons]; omega, fun v hv => by
            obtain ⟨z, hz, rfl⟩ := List.mem_map.mp hv
            exact ⟨z, rfl, hz⟩⟩
          refine ⟨_, rfl, _, rfl, d, .ref a1, _, rfl, p1219.2, pickz p1219.2 (.inl (.inl a19)), fun v H20 p20 hv => ?_⟩
          obtain ⟨sort, rfl, sm⟩ := hv
          refine ⟨_, rfl, lv, rfl, ⟨_, .inl (.inl (p20.1 _ _ dlv e19))⟩, fun D nD => ?_⟩
          have dD := p20.2.ne nD
          refine lc_list (K := K) (a := lv) (xs := ks.map fun (k : Nat) => V.int k) (fun i H' => Past d H20 H' ∧ ∃ (us : List Addr) (cc : List (Str × Int)), H' D = some (.lst (us.map V.ref)) ∧ us.length = i ∧ cc.length = i ∧ (∀ (j : Nat) (u : Addr) (e : Str × Int), us[j]? = some u → cc[j]? = some e → Kid H' u e.1 e.2) ∧ ∀ e ∈ cc, e.1 ∈ z0 :: zt)
            ⟨past_put nD dD (Past.refl p20.2), [], [], upd_same, rfl, rfl, (fun j u e h => by simp at h), (fun e h => nomatch h)⟩ (fun i H' _ h => h.1.seq dlv (.inl (.inl (p20.1 _ _ dlv e19)))) (fun i x H21 hx h => ?_) (fun H21 h => ?_)
          · obtain ⟨p21, us, cc, e21, ul, ccl, kd, csub⟩ := h
            rw [List.getElem?_map] at hx
            obtain ⟨k, hk, rfl⟩ := Option.map_eq_some_iff.mp hx
            have kk3 := k3 k (List.mem_of_getElem? hk)
            have il := (List.getElem?_eq_some_iff.mp hk).1
            refine ⟨rfl, _, rfl, _, rfl, d, .ref a1, _, rfl, p21.2, pickz p21.2 (.inl (.inl ((p20.trans p21).1 _ _ d2 a19))), fun v H22 p22 hv => ?_⟩
            obtain ⟨z, rfl, zm⟩ := hv
            refine ⟨_, rfl, by show 2 ≤ sizeLine; decide, fun u nu => ?_⟩
            obtain ⟨H23, eH23, p23, e23, d23⟩ := opened p22.2 nu (.tup [.str z, .int k])
            rw [eH23]
            have e23D := (p22.trans p23).1 _ _ dD e21
            have tp : Tups H21 (upd H23 D (.lst (us.map V.ref ++ [.ref u]))) := ((Tups.past p21.2 p22).trans (Tups.past p22.2 p23)).trans (Tups.putL _ e23D)
            have uD : u ≠ D := fun zz => by
              rw [zz, e23D] at e23
              cases e23
            refine ⟨_, e23D, by rw [List.length_map]; exact big (by omega), past_put nD dD ((p21.trans p22).trans p23), us ++ [u], cc ++ [(z, (k : Int))], ?_, by rw [List.length_append, ul]; rfl, by rw [List.length_append, ccl]; rfl, fun j u' e h1 h2 => ?_, fun e he => ?_⟩
            · rw [upd_same, List.map_append]
              rfl
            · rw [List.getElem?_append] at h1 h2
              by_cases jl : j < us.length
              · rw [if_pos jl] at h1
                rw [if_pos (by omega)] at h2
                exact (kd j u' e h1 h2).tups tp
              · rw [if_neg jl] at h1
                rw [if_neg (by omega)] at h2
                have j0 : j - us.length = 0 := by
                  have := (List.getElem?_eq_some_iff.mp h1).1
                  simp at this
                  omega
                have j1 : j - cc.length = 0 := by omega
                rw [j0] at h1
                rw [j1] at h2
                cases h1
                cases h2
                have nz := pool_nam z (zpool z zm)
                refine ⟨by rw [upd_ne uD]; exact e23, nz, ?_, by omega, by omega⟩
                have := (nam_len nz).2.1
                exact ⟨show z.length ≤ 1000 by omega, pool_asc z (zpool z zm)⟩
            · rcases List.mem_append.mp he with he | he
              · exact csub e he
              · rw [List.mem_singleton.mp he]
                exact zm
          · obtain ⟨p21, us, cc, e21, ul, ccl, kd, csub⟩ := h
            rw [List.length_map, kl] at ul ccl
            refine ⟨D, _, rfl, .inl ⟨.inl (.inl e21), fun ch nch => ?_⟩⟩
            obtain ⟨H22, eH22, p22, e22, d22⟩ := opened p21.2 nch (.tup (us.map V.ref))
            rw [eH22]
            have kids22 : Kids H22 ch us cc := ⟨e22, by omega, by omega, by omega, fun j u e h1 h2 => (kd j u e h1 h2).tups (Tups.past p21.2 p22)⟩
            refine ⟨by show 2 ≤ sizeLine; decide, fun fq nfq => ?_⟩
            obtain ⟨H23, eH23, p23, e23, d23⟩ := opened p22.2 nfq (.tup [.str sort, .ref ch])
            rw [eH23]
            have row23 : RowAt H23 fq (c, sort, cc) := ⟨ch, us, e23, kids22.tups (Tups.past p22.2 p23)⟩
            have p1223 := (((p1219.trans p20).trans p21).trans p22).trans p23
            have tp1223 := Tups.past p12.2 p1223
            have rows23 : ∀ p ∈ ps, RowAt H23 p.2 p.1 := fun p hp => (row12 p hp).tups tp1223
            have dtb : tb ≠ d := d10
            have tb23 := p1223.1 _ _ d10 tb12
            have dn23 := p1223.1 _ _ d11 dn12
            have lsort : Asc sort := pool_asc sort (zpool sort sm)
            have lrow : ∀ p ∈ ps, Lays 3 (kindK p.1.2).data := fun p hp => by
              obtain ⟨ch', ks', _, kk⟩ := row12 p hp
              exact lays_kind (pool_asc _ (zpool _ (said12 p hp _ List.mem_cons_self))) kk.asc
            refine ⟨_, rfl, _, rfl, (kindK (sort, cc)).data, ps.map (fun p => (kindK p.1.2).data), row23.dp, .lst (.inl (.inl dn23)) (rows_dp rows23), (lays_kind lsort kids22.asc).shaped (by decide), (lays_lst (n := 3) fun x hx => ?_).shaped (by decide), _, rfl, ?_⟩
            · obtain ⟨p, hp, rfl⟩ := List.mem_map.mp hx
              exact lrow p hp
            · have any_ : ((ps.map fun p => (kindK p.1.2).data).any fun z => PyData.eqv z (kindK (sort, cc)).data) = decide ((sort, cc) ∈ ps.map (·.1.2)) := by
                rw [List.any_map]
                apply Bool.eq_iff_iff.mpr
                rw [List.any_eq_true, decide_eq_true_eq, List.mem_map]
                constructor
                · rintro ⟨p, hp, e⟩
                  have e' : PyData.eqv (kindK p.1.2).data (kindK (sort, cc)).data = true := e
                  rw [eqv_kinds, decide_eq_true_eq] at e'
                  exact ⟨p, hp, e'⟩
                · rintro ⟨p, hp, e⟩
                  exact ⟨p, hp, by show PyData.eqv (kindK p.1.2).data (kindK (sort, cc)).data = true; rw [eqv_kinds, decide_eq_true_eq]; exact e⟩
              rw [any_]
              have tk : cs.take (i + 1) = cs.take i ++ [c] := by
                rw [List.take_add_one, hc']
                rfl
              have subl : (ps.map (·.1.1)).Sublist (cs.take (i + 1)) := by
                rw [tk]
                exact sub12.trans (List.sublist_append_left _ _)
              by_cases mem : (sort, cc) ∈ ps.map (·.1.2)
              · rw [decide_eq_true mem]
                refine iteF ⟨⟨_, _, _, _, _, _, _, rfl⟩, ps, p12.trans p1223, tb23, dn23, rows23, subl, kin12, said12, fun _ z => ?_⟩
                rw [z] at mem
                cases mem
              · rw [decide_eq_false mem]
                refine iteT ⟨_, rfl, .inl ⟨rfl, _, .inl (.inl dn23)⟩, _, rfl, dn, _, _, rfl, rfl, dn23, ?_, ?_⟩
                · rw [List.length_map]
                  have := sub12.length_le
                  rw [List.length_map, List.length_take] at this
                  exact big (by omega)
                generalize eH24 : upd H23 dn (.lst (ps.map (fun p => V.ref p.2) ++ [.ref fq])) = H24
                have dn24 : H24 dn = some (.lst ((ps ++ [((c, sort, cc), fq)]).map fun p => V.ref p.2)) := by
                  rw [← eH24, upd_same, List.map_append]
                  rfl
                have tb24 : H24 tb = some (.dK (kvsP ps)) := by rw [← eH24, upd_ne tdn]; exact tb23
                have tp24 : Tups H23 H24 := by rw [← eH24]; exact Tups.putL _ dn23
                have p24 : Past d H9 H24 := by rw [← eH24]; exact past_put ndn9 d11 (p12.trans p1223)
                have cout : c ∉ ps.map (·.1.1) := fun hm => by
                  have m2 := sub12.subset hm
                  obtain ⟨j, hj⟩ := List.mem_iff_getElem?.mp m2
                  rw [List.getElem?_take] at hj
                  split at hj
                  · rename_i ji
                    have := (List.getElem?_inj (by have := (List.getElem?_eq_some_iff.mp hj).1; omega) cnd).mp (hj.trans hc'.symm)
                    omega
                  · cases hj
                refine ⟨_, rfl, _, rfl, _, rfl, tb, _, rfl, DPut.k (k := Sum.inr c) tb24 ?_, ⟨_, _, _, _, _, _, _, rfl⟩, ps ++ [((c, sort, cc), fq)], past_put ntb d10 p24, ?_, ?_, fun p hp => ?_, ?_, ?_, fun p hp => ?_, fun _ z => ?_⟩
                · unfold kvsP
                  rw [List.length_map]
                  have := sub12.length_le
                  rw [List.length_map, List.length_take] at this
                  exact big (by omega)
                · rw [upd_same]
                  exact congrArg (fun z => some (HO.dK z)) (kvsP_put (p := ((c, sort, cc), fq)) cout)
                · rw [upd_ne tdn.symm]
                  exact dn24
                · have tpe : Tups H23 (upd H24 tb (.dK (putK (kvsP ps) (Sum.inr c) (.ref fq)))) := tp24.trans (Tups.putD _ tb24)
                  rcases List.mem_append.mp hp with hp | hp
                  · exact (rows23 p hp).tups tpe
                  · rw [List.mem_singleton.mp hp]
                    exact row23.tups tpe
                · rw [tk, List.map_append]
                  exact sub12.append (List.Sublist.refl _)
                · rw [List.map_append]
                  refine List.nodup_append.mpr ⟨kin12, List.nodup_cons.mpr ⟨(fun h => nomatch h), List.nodup_nil⟩, fun x hx y hy e => ?_⟩
                  rw [List.mem_singleton.mp hy] at e
                  rw [e] at hx
                  exact mem hx
                · rcases List.mem_append.mp hp with hp | hp
                  · exact said12 p hp
                  · rw [List.mem_singleton.mp hp]
                    intro y hy
                    rcases List.mem_cons.mp hy with rfl | hy
                    · exact sm
                    · obtain ⟨e, he, rfl⟩ := List.mem_map.mp hy
                      exact csub e he
                · simp at z
      · obtain ⟨⟨o4, o9, o10, o11, o12, o13, o14, rfl⟩, ps, p12, tb12, dn12, row12, sub12, kin12, said12, some12⟩ := h
        rw [List.length_map, List.take_of_length_le (Nat.le_refl _)] at sub12
        rw [List.length_map] at some12
        have a12 := p12.1 _ _ d2 a9
        have t12 := p12.1 _ _ d7 t9
        refine ⟨_, rfl, a1, _, _, .str z0, rfl, rfl, .inl (.inl a12), at_of' (j := 0) rfl rfl, _, rfl, _, rfl, by show 3 ≤ sizeLine; decide, fun p np => ?_⟩
        obtain ⟨H13, eH13, p13, e13, d13⟩ := opened p12.2 np (.lst [.str z0, .ref tl, .ref tb])
        rw [eH13]
        have pall := ((((((p02.trans p3).trans p4).trans p5).trans p6).trans p7).trans p8).trans (p9.trans (p12.trans p13))
        have pnone : H p = none := fresh_of ((((((p02.trans p3).trans p4).trans p5).trans p6).trans p7).trans (p8.trans (p9.trans p12))) np d13
        have subp : (ps.map (·.1)).map (·.1) = ps.map (·.1.1) := by rw [List.map_map]; rfl
        have subk : (ps.map (·.1)).map (·.2) = ps.map (·.1.2) := by rw [List.map_map]; rfl
        refine q p tl tb z0 ts ps H13 pall pnone d13 ⟨e13, p13.1 _ _ d7 t12, p13.1 _ _ d10 tb12, fun r hr' => (row12 r hr').tups (Tups.past p12.2 p13)⟩ ⟨⟨z0 :: zt, znd, by simp only [List.length_cons]; omega, zpool, fun y hy => ?_, fun r hr' y hy => ?_⟩, ?_, srt, ?_, ?_, fun r hr' => ?_, ?_, ?_⟩ ?_
        · rcases List.mem_cons.mp (pm.mem_iff.mp hy) with rfl | h
          · exact List.mem_cons_self
          · exact List.mem_cons_of_mem _ (sub.subset h)
        · obtain ⟨p', hp', rfl⟩ := List.mem_map.mp hr'
          exact said12 p' hp' y hy
        · exact pm.mem_iff.mpr List.mem_cons_self
        · exact pm.nodup_iff.mpr (znd.sublist (sub.cons₂ z0))
        · rw [subp]
          exact cnd.sublist sub12
        · obtain ⟨p', hp', rfl⟩ := List.mem_map.mp hr'
          exact cp' _ (sub12.subset (List.mem_map.mpr ⟨p', hp', rfl⟩))
        · rw [List.length_map]
          have := some12 (by omega)
          cases ps with
          | nil => exact absurd rfl this
          | cons _ _ => simp
        · rw [subk]
          exact kin12
        · have := sub12.length_le
          rw [List.length_map] at this
          omega
end
end K12
set_option Elab.async false
set_option linter.all false
set_option autoImplicit false
set_option maxRecDepth 100000
set_option maxHeartbeats 4000000
/-! Zk: walks over the keys of a dict that is locked: in list comprehensions, in loops. -/
namespace Zk
open PySem PySem.Spec PyProof.Rows L2 Vb Wd Zt
section
variable {d : Addr} {o : Obj} {kvs : List (L2.Key × V)}
theorem lc_keys {g : TG} {tt : TT} {te : TE} {vs : List Nat} {σ : L2.St} {H1 : Hp} {D : Addr} {Z : Hp → Prop} (I : Nat → Hp → Prop) (start : I 0 (upd H1 D (.lst []))) (held : ∀ i H, i ≤ kvs.length → I i H → H d = some (.frz o (.dK kvs)))
    (turn : ∀ i k v H, kvs[i]? = some (k, v) → I i H → g (kV k) (wipe σ vs) H fun σ2 H2 => wipe σ2 vs = wipe σ vs ∧ tt σ2 H2 fun b H3 => if b = true then te σ2 H3 fun y H4 => ∃ acc, H4 D = some (.lst acc) ∧ acc.length < sizeLine ∧ I (i + 1) (upd H4 D (.lst (acc ++ [y]))) else I (i + 1) H3)
    (done : ∀ H, I kvs.length H → Z H) : ∃ W : Nat → Nat → Hp → Prop, (∃ m, W 0 m (upd H1 D (.lst []))) ∧ ∀ i m H, W i m H →
      ((Itk d o kvs).stop i H ∧ Z H) ∨ ((Itk d o kvs).go i H ∧ ∃ Nx : Hp → Prop, (∀ H', Nx H' → ∃ m', m' < m ∧ W (i + 1) m' H') ∧ ∀ x H', (Itk d o kvs).yld i H x H' → g x (wipe σ vs) H' fun σ2 H2 => wipe σ2 vs = wipe σ vs ∧ tt σ2 H2 fun b H3 =>
        if b = true then te σ2 H3 fun y H4 => ∃ acc, H4 D = some (.lst acc) ∧ acc.length < sizeLine ∧ Nx (upd H4 D (.lst (acc ++ [y]))) else Nx H3) := by
  refine ⟨fun i m H => i + m = kvs.length ∧ I i H, ⟨kvs.length, Nat.zero_add _, start⟩, fun i m H ⟨e, h⟩ => ?_⟩
  have hd := held i H (by omega) h
  cases m with
  | zero =>
    have ei : i = kvs.length := e
    subst ei
    exact .inl ⟨⟨hd, Nat.le_refl _⟩, done H h⟩
  | succ m =>
    have lt : i < kvs.length := by omega
    refine .inr ⟨⟨hd, lt⟩, I (i + 1), fun H' h' => ⟨m, Nat.lt_succ_self _, by omega, h'⟩, fun x H' y => ?_⟩
    obtain ⟨rfl, k, v, e2, rfl⟩ := y
    exact turn i k v _ e2 h
theorem for_keys {g : TG} {tb : TS} {D : Ends} {σ : L2.St} {H : Hp} (I : Nat → L2.St → Hp → Prop) (start : I 0 σ H) (held : ∀ i σ H, i ≤ kvs.length → I i σ H → H d = some (.frz o (.dK kvs)))
    (turn : ∀ i k v σ H, kvs[i]? = some (k, v) → I i σ H → g (kV k) σ H fun σ2 H2 => tb { D with nx := I (i + 1), ct := I (i + 1), bk := D.nx } σ2 H2) (done : ∀ σ H, I kvs.length σ H → D.nx σ H) :
    ∃ W : Nat → Nat → L2.St → Hp → Prop, (∃ m, W 0 m σ H) ∧ ∀ i m σ H, W i m σ H →
      ((Itk d o kvs).stop i H ∧ D.nx σ H) ∨ ((Itk d o kvs).go i H ∧ ∃ N : L2.St → Hp → Prop, (∀ σ' H', N σ' H' → ∃ m', m' < m ∧ W (i + 1) m' σ' H') ∧ ∀ x H', (Itk d o kvs).yld i H x H' → g x σ H' fun σ2 H2 => tb { D with nx := N, ct := N, bk := D.nx } σ2 H2) := by
  refine ⟨fun i m σ H => i + m = kvs.length ∧ I i σ H, ⟨kvs.length, Nat.zero_add _, start⟩, fun i m σ H ⟨e, h⟩ => ?_⟩
  have hd := held i σ H (by omega) h
  cases m with
  | zero =>
    have ei : i = kvs.length := e
    subst ei
    exact .inl ⟨⟨hd, Nat.le_refl _⟩, done σ H h⟩
  | succ m =>
    have lt : i < kvs.length := by omega
    refine .inr ⟨⟨hd, lt⟩, I (i + 1), fun σ' H' h' => ⟨m, Nat.lt_succ_self _, by omega, h'⟩, fun x H' y => ?_⟩
    obtain ⟨rfl, k, v, e2, rfl⟩ := y
    exact turn i k v σ _ e2 h
end
/-- a lock and its end -/
theorem lock_same {d : Addr} {o : Obj} {u : HO} {H H' : Hp} (e : H d = some u) (s : Same (upd H d (.frz o u)) H') : Same H (upd H' d u) := fun b x h => by
  by_cases bd : b = d
  · subst bd
    rw [e] at h
    rw [upd_same]
    exact h
  · rw [upd_ne bd]
    exact s b x (by rw [upd_ne bd]; exact h)
theorem lock_past {d c : Addr} {o : Obj} {u : HO} {H H' : Hp} (e : H d = some u) (n : d ≠ c) (s : Past c (upd H d (.frz o u)) H') : Past c H (upd H' d u) := by
  obtain ⟨k, g, s', c', q⟩ := s
  refine ⟨fun b x bc h => ?_, g, s', c', ?_⟩
  · by_cases bd : b = d
    · subst bd
      rw [e] at h
      rw [upd_same]
      exact h
    · rw [upd_ne bd]
      exact k b x bc (by rw [upd_ne bd]; exact h)
  · rw [upd_ne n.symm]
    exact q
/-- what stands elsewhere stands in the lock -/
theorem in_lock {d b : Addr} {o : Obj} {u x : HO} {H : Hp} (n : b ≠ d) (h : H b = some x) : (upd H d (.frz o u)) b = some x := by
  rw [upd_ne n]
  exact h
end Zk
set_option Elab.async false
set_option linter.all false
set_option autoImplicit false
set_option maxRecDepth 100000
set_option maxHeartbeats 4000000
namespace K12
open PySem PySem.Spec PyProof.Rows L2 Vb Wd Xd Xo Ts K01 Zt Zk
abbrev s_l_made_scheme : Stmt := topS 54
theorem sc_l_made_scheme : FnScope ["_law_plain", "_law_forms", "_law_name"] ["_law_plain"] (defScope s_l_made_scheme) := ⟨rfl, rfl, rfl, by decide +kernel, rfl, by decide +kernel, by decide +kernel⟩
/-- what is known of the class Form -/
structure EnvF (P : Program) (w : World) (K : PySem.W.Frag) (mg : Str → Option Value) (base : Heap) (C : Addr) where
  T : FormC K C
  TI : FormI K C
  TP : FormP P w K mg base C
  g : mg "Form" = some (.ref C)
  fI : Addr
  fdI : FuncData
  M : L2.Mk K C fI
  FI : FnG P w K mg base 6 fI fdI ["self", "called", "sort", "children"] (spInit K C)
  bI : Binds K fdI ["self", "called", "sort", "children"] []
/-- what is known of the class Scheme -/
structure EnvS (P : Program) (w : World) (K : PySem.W.Frag) (mg : Str → Option Value) (base : Heap) (C CS CI : Addr) where
  T : SchemeC K CS
  g : mg "Scheme" = some (.ref CS)
  fI : Addr
  fdI : FuncData
  M : L2.Mk K CS fI
  FI : FnE P w K mg base 5 fI fdI ["self", "bare", "tops", "forms"] (spInitS K C CS CI)
  bI : Binds K fdI ["self", "bare", "tops", "forms"] []
/-- the words of a scheme that is one -/
structure SchOk (b : Str) (ts : List Str) (rows : List FD) : Prop where
  sch : schB (.str b) (some ts) rows = true
  nams : ∀ r ∈ rows, isNam (.str r.1) = true ∧ isNam (.str r.2.1) = true
  tops : (∀ y ∈ ts, Fine y) ∧ ts.length ≤ 60 ∧ (ts.all nam && asc ts) = true
theorem inV_mem {b : Str} {ts : List Str} (h : b ∈ ts) : inV (.str b) (ts.map V.str) = true := by
  unfold inV
  exact List.any_eq_true.mpr ⟨.str b, List.mem_map.mpr ⟨b, h, rfl⟩, by simp [eqV]⟩
theorem Fit.ok {b : Str} {ts : List Str} {rows : List FD} (F : Fit b ts rows) (few : rows.length ≤ 24) : SchOk b ts rows := by
  obtain ⟨zs, znd, zl, zp, tz, rz⟩ := F.ex
  have d8 : (dd (ts ++ said rows)).length ≤ 8 := Nat.le_trans (nodup_len _ zs (nodup_dd _) fun k hk => by
    rcases List.mem_append.mp ((mem_dd _ k).mp hk) with h | h
    · exact tz k h
    · unfold said at h
      obtain ⟨r, hr, hk'⟩ := List.mem_flatMap.mp h
      exact rz r hr k hk') (Nat.le_trans zl (by decide))
  have fine : ∀ y ∈ pool, Fine y := fun y hy => by
    have := (nam_len (pool_nam y hy)).2.1
    exact ⟨by omega, pool_asc y hy⟩
  refine ⟨?_, fun r hr => ⟨pool_nam _ (F.named r hr), pool_nam _ (zp _ (rz r hr _ List.mem_cons_self))⟩, fun y hy => fine y (zp y (tz y hy)), ?_, ?_⟩
  · rw [schB_some, inV_mem F.bt, decide_eq_true F.some_, decide_eq_true few, decide_eq_true d8, decide_eq_true F.once, decide_eq_true F.kinds]
    rfl
  · have := nodup_len ts zs F.nd tz
    omega
  · rw [Bool.and_eq_true]
    refine ⟨List.all_eq_true.mpr fun y hy => pool_nam y (zp y (tz y hy)), ?_⟩
    rw [← eq_sorted (fun k => Iff.rfl) F.srt F.nd, decide_eq_true rfl]
theorem SchOk.sub {b : Str} {ts : List Str} {rows : List FD} (S : SchOk b ts rows) : ∀ ys, some ts = some ys → ∀ y ∈ ys ++ said rows, y ∈ dd (ts ++ said rows) := fun ys e y hy => by
  cases e
  exact (mem_dd _ y).mpr hy
theorem SchOk.parts {b : Str} {ts : List Str} {rows : List FD} (S : SchOk b ts rows) : b ∈ ts ∧ (1 ≤ rows.length ∧ rows.length ≤ 24) ∧ (dd (ts ++ said rows)).length ≤ 8 ∧ (rows.map (·.1)).Nodup ∧ (rows.map (·.2)).Nodup := by
  have h := S.sch
  rw [schB_some] at h
  simp only [Bool.and_eq_true, decide_eq_true_eq] at h
  obtain ⟨⟨⟨mem, d1, d24⟩, d8⟩, once, kinds⟩ := h
  obtain ⟨b', e, bm⟩ := inV_str (v := .str b) rfl mem
  cases e
  exact ⟨bm, ⟨d1, d24⟩, d8, once, kinds⟩
/-- the words as the law holds them, its dict perhaps locked -/
structure HeldR (H : Hp) (a tl tb : Addr) (b : Str) (ts : List Str) (ps : List (FD × Addr)) : Prop where
  at_ : H a = some (.lst [.str b, .ref tl, .ref tb])
  tops : H tl = some (.lst (ts.map V.str))
  dict : Rd H tb (.dK (kvsP ps))
  row : ∀ p ∈ ps, RowAt H p.2 p.1
theorem Held.r {H : Hp} {a tl tb : Addr} {b : Str} {ts : List Str} {ps : List (FD × Addr)} (h : Held H a tl tb b ts ps) : HeldR H a tl tb b ts ps := ⟨h.at_, h.tops, .inl h.dict, h.row⟩
theorem Held.ne {H : Hp} {a tl tb : Addr} {b : Str} {ts : List Str} {ps : List (FD × Addr)} (h : Held H a tl tb b ts ps) : a ≠ tb ∧ tl ≠ tb := by
  constructor
  · intro z
    have := h.at_
    rw [z, h.dict] at this
    cases this
  · intro z
    have := h.tops
    rw [z, h.dict] at this
    cases this
theorem Held.lock {H : Hp} {a tl tb : Addr} {b : Str} {ts : List Str} {ps : List (FD × Addr)} {o : Obj} (h : Held H a tl tb b ts ps) : HeldR (upd H tb (.frz o (.dK (kvsP ps)))) a tl tb b ts ps :=
  ⟨in_lock h.ne.1 h.at_, in_lock h.ne.2 h.tops, .inr ⟨o, upd_same⟩, fun p hp => (h.row p hp).tups (Tups.putD _ h.dict)⟩
theorem HeldR.same {H H' : Hp} {a tl tb : Addr} {b : Str} {ts : List Str} {ps : List (FD × Addr)} (s : Same H H') (h : HeldR H a tl tb b ts ps) : HeldR H' a tl tb b ts ps :=
  ⟨s _ _ h.at_, s _ _ h.tops, h.dict.imp (fun e => s _ _ e) (fun ⟨o, e⟩ => ⟨o, s _ _ e⟩), fun p hp => (h.row p hp).tups (Tups.of s)⟩
theorem Held.same {H H' : Hp} {a tl tb : Addr} {b : Str} {ts : List Str} {ps : List (FD × Addr)} (s : Same H H') (h : Held H a tl tb b ts ps) : Held H' a tl tb b ts ps :=
  ⟨s _ _ h.at_, s _ _ h.tops, s _ _ h.dict, fun p hp => (h.row p hp).tups (Tups.of s)⟩
def spMS (C CS : Addr) : Sp := fun vs H Q _ => ∃ (a tl tb : Addr) (b : Str) (ts : List Str) (ps : List (FD × Addr)), vs = [.ref a] ∧ Held H a tl tb b ts ps ∧ SchOk b ts (ps.map (·.1)) ∧
  ∀ (p : Addr) (ds : List FD) (H' : Hp), Same H H' → SchemeAt H' C CS p b ts ds → ds.Perm (ps.map (·.1)) → Q (.ref p) H'
section
variable {P : Program} {w : World} {K : PySem.W.Frag} {mg : Str → Option Value} {base : Heap} {C CS CI : Addr}
theorem ok_l_made_scheme (D : Df K mg "_law_made_scheme" s_l_made_scheme ["_law_plain"]) (VF : EnvF P w K mg base C) (VS : EnvS P w K mg base C CS CI) (z_tuple : mg "tuple" = none) : Cg P w K mg base 8 "_law_made_scheme" (spMS C CS) := by
  refine D.ok sc_l_made_scheme (fun vs H Q E h => ?_) (fun cdv A outer s H vs Q E f hc hr h => ?_)
  · obtain ⟨a, tl, tb, b, ts, ps, rfl, _⟩ := h
    rfl
  · obtain ⟨a, tl, tb, b, ts, ps, rfl, X, S, q⟩ := h
    refine ⟨_, (pss_cons (ps_set (i := 1) sc_l_made_scheme.nd rfl (Or.inl rfl) (pe_callTy (cr_tuple : CallR _ _ (rTup K)) (by rfl) z_tuple (by decide +kernel) (pa_cons (pe_lock (pe_lc (own := [("_law_name", 2)]) (g := gName 2) (by rfl) sc_l_made_scheme.nd (pi_keys (pe_ix (ix_list : IxR _ (rIxL K)) (pv 0) pe_int (fun _ _ => rfl))) (blkOk_by (own := [("_law_name", 2)]) (N := ["_law_plain", "_law_forms", "_law_name"]) (sc := defScope s_l_made_scheme) (by decide +kernel)) (fun _ _ _ _ _ => pg_name (i := 2) sc_l_made_scheme.nd rfl (Or.inl rfl)) (fun _ _ _ _ _ => pts_nil)
        (fun _ _ _ _ _ => (pe_makeE (E := fun _ _ _ => False) (W := fun _ _ _ _ => False) VF.M (FnE.of VF.FI) hc hr (by rfl) VF.g VF.bI takes0 (fun _ _ _ _ z => z) (pa_cons (pv 2) (pa_cons (pe_ix (ix_tup : IxR _ (rIxT K)) (pe_dget (hu_of hr) (pe_ix (ix_list : IxR _ (rIxL K)) (pv 0) pe_int (fun _ _ => rfl)) (pv 2) (fun _ _ => rfl)) pe_int (fun _ _ => rfl)) (pa_cons (pe_ix (ix_tup : IxR _ (rIxT K)) (pe_dget (hu_of hr) (pe_ix (ix_list : IxR _ (rIxL K)) (pv 0) pe_int (fun _ _ => rfl)) (pv 2) (fun _ _ => rfl)) pe_int (fun _ _ => rfl)) pa_nil))))))) pa_nil)))
      (pss_one (ps_ret (pe_makeE (E := fun _ _ _ => False) (W := fun _ _ _ _ => False) VS.M VS.FI hc (hr.mono (by decide)) (by rfl) VS.g VS.bI takes0 (fun _ _ _ _ z => z) (pa_cons (pe_ix (ix_list : IxR _ (rIxL K)) (pv 0) pe_int (fun _ _ => rfl)) (pa_cons (pe_callTy (cr_tuple : CallR _ _ (rTup K)) (by rfl) z_tuple (by decide +kernel) (pa_cons (pe_ix (ix_list : IxR _ (rIxL K)) (pv 0) pe_int (fun _ _ => rfl)) pa_nil)) (pa_cons (pv 1) pa_nil))))))), ?_⟩
    refine ⟨tb, _, X.dict, trivial, fun od => ?_⟩
    have XL := X.lock (o := od)
    obtain ⟨bm, ⟨d1, d24⟩, d8, once, kinds⟩ := S.parts
    have psn : (ps.map (·.1)).map (·.1) = ps.map (·.1.1) := by rw [List.map_map]; rfl
    have nd : (ps.map (·.1.1)).Nodup := by rw [← psn]; exact once
    rw [List.length_map] at d1 d24
    have big : ∀ {n : Nat}, n ≤ 200 → n < sizeLine := fun h => Nat.lt_of_le_of_lt h (by decide)
    generalize eHL : upd H tb (.frz od (.dK (kvsP ps))) = HL at XL
    have eL : HL tb = some (.frz od (.dK (kvsP ps))) := by rw [← eHL]; exact upd_same
    refine ⟨_, rfl, a, _, _, .ref tb, rfl, rfl, .inl (.inl XL.at_), by rfl, tb, od, rfl, .inl ⟨kvsP ps, eL, fun D nD => ?_⟩⟩
    have XR : ∀ {H' : Hp}, Same HL H' → HeldR H' a tl tb b ts ps := fun s => XL.same s
    have s0 : ∀ {H' : Hp}, Same HL H' → Same H (upd H' tb (.dK (kvsP ps))) := fun s => lock_same X.dict (by rw [eHL]; exact s)
    refine lc_keys (fun i H' => Same HL H' ∧ ∃ fs : List Addr, H' D = some (.lst (fs.map V.ref)) ∧ fs.length = i ∧ ∀ (j : Nat) (x : Addr) (p : FD × Addr), fs[j]? = some x → ps[j]? = some p → ∃ ch ks, FormAt H' C x ch p.1.1 p.1.2.1 ks p.1.2.2) ⟨same_put nD (Same.refl _), [], upd_same, rfl, fun j x p h => by simp at h⟩ (fun i H' _ h => h.1 _ _ eL) (fun i k v H1 hk h => ?_) (fun H1 h => ?_)
    · obtain ⟨s1, fs, e1, fl, forms⟩ := h
      obtain ⟨p, hp, ek⟩ : ∃ p, ps[i]? = some p ∧ (k, v) = (Sum.inr p.1.1, V.ref p.2) := by
        unfold kvsP at hk
        rw [List.getElem?_map] at hk
        obtain ⟨p, hp, e⟩ := Option.map_eq_some_iff.mp hk
        exact ⟨p, hp, e.symm⟩
      cases ek
      have pm := List.mem_of_getElem? hp
      have il := (List.getElem?_eq_some_iff.mp hp).1
      have X1 := XR s1
      obtain ⟨ch, ks, eq, kk⟩ := X1.row p pm
      obtain ⟨n1, n2⟩ := S.nams p.1 (List.mem_map.mpr ⟨p, pm, rfl⟩)
      have l1 := (nam_len n1).2.1
      have l2 := (nam_len n2).2.1
      have asc_ : ∀ {z : Str}, isNam (.str z) = true → Asc z := fun {z} h c hc => by
        have h3 := (nam_len h).2.2
        have := List.all_eq_true.mp h3 c hc
        unfold low at this
        rw [Bool.and_eq_true, decide_eq_true_eq, decide_eq_true_eq] at this
        omega
      have dg : DGet H1 tb (kV (Sum.inr p.1.1)) (some (.ref p.2)) := .inl ⟨kvsP ps, Sum.inr p.1.1, X1.dict, rfl, (kvsP_val nd pm).symm⟩
      refine ⟨rfl, _, rfl, _, rfl, a, _, _, .ref tb, rfl, rfl, .inl (.inl X1.at_), by rfl, _, rfl, tb, .ref p.2, rfl, dg, p.2, _, _, .str p.1.2.1, rfl, rfl, .inl (.inl eq), by rfl, _, rfl, a, _, _, .ref tb, rfl, rfl, .inl (.inl X1.at_), by rfl, _, rfl, tb, .ref p.2, rfl, dg, p.2, _, _, .ref ch, rfl, rfl, .inl (.inl eq), by rfl, fun x dx nx ndx ne => ?_⟩
      have s2 := (same_new (o := .own x) ndx).trans (same_new (o := .ins C dx []) (by rw [upd_ne ne.symm]; exact nx))
      refine ⟨x, dx, ch, p.1.1, p.1.2.1, ks, p.1.2.2, rfl, upd_same, ⟨n1, by omega, asc_ n1⟩, ⟨n2, by omega, asc_ n2⟩, kk.same s2, fun H2 s3 => ⟨rfl, ?_⟩⟩
      generalize eH3 : upd H2 x (.ins C dx (flds p.1.1 p.1.2.1 ch)) = H3
      have x3 : H3 x = some (.ins C dx (flds p.1.1 p.1.2.1 ch)) := by rw [← eH3]; exact upd_same
      have s13 : Same H1 H3 := fun b' o' h' => by
        have bx : b' ≠ x := ne_of_none h' nx
        rw [← eH3, upd_ne bx]
        exact s3 _ _ (s2 _ _ h')
      have e3 := s13 _ _ e1
      have xD : x ≠ D := fun z => by
        rw [z, e3] at x3
        cases x3
      have tpe : Tups H3 (upd H3 D (.lst (fs.map V.ref ++ [.ref x]))) := Tups.putL _ e3
      refine ⟨_, e3, by rw [List.length_map]; exact big (by omega), same_put nD (s1.trans s13), fs ++ [x], ?_, by rw [List.length_append, fl]; rfl, fun j y p' h1 h2 => ?_⟩
      · rw [upd_same, List.map_append]
        rfl
      · rw [List.getElem?_append] at h1
        by_cases jl : j < fs.length
        · rw [if_pos jl] at h1
          obtain ⟨ch', ks', ⟨dx', q'⟩, kk'⟩ := forms j y p' h1 h2
          refine ⟨ch', ks', ⟨dx', ?_⟩, (kk'.same s13).tups tpe⟩
          have yD : y ≠ D := fun z => by
            rw [z, e1] at q'
            cases q'
          rw [upd_ne yD]
          exact s13 _ _ q'
        · rw [if_neg jl] at h1
          have j0 : j = i := by
            have := (List.getElem?_eq_some_iff.mp h1).1
            simp at this
            omega
          rw [j0] at h2 h1
          rw [fl, Nat.sub_self] at h1
          cases h1
          cases hp.symm.trans h2
          exact ⟨ch, ks, ⟨dx, by rw [upd_ne xD]; exact x3⟩, (kk.same s13).tups tpe⟩
    · obtain ⟨s1, fs, e1, fl, forms⟩ := h
      refine ⟨s1 _ _ eL, ?_⟩
      have s2 := s0 s1
      have tpL : Tups H1 (upd H1 tb (.dK (kvsP ps))) := Tups.put _ fun xs e => by
        rw [s1 _ _ eL] at e
        cases e
      have Dtb : D ≠ tb := fun z => by
        rw [z, s1 _ _ eL] at e1
        cases e1
      generalize eH2 : upd H1 tb (.dK (kvsP ps)) = H2 at s2 tpL
      have e2 : H2 D = some (.lst (fs.map V.ref)) := by rw [← eH2, upd_ne Dtb]; exact e1
      have forms2 : ∀ (j : Nat) (x : Addr) (p : FD × Addr), fs[j]? = some x → ps[j]? = some p → ∃ ch ks, FormAt H2 C x ch p.1.1 p.1.2.1 ks p.1.2.2 := fun j x p h1 h2 => by
        obtain ⟨ch, ks, ⟨dx, q'⟩, kk⟩ := forms j x p h1 h2
        refine ⟨ch, ks, ⟨dx, ?_⟩, kk.tups tpL⟩
        have xtb : x ≠ tb := fun z => by
          rw [z, s1 _ _ eL] at q'
          cases q'
        rw [← eH2, upd_ne xtb]
        exact q'
      have X2 := X.same s2
      have kl : (kvsP ps).length = ps.length := by unfold kvsP; rw [List.length_map]
      refine ⟨D, _, rfl, .inl ⟨.inl (.inl e2), fun f nf => ?_⟩⟩
      have s3 := same_new (o := .tup (fs.map V.ref)) nf
      generalize eH3 : upd H2 f (.tup (fs.map V.ref)) = H3 at s3
      have e3 : H3 f = some (.tup (fs.map V.ref)) := by rw [← eH3]; exact upd_same
      have X3 := X2.same s3
      refine ⟨_, rfl, a, _, _, .str b, rfl, rfl, .inl (.inl X3.at_), by rfl, _, rfl, a, _, _, .ref tl, rfl, rfl, .inl (.inl X3.at_), by rfl, tl, _, rfl, .inl ⟨.inl (.inl X3.tops), fun t nt => ?_⟩⟩
      have s4 := same_new (o := .tup (ts.map V.str)) nt
      generalize eH4 : upd H3 t (.tup (ts.map V.str)) = H4 at s4
      have t4 : H4 t = some (.tup (ts.map V.str)) := by rw [← eH4]; exact upd_same
      have s24 := s3.trans s4
      refine ⟨_, rfl, fun x dx nx ndx ne => ?_⟩
      have s5 := (same_new (o := .own x) ndx).trans (same_new (o := .ins CS dx []) (by rw [upd_ne ne.symm]; exact nx))
      have s25 := s24.trans s5
      obtain ⟨fy, ly, ny⟩ := S.tops
      have FF : Forms (upd (upd H4 dx (.own x)) x (.ins CS dx [])) C fs (ps.map (·.1)) := ⟨by rw [List.length_map, fl, kl], fun j x' d' h1 h2 => by
        rw [List.getElem?_map] at h2
        obtain ⟨p, hp, rfl⟩ := Option.map_eq_some_iff.mp h2
        obtain ⟨ch, ks, FA⟩ := forms2 j x' p h1 hp
        exact ⟨ch, ks, FA.sm s25⟩⟩
      refine ⟨x, dx, f, .str b, .ref t, some ts, fs, ps.map (·.1), dd (ts ++ said (ps.map (·.1))), rfl, upd_same, ⟨rfl, ⟨t, rfl, s5 _ _ t4, fy, ly, ny⟩, (s4.trans s5) _ _ e3, FF, by rw [fl, kl]; omega, S.sub, by omega, S.nams⟩, fun b' ys' eb ey _ H6 ds' bt SA pm => ⟨rfl, ?_⟩, fun e => ?_⟩
      · cases eb
        cases ey
        refine q x ds' H6 (fun b' o' h' => ?_) SA pm
        have h4 := s24 _ _ (s2 _ _ h')
        have bx : b' ≠ x := ne_of_none h4 nx
        exact bt _ _ bx (s5 _ _ h4)
      · rw [S.sch] at e
        cases e
end
end K12
set_option Elab.async false
set_option linter.all false
set_option autoImplicit false
set_option maxRecDepth 100000
set_option maxHeartbeats 4000000
/-! Zs: sorted of a list of pairs of a text and a number. -/
namespace Zs
open PySem PySem.W PySem.Spec PyProof.Rows L2 Vb
def encP (q : Str × Nat) : PyData := .tuple [.str q.1, .int (q.2 : Nat)]
theorem alikeP (p q : Str × Nat) : alike (encP p) (encP q) = true := by simp [encP, alike, alikeAll]
/-- the order of such pairs -/
def leP (p q : Str × Nat) : Bool := dataLe false encP p q
theorem leP_iff {p q : Str × Nat} : leP p q = true ↔ (p.1.cps.toList < q.1.cps.toList ∨ (p.1 = q.1 ∧ p.2 ≤ q.2)) := by
  unfold leP
  rw [dataLe_eq]
  show (!dataLt (encP q) (encP p)) = true ↔ _
  unfold encP
  rw [dataLt_pair (by simp [alike]) (by simp [alike]), dataLt_int, dataLt_str]
  obtain ⟨x, i⟩ := p
  obtain ⟨y, j⟩ := q
  simp only [PyData.eqv, beq_iff_eq]
  by_cases e : y = x
  · subst e
    rw [if_pos rfl]
    by_cases e2 : (j : Int) = (i : Int)
    · rw [if_pos e2]
      simp only [Bool.not_false, true_iff]
      exact .inr ⟨trivial, by omega⟩
    · rw [if_neg e2]
      simp only [Bool.not_eq_true', decide_eq_false_iff_not]
      constructor
      · intro h
        exact .inr ⟨trivial, by omega⟩
      · rintro (h | ⟨_, h⟩)
        · exact absurd h (List.lt_irrefl _)
        · omega
  · rw [if_neg e]
    simp only [Bool.not_eq_true', decide_eq_false_iff_not]
    have ne : ¬ y.cps.toList = x.cps.toList := fun z => e (str_of_cps z)
    constructor
    · intro h
      refine .inl (Decidable.byContradiction fun h1 => ne ?_)
      exact List.le_antisymm (List.not_lt.mp h1) (List.not_lt.mp h)
    · rintro (h | ⟨h, _⟩) h2
      · exact List.lt_asymm h h2
      · exact e h.symm
theorem leP_total : TotalLe leP := sortLe_total (listOrd itemOrd) false fun q => keyToks (encP q)
/-- two rearrangements of a list in that order are one -/
theorem leP_one {l m : List (Str × Nat)} (p : l.Perm m) (hl : l.Pairwise fun a b => leP a b = true) (hm : m.Pairwise fun a b => leP a b = true) : l = m :=
  p.eq_of_pairwise (fun a b _ _ h1 h2 => by
    have h1 := leP_iff.mp h1
    have h2 := leP_iff.mp h2
    rcases h1 with h1 | ⟨e1, h1⟩ <;> rcases h2 with h2 | ⟨e2, h2⟩
    · exact absurd h2 (List.lt_asymm h1)
    · rw [e2] at h1
      exact absurd h1 (List.lt_irrefl _)
    · rw [e1] at h2
      exact absurd h2 (List.lt_irrefl _)
    · exact Prod.ext e1 (by omega)) hl hm
section
variable {X : Cx}
/-- sorted(xs), xs a list of such pairs: a new list, in order -/
def rSortSI (K : PySem.W.Frag) : List V → Hp → VK → Prop := fun vs H Q => ∃ (a : Addr) (ps : List Addr) (qs : List (Str × Nat)), vs = [V.ref a] ∧ SqL K H a (ps.map V.ref) ∧ ps.length = qs.length ∧ (∀ (j : Nat) (p : Addr) (q : Str × Nat), ps[j]? = some p → qs[j]? = some q → H p = some (.tup [.str q.1, .int (q.2 : Nat)])) ∧
  ∀ (p : Addr) (ps' : List Addr) (qs' : List (Str × Nat)), qs'.Perm qs → (qs'.Pairwise fun a b => leP a b = true) → ps'.length = qs'.length → (∀ (j : Nat) (p : Addr) (q : Str × Nat), ps'[j]? = some p → qs'[j]? = some q → H p = some (.tup [.str q.1, .int (q.2 : Nat)])) → H p = none → Q (.ref p) (upd H p (.lst (ps'.map V.ref)))
def RP (H : Hp) (v : Value) (q : Str × Nat) : Prop := ∃ p, v = .ref p ∧ H p = some (.tup [.str q.1, .int (q.2 : Nat)])
theorem each_vals {H : Hp} : ∀ {ps : List Addr} {qs : List (Str × Nat)} {us : List Value}, ps.length = qs.length → (∀ (j : Nat) (p : Addr) (q : Str × Nat), ps[j]? = some p → qs[j]? = some q → H p = some (.tup [.str q.1, .int (q.2 : Nat)])) → Vals (ps.map V.ref) us → EachIs (RP H) us qs
  | [], [], _, _, _, .nil => .nil
  | p :: ps, q :: qs, _, l, h, .cons r t => by
    cases r
    exact .cons ⟨p, rfl, h 0 p q rfl rfl⟩ (each_vals (by simpa using l) (fun j p' q' h1 h2 => h (j + 1) p' q' h1 h2) t)
theorem each_back {H : Hp} : ∀ {us : List Value} {qs : List (Str × Nat)}, EachIs (RP H) us qs → ∃ ps : List Addr, us = ps.map Value.ref ∧ ps.length = qs.length ∧ ∀ (j : Nat) (p : Addr) (q : Str × Nat), ps[j]? = some p → qs[j]? = some q → H p = some (.tup [.str q.1, .int (q.2 : Nat)])
  | [], [], .nil => ⟨[], rfl, rfl, fun j p q h => by simp at h⟩
  | u :: us, q :: qs, .cons ⟨p, e, h⟩ t => by
    obtain ⟨ps, e1, l, k⟩ := each_back t
    refine ⟨p :: ps, by rw [List.map_cons, e, e1], by simp [l], fun j p' q' h1 h2 => ?_⟩
    cases j with
    | zero => cases h1; cases h2; exact h
    | succ j => exact k j p' q' h1 h2
theorem vals_refs : ∀ ps : List Addr, Vals (ps.map V.ref) (ps.map Value.ref)
  | [] => .nil
  | p :: ps => .cons rfl (vals_refs ps)
theorem cr_sortSI {k : Nat} (hr : Room k X.A) : CallR X (.builtin "sorted") (rSortSI X.K) := by
  intro pins s σ H vs us Q I r h
  obtain ⟨a, ps, qs, rfl, hs, hl, hp, q⟩ := h
  obtain ⟨its, rv, pl, hz⟩ := I.list hs
  obtain ⟨u, rfl, ru⟩ := vals1 r
  obtain rfl : u = Value.ref a := ru
  have e := each_vals hl hp rv
  have lq : qs.length ≤ sizeLine := by rw [← hl]; rw [List.length_map] at hz; exact hz
  refine sorted_data (enc := encP) (R := RP H) pl.isList e (e.mono fun v q' hv => ?_) (AllAlike.of alikeP) (Sortable.tuples fun b => ⟨_, _, rfl⟩) lq (fun b _ => ?_) fun out lo eo => ?_
  · obtain ⟨p, rfl, hq⟩ := hv
    obtain ⟨_, its2, r2, o, ho, hc, n, hd⟩ := I.hok _ _ hq
    obtain ⟨u1, u2, rfl, ri, rj⟩ := vals2 r2
    obtain ⟨t1, rfl⟩ := ri
    obtain ⟨t2, rfl⟩ := rj
    exact ⟨_, .tuple ho hc hd (.cons (.str _ _) (.cons (.int _ _) .nil))⟩
  · have hd : (encP b).depth = 1 := rfl
    rw [hd]
    have := hr.units
    omega
  · obtain ⟨ps', rfl, l', k'⟩ := each_back eo
    obtain ⟨n, hn⟩ := sortedAll_at s.heap its ((ps'.map Value.ref).toArray)
    have hs' : qs.mergeSort (dataLe false encP) = qs.mergeSort leP := rfl
    rw [hs'] at l' k'
    refine ⟨.ref (s.heap.objs.size + 1), upd H (s.heap.objs.size + 1) (.lst (ps'.map V.ref)), I.laid (t' := s.toks) (fun b o e => sortedAll_old e) (Nat.le_succ _) ⟨?_, ps'.map Value.ref, n, vals_refs ps', hn⟩, rfl, q _ ps' (qs.mergeSort leP) (List.mergeSort_perm _ _) (sort_pairwise leP_total qs) l' k' (I.hok.fresh (Nat.le_succ _))⟩
    rw [List.length_map, l', (List.mergeSort_perm _ _).length_eq]
    exact lq
end
end Zs
set_option Elab.async false
set_option linter.all false
set_option autoImplicit false
set_option maxRecDepth 100000
set_option maxHeartbeats 4000000
/-! Rl: how long data are when they are written out. -/
namespace Rl
open PySem PySem.Spec PyProof.Rows L2 Vb Wd
def lens (l : List Str) : Nat := (l.map (·.length)).sum
theorem join_len (y : Str) : ∀ l : List Str, (Str.join y l).length ≤ lens l + l.length * y.length
  | [] => Nat.zero_le _
  | [x] => by
    show x.length ≤ _
    simp [lens]
  | x :: z :: r => by
    have h := join_len y (z :: r)
    show (x ++ y ++ Str.join y (z :: r)).length ≤ _
    rw [PySem.Str.length_append, PySem.Str.length_append]
    simp only [lens, List.map_cons, List.sum_cons, List.length_cons] at h ⊢
    have e : (r.length + 1 + 1) * y.length = (r.length + 1) * y.length + y.length := Nat.succ_mul _ _
    omega
/-- data that may be written out: how deep, how long -/
structure Shw (n m : Nat) (d : PyData) : Prop where
  sh : d.showable = true
  nd : d.hasDict = false
  dp : d.depth ≤ n
  ln : d.shown.length ≤ m
theorem Shw.le {n m n' m' : Nat} {d : PyData} (h : Shw n m d) (a : n ≤ n') (b : m ≤ m') : Shw n' m' d := ⟨h.sh, h.nd, Nat.le_trans h.dp a, Nat.le_trans h.ln b⟩
theorem shw_str {z : Str} {k : Nat} (a : Asc z) (l : z.length ≤ k) : Shw 0 (10 * k + 2) (.str z) := by
  refine ⟨rfl, rfl, Nat.le_refl _, ?_⟩
  rw [PyData.shown_str]
  have := PySem.StrLaws.reprText_len z fun c hc => Nat.lt_trans (a c hc) (by decide)
  omega
theorem shw_nat {i : Nat} (h : i < 1000) : Shw 0 12 (.int i) := by
  have lg : ∀ n < 1000, ((n : Nat) : Int).natAbs.log2 < 1920 ∧ (PyData.int ((n : Nat) : Int)).shown.length ≤ 12 := by decide +kernel
  obtain ⟨h1, h2⟩ := lg i h
  exact ⟨decide_eq_true h1, rfl, Nat.le_refl _, h2⟩
theorem shw_all {n m : Nat} : ∀ {ds : List PyData}, (∀ d ∈ ds, Shw n m d) → PyData.showableAll ds = true ∧ PyData.hasDictAll ds = false ∧ PyData.depthAll ds ≤ n ∧ lens (PyData.shownAll ds) ≤ ds.length * m ∧ (PyData.shownAll ds).length = ds.length
  | [], _ => ⟨rfl, rfl, Nat.zero_le _, by rw [PyData.shownAll_nil]; exact Nat.zero_le _, by rw [PyData.shownAll_nil]; rfl⟩
  | d :: ds, h => by
    obtain ⟨h1, h2, h3, h4, h5⟩ := shw_all fun x hx => h x (List.mem_cons_of_mem _ hx)
    obtain ⟨k1, k2, k3, k4⟩ := h d List.mem_cons_self
    refine ⟨?_, ?_, ?_, ?_, ?_⟩
    · show (PyData.showable d && PyData.showableAll ds) = true
      rw [k1, h1]
      rfl
    · show (PyData.hasDict d || PyData.hasDictAll ds) = false
      rw [k2, h2]
      rfl
    · show max (PyData.depth d) (PyData.depthAll ds) ≤ n
      omega
    · rw [PyData.shownAll_cons]
      unfold lens at h4 ⊢
      rw [List.map_cons, List.sum_cons, List.length_cons, Nat.succ_mul]
      omega
    · rw [PyData.shownAll_cons, List.length_cons, List.length_cons, h5]
theorem shw_tup {n m k : Nat} {ds : List PyData} (h : ∀ d ∈ ds, Shw n m d) (l : ds.length ≤ k) : Shw (n + 1) (3 + k * (m + 2)) (.tuple ds) := by
  obtain ⟨h1, h2, h3, h4, h5⟩ := shw_all h
  refine ⟨h1, h2, ?_, ?_⟩
  · show PyData.depthAll ds + 1 ≤ n + 1
    omega
  · rw [PyData.shown_tuple, PySem.Str.length_append, PySem.Str.length_append]
    have j := join_len ", " (PyData.shownAll ds)
    have l2 : (", " : Str).length = 2 := by decide +kernel
    have l1 : ("(" : Str).length = 1 := by decide +kernel
    have le : (Str.ofString (if ds.length == 1 then ",)" else ")")).length ≤ 2 := by
      split <;> decide +kernel
    have mul := Nat.mul_le_mul_right (m + 2) l
    rw [l2, h5] at j
    rw [l1]
    rw [Nat.mul_add] at mul
    rw [Nat.mul_add] at mul ⊢
    omega
theorem shw_lst {n m k : Nat} {ds : List PyData} (h : ∀ d ∈ ds, Shw n m d) (l : ds.length ≤ k) : Shw (n + 1) (2 + k * (m + 2)) (.list ds) := by
  obtain ⟨h1, h2, h3, h4, h5⟩ := shw_all h
  refine ⟨h1, h2, ?_, ?_⟩
  · show PyData.depthAll ds + 1 ≤ n + 1
    omega
  · rw [PyData.shown_list, PySem.Str.length_append, PySem.Str.length_append]
    have j := join_len ", " (PyData.shownAll ds)
    have l2 : (", " : Str).length = 2 := by decide +kernel
    have l1 : ("[" : Str).length = 1 := by decide +kernel
    have le : ("]" : Str).length = 1 := by decide +kernel
    have mul := Nat.mul_le_mul_right (m + 2) l
    rw [l2, h5] at j
    rw [l1, le]
    rw [Nat.mul_add] at mul
    rw [Nat.mul_add] at mul ⊢
    omega
end Rl
set_option Elab.async false
set_option linter.all false
set_option autoImplicit false
set_option maxRecDepth 100000
set_option maxHeartbeats 4000000
/-! Rd: repr of any data, in calm room. -/
namespace Rd
open PySem PySem.Spec PyProof.Rows L2 Vb
def rReprD (K : PySem.W.Frag) : List V → Hp → VK → Prop := fun xs H Q => ∃ (v : V) (d : PyData), xs = [v] ∧ Dp K H v d ∧ d.showable = true ∧ d.hasDict = false ∧ d.depth < 64 ∧ d.shown.length ≤ sizeLine ∧ Q (.str d.shown) H
theorem cr_reprD {X : Cx} (hc : Calm X.A) (hu : X.A.units + 64 < cLine) : CallR X (.builtin "repr") (rReprD X.K) := by
  intro pins s σ H xs us Q I r h
  obtain ⟨v, d, rfl, hd, hs, hn, hz, hl, q⟩ := h
  obtain ⟨u, rfl, r1⟩ := vals1 r
  have same : ∀ {t : Tok}, Inv X pins σ H { s with toks := t } := fun {t} => I.kept (h' := s.heap) (t' := t) fun _ _ e => e
  cases hd with
  | non =>
    cases (show u = Value.none from r1)
    exact PySem.P.repr_of_none ⟨.str _, H, same, ⟨_, rfl⟩, q⟩
  | bl b =>
    cases (show u = Value.bool b from r1)
    exact PySem.P.repr_of_bool ⟨.str _, H, same, ⟨_, rfl⟩, q⟩
  | int i =>
    obtain ⟨t, rfl⟩ := r1
    exact PySem.P.repr_of_int (of_decide_eq_true hs) ⟨.str _, H, same, ⟨_, rfl⟩, q⟩
  | str x =>
    obtain ⟨t, rfl⟩ := r1
    exact PySem.P.repr_of_str ⟨.str _, H, same, ⟨_, rfl⟩, q⟩ (hsz := hl)
  | lst a b => exact call_repr_data hc hu pins s σ H _ _ Q I (.cons r1 .nil) ⟨_, _, rfl, .lst a b, hs, hn, hz, hl, q⟩
  | tup a b => exact call_repr_data hc hu pins s σ H _ _ Q I (.cons r1 .nil) ⟨_, _, rfl, .tup a b, hs, hn, hz, hl, q⟩
end Rd
set_option Elab.async false
set_option linter.all false
set_option autoImplicit false
set_option maxRecDepth 100000
set_option maxHeartbeats 4000000
/-! Ed: == and != of lists that hold flat values, lists of these, and dicts; != of an object of an own class with a value of another kind. -/
namespace Ed
open PySem PySem.Spec PyProof.Rows L2 Vb Xv Oq Oi
section
variable {X : Cx} {n m : Nat} {D D' : EqD}
theorem EqB_or (h : EqB X n D) (h' : EqB X n D') : EqB X n (fun x y b H => D x y b H ∨ D' x y b H) := fun A pins s σ H x y b u v sb c I rx ry d => by
  rcases d with d | d
  · exact h A pins s σ H x y b u v sb c I rx ry d
  · exact h' A pins s σ H x y b u v sb c I rx ry d
theorem MonD_or (h : MonD D) (h' : MonD D') : MonD (fun x y b H => D x y b H ∨ D' x y b H) := fun x y b H H' e d => d.elim (fun d => .inl (h x y b H H' e d)) fun d => .inr (h' x y b H H' e d)
theorem mon_flatB : MonD BFlat := fun _ _ _ _ _ _ d => d
theorem mon_listB {ng : Bool} (h : MonD D) : MonD (BList D ng) := fun x y b H H' e d => by
  obtain ⟨p, q, xs, ys, f, hx, hy, h1, h2, h3, h4⟩ := d
  exact ⟨p, q, xs, ys, f, hx, hy, e _ _ h1, e _ _ h2, fun i x y a b => h _ _ _ _ _ e (h3 i x y a b), h4⟩
theorem eqV_self {x : V} (f : flatV x = true) : eqV x x = true := by
  cases x with
  | non => rfl
  | bl b => cases b <;> rfl
  | int i => simp [eqV]
  | str z => simp [eqV]
  | _ => exact absurd (show false = true from f) Bool.false_ne_true
theorem eqB_flats : EqB X 1 (BList BFlat false) :=
  (rcB_list_eq mon_flatB eqB_flat).eqB fun x y b H d => by
    obtain ⟨p, q, xs, ys, f, hx, hy, h1, h2, h3, h4⟩ := d
    refine ⟨p, q, hx, hy, fun e => ?_⟩
    subst e
    have exy : xs = ys := by
      have := h1.symm.trans h2
      injection this with this
      injection this
    subst exy
    have all : (List.range xs.length).all f = true := List.all_eq_true.mpr fun i hi => by
      have il := List.mem_range.mp hi
      have hg : xs[i]? = some xs[i] := List.getElem?_eq_getElem il
      obtain ⟨f1, _, f3⟩ := h3 i _ _ hg hg
      rw [← f3]
      exact eqV_self f1
    rw [← h4, all, decide_eq_true rfl]
    rfl
/-! ### dicts -/
def sameV (v : V) : Bool := flatB v || (match v with
  | .ref _ => true
  | _ => false)
theorem eqAt_sameV {A : Around} {s : Shared} {v : V} {u u' : Value} (r : RelV v u) (r' : RelV v u') (f : sameV v = true) : SeqAt.EqAt A s u u' true := by
  cases v with
  | ref a =>
    cases (show u = Value.ref a from r)
    cases (show u' = Value.ref a from r')
    exact SeqAt.EqAt.same _
  | non => exact eqAt_same r r' rfl
  | bl b => exact eqAt_same r r' rfl
  | int i => exact eqAt_same r r' rfl
  | str z => exact eqAt_same r r' rfl
  | byt b => exact eqAt_same r r' rfl
  | _ => exact absurd (show false = true from f) Bool.false_ne_true
theorem hits_same {A : Around} {s : Shared} {kvs : List (Key × V)} {vb : List (Key × Value)} (rb : KV kvs vb) {ks : List (Key × V)} {va : List (Key × Value)} (ra : KV ks va) :
    (∀ p ∈ ks, valV kvs p.1 = some p.2 ∧ sameV p.2 = true) → PySem.W.KeqHits A s vb va true := by
  unfold KV at ra
  induction ra with
  | nil => intro _; exact .nil
  | @cons p q ps qs h t ih =>
    intro hp
    obtain ⟨h1, h2⟩ := h
    obtain ⟨e, f⟩ := hp p List.mem_cons_self
    have rr : RelO (some p.2) (valueAt vb p.1) := by rw [← e]; exact rb.val p.1
    obtain ⟨y, hy, ry⟩ := rr.some_of
    obtain ⟨k, v⟩ := q
    have h1' : p.1 = k := h1
    rw [h1'] at hy
    show PySem.W.KeqHits A s vb ((k, v) :: qs) (true && true)
    exact .hit hy (eqAt_sameV h2 ry f) (ih fun p' hm => hp p' (List.mem_cons_of_mem _ hm))
def BDict : EqD := fun x y b H => ∃ (p q : Addr) (ks ls : List (Key × V)), x = .ref p ∧ y = .ref q ∧ H p = some (.dK ks) ∧ H q = some (.dK ls) ∧ (p = q → b = true) ∧
  ((b = true ∧ ks.length = ls.length ∧ ∀ k ∈ ks, valV ls k.1 = some k.2 ∧ sameV k.2 = true) ∨ (b = false ∧ ks.length ≠ ls.length))
theorem mon_dict : MonD BDict := fun x y b H H' e d => by
  obtain ⟨p, q, ks, ls, hx, hy, h1, h2, h3, h4⟩ := d
  exact ⟨p, q, ks, ls, hx, hy, e _ _ h1, e _ _ h2, h3, h4⟩
theorem rcB_dict : RcB X 0 .Eq BDict := by
  intro A pins s σ H x y t u v sb hc I rx ry d
  obtain ⟨a, b, ks, ls, rfl, rfl, ea, eb, _, h⟩ := d
  obtain rfl : u = Value.ref a := rx
  obtain rfl : v = Value.ref b := ry
  obtain ⟨_, ya, va, ra, da⟩ := (show ObjOk X.prog X.w H s.heap a (.dK ks) from I.hok a _ ea)
  obtain ⟨_, yb, vb, rb, db⟩ := (show ObjOk X.prog X.w H s.heap b (.dK ls) from I.hok b _ eb)
  have go : wpAny (model X.prog X.w) A (compareOp .Eq (.ref a) (.ref b)) (fun r s' => r = .bool t ∧ ∃ H', Inv X pins σ H' s' ∧ Ext H H') X.xe s := by
    rcases h with ⟨rfl, hlen, hp⟩ | ⟨rfl, hlen⟩
    · have hl : va.length = vb.length := by rw [← ra.length, ← rb.length]; exact hlen
      exact PySem.W.keq_eq (knd := mixKind X.prog X.w) (r := true) ya yb da db sb.room.units0 (fun _ => hits_same rb ra hp) ⟨by simp [hl], H, I, Ext.rfl'⟩
    · have hl : va.length ≠ vb.length := by rw [← ra.length, ← rb.length]; exact hlen
      exact PySem.W.keq_eq (knd := mixKind X.prog X.w) (r := true) ya yb da db sb.room.units0 (fun e => absurd e hl) ⟨by simp [hl], H, I, Ext.rfl'⟩
  exact go
theorem eqB_dict : EqB X 0 BDict := rcB_dict.eqB fun x y b H d => by
  obtain ⟨p, q, _, _, hx, hy, _, _, h, _⟩ := d
  exact ⟨p, q, hx, hy, h⟩
/-- flat values, lists of these, dicts -/
def BIt : EqD := fun x y b H => BFlat x y b H ∨ (BList BFlat false x y b H ∨ BDict x y b H)
theorem mon_it : MonD BIt := MonD_or mon_flatB (MonD_or (mon_listB mon_flatB) mon_dict)
theorem eqB_it : EqB X 1 BIt := EqB_or (eqB_flat.mono (Nat.zero_le _)) (EqB_or eqB_flats (eqB_dict.mono (Nat.zero_le _)))
end
/-! ### o != v, v of any known kind -/
def rNeA (K : PySem.W.Frag) (C : Addr) (sp : Sp) : R2 := fun x y H Q => ∃ (a dx : Addr) (fs : List (Str × V)) (tb : Value), x = .ref a ∧ H a = some (.ins C dx fs) ∧ TyX K H y tb ∧ PySem.W.notFirst K C tb = true ∧ sp [.ref a, y] H (fun v H' => ∃ t, v = .bl t ∧ Q (.bl (!t)) H') E0
section
variable {X : Cx} {k : Nat} {f C : Addr} {fd : FuncData} {ps : List Str} {sp : Sp}
theorem op_neA (F : FnG X.prog X.w X.K X.mg X.base k f fd ps sp) (hs : PySem.W.findIn X.K (.ref C) "__eq__" = some (some (.ref f))) (hf : PySem.W.isFn X.K (.ref f) = true) (hn : PySem.W.findIn X.K (.ref C) "__ne__" = some (some (.builtin "object.__ne__")))
    (hm : PySem.W.mroIn X.K C (.type "object") = some true) (hb : Binds X.K fd ps []) (hc : Calm X.A) (hr : Room (k + 1) X.A) : OpR X (compareOp .NotEq) (rNeA X.K C sp) := by
  intro pins s σ H x y v u Q I rx ry h
  obtain ⟨a, dx, fs, tb, rfl, ha, ty, nf, hq⟩ := h
  cases rx
  obtain ⟨mA, J, _⟩ := ins_get I.hok ha
  obtain ⟨od, J, _⟩ := J.look
  have one : wpAny (model X.prog X.w) X.A (tryCompare (.ref a) "__ne__" u) (fun r s' => ∃ v, r = some v ∧ EP X pins σ Q v s') X.xe s := by
    unfold tryCompare
    refine wpAny_bind (ifBoundB I.kIn J hn PySem.F.cmp_object.ne.bind (ne_call hr.in1.units0 I.kIn J hm hs hf (thn (run_deep (vs := [.ref a, y]) rfl F hc hr.in1 hb I (.cons rfl (.cons ry .nil)) hq) fun v s' hv => ?_)))
    obtain ⟨z, H', I', rz, t, ez, q⟩ := hv
    subst ez
    cases (show v = Value.bool t from rz)
    exact ⟨t, rfl, wpAny_pure ⟨_, rfl, .bl (!t), H', I', rfl, q⟩⟩
  show wpAny (model X.prog X.w) X.A (richCompare .NotEq (.ref a) u) (EP X pins σ Q) X.xe s
  unfold richCompare
  simp only [oneThing_ref]
  refine wpAny_holding (wpAny_bind (wpAny_cRoomFor hr.units0 ?_))
  refine wpAny_bind (J.type.here (wpAny_bind ((looks_ty I ry ty).here ?_)))
  split
  · rename_i q
    have e : PySem.W.subIn X.K tb (.ref C) = some false := by
      rcases Bool.or_eq_true_iff.mp nf with e | e
      · rw [beq_iff_eq.mp e] at q; simp at q
      · exact beq_iff_eq.mp e
    refine wpAny_bind ((PySem.W.looks_subIn I.kIn e).here ?_)
    simp only [Bool.false_eq_true, if_false]
    refine wpAny_bind (wpAny_mono one (fun r s' z => ?_) fun _ _ e => e)
    obtain ⟨v, rfl, hq⟩ := z
    exact wpAny_pure hq
  · refine wpAny_bind (wpAny_pure ?_)
    simp only [Bool.false_eq_true, if_false]
    refine wpAny_bind (wpAny_mono one (fun r s' z => ?_) fun _ _ e => e)
    obtain ⟨v, rfl, hq⟩ := z
    exact wpAny_pure hq
end
end Ed
set_option Elab.async false
set_option linter.all false
set_option autoImplicit false
set_option maxRecDepth 100000
set_option maxHeartbeats 4000000
namespace K12
open PySem PySem.Spec PyProof.Rows L2 Vb Wd Xd Xo Xi Xm Xr Xv Ts K01 Oq Oi Zt Zk Zs Rl Rd Ed
theorem Kids.tupsZ {H H' : Hp} {c : Addr} {ts : List Addr} {cs : List (Str × Int)} (b : Tups H H') (k : Kids H c ts cs) : Kids H' c ts cs :=
  ⟨b _ _ k.at_, k.len, k.lo, k.hi, fun i t c h1 h2 => let q := k.kid i t c h1 h2; ⟨b _ _ q.at_, q.nam, q.plain, q.lo, q.hi⟩⟩
theorem nam_asc {z : Str} (h : isNam (.str z) = true) : Asc z := fun c hc => by
  have h3 := (nam_len h).2.2
  have := List.all_eq_true.mp h3 c hc
  unfold low at this
  rw [Bool.and_eq_true, decide_eq_true_eq, decide_eq_true_eq] at this
  omega
/-- the sorts of a scheme are plain -/
theorem said_asc {H : Hp} {C CS a : Addr} {b : Str} {ys : List Str} {ds : List FD} (S : SchemeAt H C CS a b ys ds) : ∀ z ∈ ys ++ said ds, Asc z := fun z hz => by
  rcases List.mem_append.mp hz with h | h
  · exact (S.tops.1 z h).2
  · unfold said at h
    obtain ⟨d, hd, h⟩ := List.mem_flatMap.mp h
    rcases List.mem_cons.mp h with rfl | h
    · exact nam_asc (S.nams d hd).2
    · obtain ⟨c, hc, rfl⟩ := List.mem_map.mp h
      obtain ⟨dx, t, bn, nm, f, so, kvs, fs, zs, ha, ht, hn, hf, FF, _⟩ := S.ex
      obtain ⟨i, hi⟩ := List.mem_iff_getElem?.mp hd
      have il := (List.getElem?_eq_some_iff.mp hi).1
      have FL := FF.len
      obtain ⟨ch, ts, FA⟩ := FF.at_ i fs[i] d (List.getElem?_eq_getElem (by omega)) hi
      obtain ⟨j, hj⟩ := List.mem_iff_getElem?.mp hc
      have jl := (List.getElem?_eq_some_iff.mp hj).1
      have kl := FA.kids.len
      exact (FA.kids.kid j ts[j] c (List.getElem?_eq_getElem (by omega)) hj).plain.2
theorem same_none {H H' : Hp} {p : Addr} (s : Same H H') (n : H' p = none) : H p = none := by
  cases e : H p with
  | none => rfl
  | some o =>
    rw [s _ _ e] at n
    cases n
/-! ### the words of a scheme, in order -/
theorem names_one {ds : List FD} {ps : List (FD × Addr)} {zs : List Str} (pm : ds.Perm (ps.map (·.1))) (nd : (ps.map (·.1.1)).Nodup) (srt : sortedS (ds.map (·.1)) = true) (pz : zs.Perm (ps.map (·.1.1))) (sz : sortedS zs = true) : zs = ds.map (·.1) := by
  have e : (ds.map (·.1)).Perm (ps.map (·.1.1)) := by
    have := pm.map (·.1)
    rw [List.map_map] at this
    exact this
  exact pair_uniq (sorted_pair sz (pz.nodup_iff.mpr nd)) (sorted_pair srt (e.nodup_iff.mpr nd)) fun k => (pz.mem_iff).trans e.mem_iff.symm
theorem sorts_one {ys zs : List Str} (h : ∀ k, k ∈ ys ↔ k ∈ zs) (sy : sortedS ys = true) (sz : sortedS zs = true) (ny : ys.Nodup) (nz : zs.Nodup) : ys = zs := pair_uniq (sorted_pair sy ny) (sorted_pair sz nz) h
/-- the row of a form by its name -/
theorem row_at {ds : List FD} {ps : List (FD × Addr)} (pm : ds.Perm (ps.map (·.1))) {i : Nat} {d : FD} (h : ds[i]? = some d) : ∃ p ∈ ps, p.1 = d := by
  obtain ⟨p, hp, e⟩ := List.mem_map.mp (pm.mem_iff.mp (List.mem_of_getElem? h))
  exact ⟨p, hp, e⟩
theorem rowOf_self {rows : List FD} (nd : (rows.map (·.1)).Nodup) {d : FD} (hd : d ∈ rows) : rowOf rows d.1 = d := by
  obtain ⟨h1, h2⟩ := rowOf_mem (List.mem_map.mpr ⟨d, hd, rfl⟩)
  generalize rowOf rows d.1 = r at h1 h2
  induction rows with
  | nil => cases hd
  | cons x l ih =>
    rw [List.map_cons] at nd
    obtain ⟨n1, n2⟩ := List.nodup_cons.mp nd
    rcases List.mem_cons.mp h1 with e1 | m1
    · rcases List.mem_cons.mp hd with e2 | m2
      · rw [e1, e2]
      · exact (n1 (List.mem_map.mpr ⟨d, m2, by rw [← h2, e1]⟩)).elim
    · rcases List.mem_cons.mp hd with e2 | m2
      · exact (n1 (List.mem_map.mpr ⟨r, m1, by rw [h2, e2]⟩)).elim
      · exact ih n2 m2 m1
theorem lines_one {ds : List FD} {ps : List (FD × Addr)} (pm : ds.Perm (ps.map (·.1))) (nd : (ps.map (·.1.1)).Nodup) : (ds.map (·.1)).map (lineOf (ps.map (·.1))) = ds.map lineF := by
  rw [List.map_map]
  refine List.map_congr_left fun d hd => ?_
  have nd' : ((ps.map (·.1)).map (·.1)).Nodup := by rw [List.map_map]; exact nd
  show lineOf (ps.map (·.1)) d.1 = lineF d
  unfold lineOf lineF
  rw [rowOf_self nd' (pm.mem_iff.mp hd)]
theorem tops_line {b : Str} {ts : List Str} (h : b ∈ ts) : Txt.join " " ("tops" :: ts) = "tops " ++ Txt.join " " ts := by
  cases ts with
  | nil => cases h
  | cons y r =>
    rw [TL.join_eq, TL.join_eq]
    show ("tops" : Str) ++ " " ++ Str.join " " (y :: r) = _
    rw [show ("tops" : Str) ++ " " = "tops " from by decide +kernel]
theorem dig_asc : ∀ n < 64, Asc (Str.ofString (toString ((n : Nat) : Int))) := fun n h c hc => by
  have : ∀ n < 64, (Str.ofString (toString ((n : Nat) : Int))).cps.toList.all (· < 128) = true := by decide +kernel
  exact of_decide_eq_true (List.all_eq_true.mp (this n h) c hc)
theorem asc_tell (n m : Nat) (hn : n < 64) (hm : m < 64) : Asc (tellS n m) ∧ (tellS n m).length ≤ 1000 := by
  have t1 := two_signs n hn
  have t2 := two_signs m hm
  have l1 : ("scheme of " : Str).length = 10 := by decide +kernel
  have l2 : (" forms, " : Str).length = 8 := by decide +kernel
  have l3 : (" sorts" : Str).length = 6 := by decide +kernel
  unfold tellS
  refine ⟨asc_app (asc_app (asc_app (asc_app (asc_lit (by decide +kernel)) (dig_asc n hn)) (asc_lit (by decide +kernel))) (dig_asc m hm)) (asc_lit (by decide +kernel)), ?_⟩
  rw [PySem.Str.length_append, PySem.Str.length_append, PySem.Str.length_append, PySem.Str.length_append, l1, l2, l3]
  omega
theorem nam8 {H : Hp} {C CS a : Addr} {b : Str} {ys : List Str} {ds : List FD} (S : SchemeAt H C CS a b ys ds) : ∀ y ∈ ys, isNam (.str y) = true := fun y hy => by
  have h := S.tops.2.2.1
  rw [Bool.and_eq_true] at h
  exact List.all_eq_true.mp h.1 y hy
theorem said_len8' {H : Hp} {C CS a : Addr} {b : Str} {ys : List Str} {ds : List FD} (S : SchemeAt H C CS a b ys ds) : ∀ y ∈ ys, y.length ≤ 8 := fun y hy => (nam_len (nam8 S y hy)).2.1
theorem said_len8 {H : Hp} {C CS a : Addr} {b : Str} {ys : List Str} {ds : List FD} (S : SchemeAt H C CS a b ys ds) : ∀ z ∈ ys ++ said ds, z.length ≤ 1000 := fun z hz => by
  rcases List.mem_append.mp hz with h | h
  · exact (S.tops.1 z h).1
  · unfold said at h
    obtain ⟨d, hd, h⟩ := List.mem_flatMap.mp h
    rcases List.mem_cons.mp h with rfl | h
    · have := (nam_len (S.nams d hd).2).2.1
      omega
    · obtain ⟨c, hc, rfl⟩ := List.mem_map.mp h
      obtain ⟨dx, t, bn, nm, f, so, kvs, fs, zs, ha, ht, hn, hf, FF, _⟩ := S.ex
      obtain ⟨i, hi⟩ := List.mem_iff_getElem?.mp hd
      have il := (List.getElem?_eq_some_iff.mp hi).1
      have FL := FF.len
      obtain ⟨ch, ts, FA⟩ := FF.at_ i fs[i] d (List.getElem?_eq_getElem (by omega)) hi
      obtain ⟨j, hj⟩ := List.mem_iff_getElem?.mp hc
      have jl := (List.getElem?_eq_some_iff.mp hj).1
      have kl := FA.kids.len
      exact (FA.kids.kid j ts[j] c (List.getElem?_eq_getElem (by omega)) hj).plain.1
theorem asc_joinS {ys : List Str} (a : ∀ y ∈ ys, Asc y) : Asc (Txt.join " " ys) := by
  rw [TL.join_eq]
  induction ys with
  | nil => exact asc_lit (by decide +kernel)
  | cons y r ih =>
    cases r with
    | nil => exact a y List.mem_cons_self
    | cons z r => exact asc_app (asc_app (a y List.mem_cons_self) (asc_lit (by decide +kernel))) (ih fun x hx => a x (List.mem_cons_of_mem _ hx))
theorem tops_fine {H : Hp} {C CS a : Addr} {b : Str} {ys : List Str} {ds : List FD} (S : SchemeAt H C CS a b ys ds) : Asc ("tops " ++ Txt.join " " ys) ∧ ("tops " ++ Txt.join " " ys).length ≤ 1000 := by
  refine ⟨asc_app (asc_lit (by decide +kernel)) (asc_joinS fun y hy => (S.tops.1 y hy).2), ?_⟩
  have l5 : ("tops " : Str).length = 5 := by decide +kernel
  have l1 : (" " : Str).length = 1 := by decide +kernel
  rw [PySem.Str.length_append, l5, TL.join_eq]
  have h1 := join_len " " ys
  have h2 := words_sum ys 8 (said_len8' S)
  have h3 := S.tops.2.1
  rw [l1] at h1
  unfold lens at h1
  omega
theorem line_fine {H : Hp} {ch : Addr} {ks : List Addr} {d : FD} (h1 : isNam (.str d.1) = true) (h2 : isNam (.str d.2.1) = true) (k : Kids H ch ks d.2.2) : (lineF d).length ≤ 100 ∧ Asc (lineF d) := by
  have kid : ∀ c ∈ d.2.2, isNam (.str c.1) = true ∧ 0 ≤ c.2 ∧ c.2 ≤ 3 := fun c hc => by
    obtain ⟨j, hj⟩ := List.mem_iff_getElem?.mp hc
    have jl := (List.getElem?_eq_some_iff.mp hj).1
    have kl := k.len
    have kk := k.kid j ks[j] c (List.getElem?_eq_getElem (by omega)) hj
    exact ⟨kk.nam, kk.lo, kk.hi⟩
  have wl : ∀ y ∈ d.2.2.map wordT, y.length ≤ 9 := fun y hy => by
    obtain ⟨c, hc', rfl⟩ := List.mem_map.mp hy
    obtain ⟨k1, k2, k3⟩ := kid c hc'
    unfold wordT
    rw [PySem.Str.length_append, one_sign k2 k3]
    have := (nam_len k1).2.1
    omega
  have sm := words_sum (d.2.2.map wordT) 9 wl
  have l4 : ("form" : Str).length = 4 := by decide +kernel
  have l1 : (" " : Str).length = 1 := by decide +kernel
  have n1 := (nam_len h1).2.1
  have n2 := (nam_len h2).2.1
  have h4 := k.hi
  have kl := k.len
  unfold lineF lineT
  constructor
  · rw [TL.join_eq]
    refine Nat.le_trans (join_len " " _) ?_
    rw [List.length_map] at sm
    unfold lens
    simp only [List.map_cons, List.sum_cons, List.length_cons, List.length_map]
    rw [l4, l1]
    omega
  · refine asc_joinS fun y hy => ?_
    rcases List.mem_cons.mp hy with rfl | hy
    · exact asc_lit (by decide +kernel)
    rcases List.mem_cons.mp hy with rfl | hy
    · exact nam_asc h1
    rcases List.mem_cons.mp hy with rfl | hy
    · exact nam_asc h2
    · obtain ⟨c, hc, rfl⟩ := List.mem_map.mp hy
      obtain ⟨k1, k2, k3⟩ := kid c hc
      refine asc_app (nam_asc k1) ?_
      obtain ⟨m, hm⟩ := nat_of k2
      rw [hm] at k3 ⊢
      exact dig_asc m (by omega)
theorem Held.plain {H : Hp} {a tl tb : Addr} {b : Str} {ts : List Str} {ps : List (FD × Addr)} (X : Held H a tl tb b ts ps) (O : SchOk b ts (ps.map (·.1))) : PlainAt H a tl tb b ts (ps.map (·.1)) (kvsP ps) := by
  have psn : (ps.map (·.1)).map (·.1) = ps.map (·.1.1) := by rw [List.map_map]; rfl
  obtain ⟨bm, ⟨d1, d24⟩, d8, once, kinds⟩ := O.parts
  have nd : (ps.map (·.1.1)).Nodup := by rw [← psn]; exact once
  obtain ⟨fy, ly, ny⟩ := O.tops
  refine ⟨X.at_, X.tops, X.dict, ?_, fun r hr => ?_, by omega, O.nams, (fy b bm).1, ⟨ly, fun y hy => (fy y hy).1⟩, ?_⟩
  · rw [kvsP_keys, List.map_map, List.map_map]
    rfl
  · obtain ⟨p, hp, rfl⟩ := List.mem_map.mp hr
    obtain ⟨ch, ks, e, k⟩ := X.row p hp
    exact ⟨p.2, ch, ks, kvsP_val nd hp, e, k⟩
  · rw [TL.join_eq]
    have h1 := join_len " " ts
    have h2 := words_sum ts 1000 fun y hy => (fy y hy).1
    have l1 : (" " : Str).length = 1 := by decide +kernel
    rw [l1] at h1
    unfold lens at h1
    omega
/-! ### what stays while dice roll -/
def Keep (H H' : Hp) : Prop := ∀ b o, (∀ g s c, o ≠ dz g s c) → (∀ ps, o ≠ .tbl ps) → H b = some o → H' b = some o
theorem Keep.same {H H' : Hp} (s : Same H H') : Keep H H' := fun b o _ _ h => s b o h
theorem Keep.past {d : Addr} {H H' : Hp} (hd : Dice H d) (p : Past d H H') : Keep H H' := fun b o n _ h => p.1 _ _ (ne_dice hd h n) h
theorem Keep.trans {H H1 H2 : Hp} (a : Keep H H1) (b : Keep H1 H2) : Keep H H2 := fun x o n t h => b x o n t (a x o n t h)
theorem Keep.refl (H : Hp) : Keep H H := fun _ _ _ _ h => h
theorem Keep.tup {H H' : Hp} (k : Keep H H') {b : Addr} {xs : List V} (h : H b = some (.tup xs)) : H' b = some (.tup xs) := k _ _ (fun _ _ _ z => nomatch z) (fun _ z => nomatch z) h
theorem Keep.ins {H H' : Hp} (k : Keep H H') {b C dx : Addr} {fs : List (Str × V)} (h : H b = some (.ins C dx fs)) : H' b = some (.ins C dx fs) := k _ _ (fun _ _ _ z => nomatch z) (fun _ z => nomatch z) h
theorem Keep.dk {H H' : Hp} (k : Keep H H') {b : Addr} {kvs : List (L2.Key × V)} (h : H b = some (.dK kvs)) : H' b = some (.dK kvs) := k _ _ (fun _ _ _ z => nomatch z) (fun _ z => nomatch z) h
theorem Keep.strs {H H' : Hp} (k : Keep H H') {b : Addr} {ys : List Str} (h : H b = some (.lst (ys.map V.str))) : H' b = some (.lst (ys.map V.str)) := k _ _ (fun g s c z => by
  cases ys with
  | nil => cases z
  | cons y r => cases z) (fun _ z => nomatch z) h
theorem Keep.tups {H H' : Hp} (k : Keep H H') : Tups H H' := fun b xs h => k.tup h
theorem Kids.keep {H H' : Hp} {c : Addr} {ts : List Addr} {cs : List (Str × Int)} (b : Keep H H') (k : Kids H c ts cs) : Kids H' c ts cs := k.tups b.tups
theorem FormAt.keep {H H' : Hp} {C a ch : Addr} {n so : Str} {ts : List Addr} {cs : List (Str × Int)} (s : Keep H H') (f : FormAt H C a ch n so ts cs) : FormAt H' C a ch n so ts cs := by
  obtain ⟨⟨dx, e⟩, k⟩ := f
  exact ⟨⟨dx, s.ins e⟩, k.keep s⟩
theorem SchemeAt.keep {H H' : Hp} {C CS a : Addr} {b : Str} {ys : List Str} {ds : List FD} (s : Keep H H') (S : SchemeAt H C CS a b ys ds) : SchemeAt H' C CS a b ys ds := by
  obtain ⟨⟨dx, t, bn, nm, f, so, kvs, fs, zs, ha, ht, hn, hf, FF, hb, hv, hs, mz, srt, nd⟩, q2, q3, q4, q5, q6, q7⟩ := S
  exact ⟨⟨dx, t, bn, nm, f, so, kvs, fs, zs, s.ins ha, s.tup ht, s.tup hn, s.tup hf, ⟨FF.len, fun i x d h1 h2 => by
    obtain ⟨ch, ts, FA⟩ := FF.at_ i x d h1 h2
    exact ⟨ch, ts, FA.keep s⟩⟩, s.dk hb, hv, s.tup hs, mz, srt, nd⟩, q2, q3, q4, q5, q6, q7⟩
theorem Held.keep {H H' : Hp} {a tl tb : Addr} {b : Str} {ts : List Str} {ps : List (FD × Addr)} (s : Keep H H') (X : Held H a tl tb b ts ps) : Held H' a tl tb b ts ps :=
  ⟨s _ _ (fun _ _ _ z => by cases z) (fun _ z => nomatch z) X.at_, s.strs X.tops, s.dk X.dict, fun p hp => by
    obtain ⟨ch, ks, e, k⟩ := X.row p hp
    exact ⟨ch, ks, s.tup e, k.keep s⟩⟩
theorem cut_takeG {α : Type} (f : α → V) (zs : List α) (m : Nat) : cutV (zs.map f) none (some (m : Int)) = (zs.take m).map f := by
  unfold cutV
  rw [HT.sIx_none, HT.sIx_nat]
  rw [List.drop_zero, Nat.sub_zero, List.length_map, ← List.map_take]
  by_cases h : m ≤ zs.length
  · rw [Nat.min_eq_left h]
  · rw [Nat.min_eq_right (by omega), List.take_of_length_le (Nat.le_refl _), List.take_of_length_le (by omega)]
theorem cut_dropG {α : Type} (f : α → V) (ws : List α) (m : Nat) : cutV (ws.map f) (some ((m : Int) + 1)) none = (ws.drop (m + 1)).map f := by
  unfold cutV
  have e : HT.sIx (ws.map f).length 0 (some ((m : Int) + 1)) = min (m + 1) (ws.map f).length := HT.sIx_nat _ _ (m + 1)
  rw [e, HT.sIx_none, List.length_map]
  by_cases h : ws.length ≤ m + 1
  · rw [Nat.min_eq_right h, List.drop_of_length_le (by rw [List.length_map]; exact Nat.le_refl _), List.drop_of_length_le h, List.take_nil]
    rfl
  · rw [Nat.min_eq_left (by omega), List.take_of_length_le (by rw [List.length_drop, List.length_map]; exact Nat.le_refl _), List.map_drop]
theorem catA_new {K : PySem.W.Frag} {a b : Addr} {xs ys : List V} {H : Hp} {Q : VK} (ha : H a = some (.tup xs)) (hb : H b = some (.tup ys)) (l : xs.length + ys.length ≤ sizeLine) (h : ∀ r H', Same H H' → H' r = some (.tup (xs ++ ys)) → Q (.ref r) H') : rCatA K (.ref a) (.ref b) H Q := by
  refine ⟨a, b, xs, ys, rfl, rfl, .inl (.inl ha), .inl (.inl hb), l, fun e => ?_, fun _ e => ?_, fun _ _ p np => h p _ (same_new np) upd_same⟩
  · subst e
    exact h b H (Same.refl H) hb
  · subst e
    exact h a H (Same.refl H) (by rw [List.append_nil]; exact ha)
/-- a form made anew -/
theorem made_form {K : PySem.W.Frag} {C x dx : Addr} {H1 : Hp} {R : VK} {E : XK} {n so : Str} {ch : Addr} {ks : List Addr} {cs : List (Str × Int)} (hn : isNam (.str n) = true) (hso : isNam (.str so) = true) (k : Kids H1 ch ks cs) (nx : H1 x = none) (ndx : H1 dx = none) (ne : dx ≠ x) (h : ∀ H', Same H1 H' → FormAt H' C x ch n so ks cs → R .non H') :
    spInit K C [.ref x, .str n, .str so, .ref ch] (upd (upd H1 dx (.own x)) x (.ins C dx [])) R E := by
  have c1 := (nam_len hn).2.1
  have c2 := (nam_len hso).2.1
  have s2 := (same_new (o := .own x) ndx).trans (same_new (o := .ins C dx []) (by rw [upd_ne ne.symm]; exact nx))
  refine ⟨x, dx, ch, n, so, ks, cs, rfl, upd_same, ⟨hn, by omega, nam_asc hn⟩, ⟨hso, by omega, nam_asc hso⟩, k.same s2, fun H' s' => ?_⟩
  generalize eH3 : upd H' x (.ins C dx (flds n so ch)) = H3
  have x3 : H3 x = some (.ins C dx (flds n so ch)) := by rw [← eH3]; exact upd_same
  have s13 : Same H1 H3 := fun b' o' h' => by
    have bx : b' ≠ x := ne_of_none h' nx
    rw [← eH3, upd_ne bx]
    exact s' _ _ (s2 _ _ h')
  exact h H3 s13 ⟨⟨dx, x3⟩, k.same s13⟩
theorem SchOk.of {b : Str} {ts : List Str} {rows : List FD} (bm : b ∈ ts) (d1 : 1 ≤ rows.length) (d24 : rows.length ≤ 24) (d8 : (dd (ts ++ said rows)).length ≤ 8) (once : (rows.map (·.1)).Nodup) (kinds : (rows.map (·.2)).Nodup) (nams : ∀ r ∈ rows, isNam (.str r.1) = true ∧ isNam (.str r.2.1) = true)
    (tops : (∀ y ∈ ts, Fine y) ∧ ts.length ≤ 60 ∧ (ts.all nam && asc ts) = true) : SchOk b ts rows := by
  refine ⟨?_, nams, tops⟩
  rw [schB_some, inV_mem bm, decide_eq_true d1, decide_eq_true d24, decide_eq_true d8, decide_eq_true once, decide_eq_true kinds]
  rfl
theorem SchOk.bare {b b' : Str} {ts : List Str} {rows : List FD} (S : SchOk b ts rows) (h : b' ∈ ts) : SchOk b' ts rows := by
  obtain ⟨_, ⟨d1, d24⟩, d8, once, kinds⟩ := S.parts
  exact SchOk.of h d1 d24 d8 once kinds S.nams S.tops
/-- the sorts that are said are names -/
theorem said_nam {rows : List FD} (nams : ∀ r ∈ rows, isNam (.str r.2.1) = true) (kids : ∀ r ∈ rows, ∀ c ∈ r.2.2, isNam (.str c.1) = true) : ∀ z ∈ said rows, isNam (.str z) = true := fun z hz => by
  unfold said at hz
  obtain ⟨r, hr, h⟩ := List.mem_flatMap.mp hz
  rcases List.mem_cons.mp h with rfl | h
  · exact nams r hr
  · obtain ⟨c, hc, rfl⟩ := List.mem_map.mp h
    exact kids r hr c hc
theorem Held.kids {H : Hp} {a tl tb : Addr} {b : Str} {ts : List Str} {ps : List (FD × Addr)} (X : Held H a tl tb b ts ps) : ∀ r ∈ ps.map (·.1), ∀ c ∈ r.2.2, isNam (.str c.1) = true := fun r hr c hc => by
  obtain ⟨p, hp, rfl⟩ := List.mem_map.mp hr
  obtain ⟨ch, ks, _, k⟩ := X.row p hp
  obtain ⟨j, hj⟩ := List.mem_iff_getElem?.mp hc
  have jl := (List.getElem?_eq_some_iff.mp hj).1
  have kl := k.len
  exact (k.kid j ks[j] c (List.getElem?_eq_getElem (by omega)) hj).nam
theorem dd_len_le {l m : List Str} (h : ∀ k ∈ l, k ∈ m) : (dd l).length ≤ (dd m).length := nodup_len _ _ (nodup_dd l) fun k hk => (mem_dd m k).mpr (h k ((mem_dd l k).mp hk))
/-- other tops: some more of the sorts -/
theorem SchOk.tops' {b : Str} {ts ts' : List Str} {rows : List FD} (S : SchOk b ts rows) (kids : ∀ r ∈ rows, ∀ c ∈ r.2.2, isNam (.str c.1) = true) {x : Str} (hx : x ∈ ts ++ said rows) (mem : ∀ k, k ∈ ts' ↔ k ∈ ts ++ [x]) (srt : sortedS ts' = true) (nd : ts'.Nodup) : SchOk b ts' rows := by
  obtain ⟨bm, ⟨d1, d24⟩, d8, once, kinds⟩ := S.parts
  obtain ⟨fy, ly, ny⟩ := S.tops
  rw [Bool.and_eq_true] at ny
  have sub : ∀ k ∈ ts', k ∈ ts ++ said rows := fun k hk => by
    rcases List.mem_append.mp ((mem k).mp hk) with h | h
    · exact List.mem_append_left _ h
    · rw [List.mem_singleton.mp h]
      exact hx
  have namS : ∀ k ∈ ts ++ said rows, isNam (.str k) = true := fun k hk => by
    rcases List.mem_append.mp hk with h | h
    · exact List.all_eq_true.mp ny.1 k h
    · exact said_nam (fun r hr => (S.nams r hr).2) kids k h
  have l8 : ts'.length ≤ 8 := Nat.le_trans (nodup_len ts' _ nd fun k hk => (mem_dd _ k).mpr (sub k hk)) d8
  refine SchOk.of ((mem b).mpr (List.mem_append_left _ bm)) d1 d24 (Nat.le_trans (dd_len_le fun k hk => ?_) d8) once kinds S.nams ⟨fun y hy => ?_, by omega, ?_⟩
  · rcases List.mem_append.mp hk with h | h
    · exact sub k h
    · exact List.mem_append_right _ h
  · have h := namS y (sub y hy)
    have := (nam_len h).2.1
    exact ⟨by omega, nam_asc h⟩
  · rw [Bool.and_eq_true]
    exact ⟨List.all_eq_true.mpr fun y hy => namS y (sub y hy), pair_asc (sorted_pair srt nd)⟩
/-- a form less -/
theorem SchOk.less {b : Str} {ts : List Str} {rows rows' : List FD} (S : SchOk b ts rows) (sl : rows'.Sublist rows) (d1 : 1 ≤ rows'.length) : SchOk b ts rows' := by
  obtain ⟨bm, ⟨_, d24⟩, d8, once, kinds⟩ := S.parts
  have := sl.length_le
  refine SchOk.of bm d1 (by omega) (Nat.le_trans (dd_len_le fun k hk => ?_) d8) (once.sublist (sl.map _)) (kinds.sublist (sl.map _)) (fun r hr => S.nams r (sl.subset hr)) S.tops
  rcases List.mem_append.mp hk with h | h
  · exact List.mem_append_left _ h
  · unfold said at h ⊢
    obtain ⟨r, hr, h⟩ := List.mem_flatMap.mp h
    exact List.mem_append_right _ (List.mem_flatMap.mpr ⟨r, sl.subset hr, h⟩)
/-- the rows but the one of that name -/
def butN (ps : List (FD × Addr)) (n : Str) : List (FD × Addr) := ps.filter fun p => decide (p.1.1 ≠ n)
theorem kvsP_drop (ps : List (FD × Addr)) (n : Str) : dropK (kvsP ps) (Sum.inr n) = kvsP (butN ps n) := by
  unfold dropK kvsP butN
  rw [List.filter_map]
  congr 1
  refine List.filter_congr fun p _ => ?_
  show decide (¬ (Sum.inr p.1.1 : L2.Key) = Sum.inr n) = decide (¬ p.1.1 = n)
  rw [Bool.eq_iff_iff, decide_eq_true_eq, decide_eq_true_eq]
  exact ⟨fun h e => h (congrArg Sum.inr e), fun h e => h (Sum.inr.inj e)⟩
theorem butN_len {ps : List (FD × Addr)} (nd : (ps.map (·.1.1)).Nodup) {p : FD × Addr} (hp : p ∈ ps) : (butN ps p.1.1).length + 1 = ps.length := by
  induction ps with
  | nil => cases hp
  | cons x l ih =>
    rw [List.map_cons] at nd
    obtain ⟨n1, n2⟩ := List.nodup_cons.mp nd
    unfold butN at ih ⊢
    rw [List.filter_cons]
    rcases List.mem_cons.mp hp with rfl | hp
    · rw [if_neg (by simp)]
      have : l.filter (fun q => decide (q.1.1 ≠ p.1.1)) = l := List.filter_eq_self.mpr fun q hq => decide_eq_true fun z => n1 (List.mem_map.mpr ⟨q, hq, z⟩)
      rw [this, List.length_cons]
    · rw [if_pos (decide_eq_true (p := x.1.1 ≠ p.1.1) fun z => n1 (List.mem_map.mpr ⟨p, hp, z.symm⟩)), List.length_cons, List.length_cons, ih n2 hp]
/-- two schemes of the same rows tell the same forms -/
theorem forms_one {ds ds' rows : List FD} (p : ds.Perm rows) (p' : ds'.Perm rows) (s : sortedS (ds.map (·.1)) = true) (s' : sortedS (ds'.map (·.1)) = true) (nd : (rows.map (·.1)).Nodup) : ds' = ds := by
  have n1 : (ds.map (·.1)).Nodup := (p.map (·.1)).nodup_iff.mpr nd
  have n2 : (ds'.map (·.1)).Nodup := (p'.map (·.1)).nodup_iff.mpr nd
  have e : ds'.map (·.1) = ds.map (·.1) := pair_uniq (sorted_pair s' n2) (sorted_pair s n1) fun k => ((p'.map (·.1)).mem_iff).trans (p.map (·.1)).mem_iff.symm
  have f : ∀ {l : List FD}, l.Perm rows → (l.map (·.1)).map (rowOf rows) = l := fun {l} q => by
    rw [List.map_map]
    have : l.map (rowOf rows ∘ fun d => d.1) = l.map id := List.map_congr_left fun d hd => rowOf_self nd (q.mem_iff.mp hd)
    rw [this, List.map_id]
  rw [← f p', e, f p]
/-- dict(pairs) of a dict's own pairs -/
theorem merge_self (ps : List (FD × Addr)) (nd : (ps.map (·.1.1)).Nodup) : mergeK [] (kvsP ps) = kvsP ps := by
  have go : ∀ (l done : List (FD × Addr)), ((done ++ l).map (·.1.1)).Nodup → mergeK (kvsP done) (kvsP l) = kvsP (done ++ l) := fun l => by
    induction l with
    | nil =>
      intro done _
      rw [List.append_nil]
      rfl
    | cons p l ih =>
      intro done h
      have e : putK (kvsP done) (Sum.inr p.1.1) (V.ref p.2) = kvsP (done ++ [p]) := kvsP_put fun hm => by
        rw [List.map_append, List.map_cons] at h
        obtain ⟨_, _, h3⟩ := List.nodup_append.mp h
        exact h3 _ hm _ List.mem_cons_self rfl
      have h' : ((done ++ [p]) ++ l).map (·.1.1) = (done ++ p :: l).map (·.1.1) := by rw [List.append_assoc]; rfl
      have := ih (done ++ [p]) (by rw [h']; exact h)
      rw [List.append_assoc] at this
      show mergeK (putK (kvsP done) (Sum.inr p.1.1) (V.ref p.2)) (kvsP l) = _
      rw [e, this]
      rfl
  exact go ps [] nd
/-- lists of texts, compared -/
theorem strs_dec {H : Hp} {p q : Addr} {xs ys : List Str} (h1 : H p = some (.lst (xs.map V.str))) (h2 : H q = some (.lst (ys.map V.str))) : BList BFlat false (.ref p) (.ref q) (decide (xs = ys)) H := by
  refine ⟨p, q, _, _, allE xs ys, rfl, rfl, h1, h2, fun i x y hx hy => ?_, ?_⟩
  · rw [List.getElem?_map] at hx hy
    obtain ⟨u, hu, rfl⟩ := Option.map_eq_some_iff.mp hx
    obtain ⟨v, hv, rfl⟩ := Option.map_eq_some_iff.mp hy
    refine ⟨rfl, rfl, ?_⟩
    unfold allE
    rw [hu, hv]
    by_cases e : u = v <;> simp [eqV, e]
  · rw [List.length_map, List.length_map, all_at, Bool.false_xor]
theorem SchOk.perm {b : Str} {ts : List Str} {rows rows' : List FD} (S : SchOk b ts rows) (p : rows'.Perm rows) : SchOk b ts rows' := by
  obtain ⟨bm, ⟨d1, d24⟩, d8, once, kinds⟩ := S.parts
  have l := p.length_eq
  refine SchOk.of bm (by omega) (by omega) (Nat.le_trans (dd_len_le fun k hk => ?_) d8) ((p.map _).nodup_iff.mpr once) ((p.map _).nodup_iff.mpr kinds) (fun r hr => S.nams r (p.mem_iff.mp hr)) S.tops
  rcases List.mem_append.mp hk with h | h
  · exact List.mem_append_left _ h
  · exact List.mem_append_right _ ((said_perm p k).mp h)
end K12
set_option Elab.async false
set_option linter.all false
set_option autoImplicit false
set_option maxRecDepth 100000
set_option maxHeartbeats 4000000
/-! Xu: try: .. except C1: .. except C2 as n2: .. -/
namespace Xu
open PySem PySem.Spec PyProof.Rows L2 Vb
/-- one clause: its class, its name's place if it has one, what its suite reads -/
structure Cl where
  cls : Value
  at_ : Option Nat
  ts : Addr → Value → Option Addr → TS
/-- what the clauses wish of what the body raised -/
def wCl (K : PySem.W.Frag) (out : WX) (D : Ends) : List Cl → WX
  | [] => out
  | c :: r => fun cls d σ H => ∃ b, PySem.W.exmOne K cls c.cls = some b ∧ (b = true → ∀ a, H a = none → match c.at_ with
      | some i => c.ts a cls d (Xt.gone i D) (σ.set i (some (.ref a))) H
      | none => c.ts a cls d D σ H) ∧ (b = false → wCl K out D r cls d σ H)
inductive Cls (X : Cx) : List ExceptHandler → List Cl → Prop
  | nil : Cls X [] []
  | cons {x n : Str} {c : Value} {i : Nat} {ts : Addr → Value → Option Addr → TS} {b₀ : Stmt} {suite : List Stmt} {p1 p2 : Pos} {hs : List ExceptHandler} {l : List Cl} (nc : Names X x c) (ni : X.N[i]? = some n) (ln : X.env.kindOf n = some .local)
      (su : ∀ (a : Addr) (oe : Obj) (cls : Value) (d : Option Addr) (pn : List (Addr × Obj)), Zc cls d oe → (∃ vs, oe.data = .fields vs) → PSs (X.suite a ((a, oe) :: pn)) (b₀ :: suite) (ts a cls d)) (r : Cls X hs l) :
      Cls X (.ExceptHandler (some (.Name x p1)) (some n) (b₀ :: suite) p2 :: hs) (⟨c, some i, ts⟩ :: l)
  | bare {x : Str} {c : Value} {ts : Addr → Value → Option Addr → TS} {b₀ : Stmt} {suite : List Stmt} {p1 p2 : Pos} {hs : List ExceptHandler} {l : List Cl} (nc : Names X x c)
      (su : ∀ (a : Addr) (oe : Obj) (cls : Value) (d : Option Addr) (pn : List (Addr × Obj)), Zc cls d oe → (∃ vs, oe.data = .fields vs) → PSs (X.suite a ((a, oe) :: pn)) (b₀ :: suite) (ts a cls d)) (r : Cls X hs l) :
      Cls X (.ExceptHandler (some (.Name x p1)) none (b₀ :: suite) p2 :: hs) (⟨c, none, ts⟩ :: l)
section
variable {X : Cx} {body : List Stmt} {h0 : ExceptHandler} {hds : List ExceptHandler} {l : List Cl} {pos : Pos} {tb : WX → TS} {out : WX}
theorem ps_tries (hs : X.stack = X.env :: X.outer) (hf : X.env.frame = some X.env.locals) (hN : X.N.Nodup) (tk : Takes X out)
    (hb : ∀ (W : WX) (pn : List (Addr × Obj)) (xe : Value → Shared → Prop), Takes (X.tr pn xe) W → PassesOwn (model X.prog X.w) X.A X.env xe → PSs (X.tr pn xe) body (tb W)) (cl : Cls X (h0 :: hds) l) :
    PS X (.Try body (h0 :: hds) [] [] pos) (fun D σ H => tb (wCl X.K out D l) D σ H) := by
  refine ⟨fun pins s σ H D I h => ?_⟩
  have ok := I.ok
  have frames : X.A.frames = some (X.env :: X.outer) := by rw [ok.frames, hs]
  let caught : Value → Shared → Prop := fun e s₁ => wpAny (model X.prog X.w) X.A (noteFrame e X.env)
    (fun _ s₂ => wpAny (model X.prog X.w) X.A (setFlight e none) (fun _ s₃ => wpAny (model X.prog X.w) X.A (handleBy e X.env (h0 :: hds)) (SP X pins D) X.xe s₃) X.xe s₂) X.xe s₁
  refine wpAny_Try_except (wpAny_mono ((hb (wCl X.K out D l) (X.pn ++ pins) caught (fun u s' xx => ?_) PassesOwn.looking).run [] s σ H D (I.toTry _) h) (fun f s1 hsp => ?_) (fun e s1 he => he))
  · obtain ⟨a, B, sI, pins', σ', H', cls, d, rfl, J', nb, up, sky, na, os, ag, w⟩ := xx
    have J : Inv X pins σ' H' sI := J'.ofTry ok
    have sky' : Sky B (X.env :: X.outer) a (Zc cls d) X.env.locals s'.heap := hs ▸ sky
    show wpAny (model X.prog X.w) X.A (noteFrame (.ref a) X.env) _ _ _
    refine Sky.land Zc.steady frames hf sky' fun h3 fl3 up3 => ?_
    have J3 : Inv X pins σ' H' { s' with heap := h3 } := J.landed nb fl3.1 (up.trans up3) os ag
    obtain ⟨oe3, vs3, he3, hz3, hd3⟩ := fl3.there
    have off : a ∉ frs (X.env :: X.outer) := fun hm => by
      obtain ⟨_, o', e', hnf⟩ := fl3.2.2.1.mem hm
      rw [he3] at e'
      cases e'
      exact hnf _ hd3
    have nL : a ≠ X.env.locals := fun z => off (List.mem_filterMap.mpr ⟨X.env, List.mem_cons_self, by rw [hf, z]⟩)
    have nF : a ∉ X.fs := fun hm => by
      obtain ⟨e, he, q⟩ := List.mem_filterMap.mp hm
      exact off (List.mem_filterMap.mpr ⟨e, List.mem_cons_of_mem _ he, q⟩)
    have S3 := J3.suite he3 hd3 na nL nF
    have go : ∀ {hds' : List ExceptHandler} {l' : List Cl}, Cls X hds' l' → wCl X.K out D l' cls d σ' H' → wpAny (model X.prog X.w) X.A (handleBy (.ref a) X.env hds') (SP X pins D) X.xe { s' with heap := h3 } := by
      intro hds' l' hk
      induction hk with
      | nil =>
        intro w
        obtain ⟨k1, k2, k3, oe, vs, T, oT, ts', he, hz, hd, h1, hr⟩ := id fl3
        refine wpAny_handleBy_nil ?_
        unfold PySem.passOn
        refine wpAny_bind (wpAny_field he hd h1 ?_)
        rw [if_neg (by simp : ¬ ((Value.ref T == Value.none) = true))]
        have fin : wpAny (model X.prog X.w) X.A (setFlight (.ref a) X.env.frame) (fun _ s4 => wpAny (model X.prog X.w) X.A (throw (.ref a) : Sem Flow) (SP X pins D) X.xe s4) X.xe { s' with heap := h3 } := by
          rw [hf]
          refine HandSPX.setFlight_upZ fl3 fun h4 hh4 up4 => wpAny_throw (tk _ _ ?_)
          exact ⟨a, B, sI, pins, σ', H', cls, d, rfl, J, nb, (up.trans up3).trans up4, .inr (.inr (hs.symm ▸ hh4)), na, os, ag, w⟩
        first
        | exact wpAny_bind (wpAny_pure (wpAny_bind fin))
        | exact wpAny_bind fin
      | @cons x n c i ts b₀ suite p1 p2 hds2 l2 nc ni ln su r ih =>
        intro w
        obtain ⟨b, hb1, yes, no⟩ := w
        refine wpAny_handleBy_cons (codeAny_handlers_test ?_) (by intro q; cases q)
        have tyA : PySem.W.Looks (model X.prog X.w) h3 (typeOf (.ref a)) cls := fun A Q E s k q => wpAny_typeOf_ref (k _ _ he3) (by rw [hz3.1]; exact q)
        have mt := PySem.W.exm_one (M := model X.prog X.w) J3.kIn tyA hb1
        have test : ∀ {Q : Value → Shared → Prop} {E : Value → Shared → Prop}, Q c { s' with heap := h3 } → wpAny (model X.prog X.w) (X.A.mark (some (.ref a))) (eval (.Name x p1) X.env) Q E { s' with heap := h3 } := fun {Q E} q => by
          obtain ⟨hg, hdbg, hm | ⟨hm, hv, hnn⟩⟩ := nc
          · exact ld_glob (X := X.suite a ((a, oe3) :: (X.pn ++ pins))) S3 hg hm q hdbg
          · exact ld_blt (X := X.suite a ((a, oe3) :: (X.pn ++ pins))) S3 hg hm hv q hnn hdbg
        refine test (mt.here ?_)
        cases b with
        | false =>
          show wpAny _ X.A (handleBy (.ref a) X.env hds2) _ _ _
          exact ih (no rfl)
        | true =>
          refine codeAny_handlers_suite_as (HandSPX.lands_againZ fl3 fun h4 fl4 up4 => ?_)
          have J4 : Inv X pins σ' H' { s' with heap := h4 } := J.landed nb fl4.1 ((up.trans up3).trans up4) os ag
          obtain ⟨oe4, vs4, he4, hz4, hd4⟩ := fl4.there
          have S4 := J4.suite he4 hd4 na nL nF
          refine store_ok (X := X.suite a ((a, oe4) :: (X.pn ++ pins))) (v := .ref a) S4 hN ni (.inl ln) rfl (fun s5 S5 => ?_) (.inr ln)
          refine wpAny_mono ((su a oe4 cls d (X.pn ++ pins) hz4 ⟨_, hd4⟩).run [] s5 _ H' _ S5 (yes rfl a na)) (fun f s6 hsp => ?_) (fun _ _ z => z.elim)
          have away : ∀ {σ6 : L2.St} {H6 : Hp} {Q : Shared → Prop}, Inv (X.suite a ((a, oe4) :: (X.pn ++ pins))) [] σ6 H6 s6 → (∀ s7, Inv X pins (σ6.set i none) H6 s7 → Q s7) →
              wpAny (model X.prog X.w) X.A (do bindName X.env n .none; unbindBehindTheSuite X.env n p2) (fun _ s7 => Q s7) X.xe s6 := fun {σ6 H6 Q} S6 hq => gone_ok (S6.unsuite ok) hN ni ln hq
          cases f with
          | ret u =>
            obtain ⟨v6, σ6, H6, S6, r6, q6⟩ := hsp
            exact away S6 fun s7 J7 => ⟨_, _, _, J7, r6, q6⟩
          | next =>
            obtain ⟨σ6, H6, S6, q6⟩ := hsp
            exact away S6 fun s7 J7 => ⟨_, _, J7, q6⟩
          | brk =>
            obtain ⟨σ6, H6, S6, q6⟩ := hsp
            exact away S6 fun s7 J7 => ⟨_, _, J7, q6⟩
          | cont =>
            obtain ⟨σ6, H6, S6, q6⟩ := hsp
            exact away S6 fun s7 J7 => ⟨_, _, J7, q6⟩
      | @bare x c ts b₀ suite p1 p2 hds2 l2 nc su r ih =>
        intro w
        obtain ⟨b, hb1, yes, no⟩ := w
        refine wpAny_handleBy_cons (codeAny_handlers_test ?_) (by intro q; cases q)
        have tyA : PySem.W.Looks (model X.prog X.w) h3 (typeOf (.ref a)) cls := fun A Q E s k q => wpAny_typeOf_ref (k _ _ he3) (by rw [hz3.1]; exact q)
        have mt := PySem.W.exm_one (M := model X.prog X.w) J3.kIn tyA hb1
        have test : ∀ {Q : Value → Shared → Prop} {E : Value → Shared → Prop}, Q c { s' with heap := h3 } → wpAny (model X.prog X.w) (X.A.mark (some (.ref a))) (eval (.Name x p1) X.env) Q E { s' with heap := h3 } := fun {Q E} q => by
          obtain ⟨hg, hdbg, hm | ⟨hm, hv, hnn⟩⟩ := nc
          · exact ld_glob (X := X.suite a ((a, oe3) :: (X.pn ++ pins))) S3 hg hm q hdbg
          · exact ld_blt (X := X.suite a ((a, oe3) :: (X.pn ++ pins))) S3 hg hm hv q hnn hdbg
        refine test (mt.here ?_)
        cases b with
        | false =>
          show wpAny _ X.A (handleBy (.ref a) X.env hds2) _ _ _
          exact ih (no rfl)
        | true =>
          refine codeAny_handlers_suite ?_
          refine HandSPX.lands_againZ fl3 fun h4 fl4 up4 => ?_
          have J4 : Inv X pins σ' H' { s' with heap := h4 } := J.landed nb fl4.1 ((up.trans up3).trans up4) os ag
          obtain ⟨oe4, vs4, he4, hz4, hd4⟩ := fl4.there
          have S4 := J4.suite he4 hd4 na nL nF
          refine wpAny_mono ((su a oe4 cls d (X.pn ++ pins) hz4 ⟨_, hd4⟩).run [] _ _ H' _ S4 (yes rfl a na)) (fun f s6 hsp => ?_) (fun _ _ z => False.elim z)
          cases f with
          | next =>
            obtain ⟨σ6, H6, S6, q6⟩ := hsp
            exact ⟨_, _, S6.unsuite ok, q6⟩
          | brk =>
            obtain ⟨σ6, H6, S6, q6⟩ := hsp
            exact ⟨_, _, S6.unsuite ok, q6⟩
          | cont =>
            obtain ⟨σ6, H6, S6, q6⟩ := hsp
            exact ⟨_, _, S6.unsuite ok, q6⟩
          | ret u =>
            obtain ⟨v6, σ6, H6, S6, r6, q6⟩ := hsp
            exact ⟨_, _, _, S6.unsuite ok, r6, q6⟩
    exact go cl w
  · cases f with
    | ret u =>
      obtain ⟨v, σ', H', J', r, q⟩ := hsp
      exact ⟨v, σ', H', J'.ofTry ok, r, q⟩
    | next =>
      obtain ⟨σ', H', J', q⟩ := hsp
      exact wpAny_execs_nil ⟨σ', H', J'.ofTry ok, q⟩
    | brk =>
      obtain ⟨σ', H', J', q⟩ := hsp
      exact ⟨σ', H', J'.ofTry ok, q⟩
    | cont =>
      obtain ⟨σ', H', J', q⟩ := hsp
      exact ⟨σ', H', J'.ofTry ok, q⟩
end
end Xu
set_option Elab.async false
set_option linter.all false
set_option autoImplicit false
set_option maxRecDepth 100000
set_option maxHeartbeats 4000000
/-! Xl: a lambda without parameters handed to a def that calls it, in calm room; what it lets out is taken there. -/
namespace Xl
open PySem PySem.Spec PyProof.Rows L2 Vb Xd LamX
section
variable {X : Cx} {pins : List (Addr × Obj)} {σ : L2.St} {H : Hp} {s : Shared}
/-- the call of the lambda's name in the def that got it -/
theorem pe_actC {CXg : CXT} {Eg : XK} {Ng : List Str} {qg : Str} {sg : Scope} {g f c' : Addr} {cdg pm ctv : Value} {params : Arguments} {body : Expr} {scope : Scope} {k i : Nat} {a : Str} {pn : List (Addr × Obj)} {xe : Value → Shared → Prop} {W : WX} {E : XK} {tb : TE} {p1 p2 : Pos} (hcalm : Calm X.A)
    (I : Inv X pins σ H s) (L : LamS X.env.scope scope) (hf : s.heap.get? f = some (PySem.W.kla_obj "<lambda>" (X.env.qual ++ "<lambda>") params body scope (cloFrom X.env.cells scope.names []) pm c' ctv)) (hfn : H f = none) (hfr : f ∉ frs X.stack)
    (hbind : bindArgs (PySem.W.kla_fn "<lambda>" (X.env.qual ++ "<lambda>") params body scope (cloFrom X.env.cells scope.names []) pm (.ref c') ctv) ⟨[], []⟩ = pure [])
    (tk : Takes ((cxOf CXg X.prog X.w X.K X.mg X.base Ng qg sg g cdg X.A X.stack s H Eg).tr pn xe) W) (hW : ∀ cls d σ' H', E cls d H' → W cls d σ' H') (hr : Room (k + 1) (X.A.deeper (envOfC qg sg s.heap.objs.size g cdg)))
    (hbody : ∀ (A : Around) (outer : List Env) (s : Shared) (H : Hp), Calm A → Room k (A.deeper (lamEnv X scope s.heap.objs.size f c')) → PE (lamCx X A outer s H E scope f c') body tb)
    (hN : Ng[i]? = some a) (hv : Vis sg a) (hd : (a == ("__debug__" : Str)) = false) (hcd : (a == ("__classdict__" : Str)) = false) :
    PE ((cxOf CXg X.prog X.w X.K X.mg X.base Ng qg sg g cdg X.A X.stack s H Eg).tr pn xe) (.Call (.Name a p1) [] [] p2)
      (fun σZ HZ Q => σZ[i]? = some (some (.ref f)) ∧ HZ c' = some (CodeO c' (X.env.qual ++ "<lambda>")) ∧ tb σ HZ Q) := by
  constructor
  intro pinsZ sZ σZ HZ Q IZ h
  obtain ⟨hs, hc, ht⟩ := h
  have readName := (pe_var (pos := p1) (i := i) hN hv hd hcd).run pinsZ sZ σZ HZ (fun v H1 => v = .ref f ∧ H1 = HZ) IZ ⟨.ref f, hs, rfl, rfl⟩
  refine wpAny_Call_Name_kw (thn readName fun u s1 hh => ?_)
  obtain ⟨v, H1, I1, r1, ev, eH⟩ := hh
  subst ev
  subst eH
  obtain rfl : u = Value.ref f := r1
  have there : s1.heap.get? f = some (PySem.W.kla_obj "<lambda>" (X.env.qual ++ "<lambda>") params body scope (cloFrom X.env.cells scope.names []) pm c' ctv) :=
    I1.base.keep f _ hf hfn hfr fun z => nomatch (show f ∈ ([] : List Addr) from z)
  refine PySem.W.callWith_F0 ⟨_, _, _, _, there⟩ ?_
  have un : Un (frs X.stack) [] H H1 s.heap s1.heap := I1.base
  obtain ⟨⟨oc, vs, t, hoc, hdc, hvc⟩, _, _⟩ := I1.hok c' _ hc
  have room1 : Room k ((X.A.deeper (envOfC qg sg s.heap.objs.size g cdg)).deeper (lamEnv X scope s1.heap.objs.size f c')) := hr.deeper _
  have goes : codeAny (model X.prog X.w) (X.A.deeper (envOfC qg sg s.heap.objs.size g cdg)) (.call (.ref f) ⟨[], []⟩) (CR (L2.CX X.prog X.w) (envOfC qg sg s.heap.objs.size g cdg :: X.stack) X.prog X.w H1 s1 Q E) s1 := by
    refine PySem.W.kla_callFunE hr.depth there rfl L.co L.gen rfl ⟨c', oc, vs, t, rfl, hoc, hdc, hvc⟩ ?_
    rw [hbind]
    refine wpAny_pure (wpAny_newFunctionEnv (fun y hy => (L.own y hy).2) (fun y hy => absurd hy (by simp)) (fun h₁ hns hsb => ⟨I1.nolimit.fresh _ hsb, ?_⟩) L.kind)
    show codeAny _ _ (.expr body (lamEnv X scope s1.heap.objs.size f c')) _ _
    have keeps : ∀ b o, s1.heap.get? b = some o → h₁.get? b = some o := fun b o e =>
      hsb.extBut b o (Nat.ne_of_lt (Heap.lt_size e)) (Heap.get?_push_of_some _ e)
    have J : Inv (lamCx X (X.A.deeper (envOfC qg sg s.heap.objs.size g cdg)) (envOfC qg sg s.heap.objs.size g cdg :: X.stack) s1 H1 E scope f c') [] σ H1 { s1 with heap := h₁, toks := s1.toks + ([] : List (Str × Value)).length } :=
      lam_start2 I L I1.env0 hr.hd un hns keeps
    refine PySem.W.kla_codeExpr (thn ((hbody _ _ s1 H1 (hcalm.deep _) room1).run [] _ _ H1 Q J ht) fun v s' hq => ?_)
    obtain ⟨w', H', J', rv, q⟩ := hq
    exact ⟨w', H', J'.os, J'.bare, J'.base, J'.hok, rv, q⟩
  have lets : Passes (L2.CX X.prog X.w) ((cxOf CXg X.prog X.w X.K X.mg X.base Ng qg sg g cdg X.A X.stack s H Eg).tr pn xe) E := passes_call tk hW
  refine wpAny_call (codeAny_mono goes fun r s' hq => ?_)
  match r, hq with
  | .error e, hq => exact lets pinsZ σZ H1 s1 e s' I1 hq
  | .ok (.ret u), hq => exact I1.after hq
  | .ok .next, hq => exact False.elim hq
  | .ok .brk, hq => exact False.elim hq
  | .ok .cont, hq => exact False.elim hq
/-- what the def at g, which calls its parameter a, makes of a lambda's reading -/
def Makes (X : Cx) (Ng : List Str) (x : Str) (sg : Scope) (g : Addr) (cdg : Value) (bg : List Stmt) (a : Str) (q : Str) (k : Nat) (TT : (XK → Hp → VK → Prop) → Hp → VK → Prop) : Prop :=
  ∀ (f c' : Addr) (s : Shared) (H : Hp) (Q : VK) (tl : XK → Hp → VK → Prop), Calm (X.A.deeper (envOfC x sg s.heap.objs.size g cdg)) → Room k (X.A.deeper (envOfC x sg s.heap.objs.size g cdg)) →
    (∀ (W : WX) (pn : List (Addr × Obj)) (xe : Value → Shared → Prop) (E : XK) (p1 p2 : Pos), Takes ((cxOf CX0 X.prog X.w X.K X.mg X.base Ng x sg g cdg X.A X.stack s H E0).tr pn xe) W → (∀ cls d σ' H', E cls d H' → W cls d σ' H') →
      PE ((cxOf CX0 X.prog X.w X.K X.mg X.base Ng x sg g cdg X.A X.stack s H E0).tr pn xe) (.Call (.Name a p1) [] [] p2) (fun σZ HZ Q => σZ[0]? = some (some (.ref f)) ∧ HZ c' = some (CodeO c' q) ∧ tl E HZ Q)) →
    H c' = some (CodeO c' q) → TT tl H Q →
    ∃ t, PSs (cxOf CX0 X.prog X.w X.K X.mg X.base Ng x sg g cdg X.A X.stack s H E0).nox bg t ∧ t { nx := fun _ H' => Q .non H', rt := Q } (L2.start Ng [.ref f]) H
/-- x(lambda: body) -/
theorem pe_lamC {X : Cx} {T : List (Addr × Str)} {TT : (XK → Hp → VK → Prop) → Hp → VK → Prop} {x a : Str} {g c P : Addr} {k : Nat} {pg : Arguments} {bg : List Stmt} {sg : Scope} {dV kV doc pm cdv ct oc : Value} {an od : Option Addr} {osl : Array (Option Value)} {Ng : List Str}
    {params : Arguments} {body : Expr} {scope : Scope} {t : XK → TE} {p lpos pos : Pos} (hcalm : Calm X.A) (hg : Gl X x) (hm : X.mg x = some (.ref g)) (hk : PySem.W.keepIn X.K (.ref g) = true)
    (lk : X.K.lookup g = some ⟨oc, od, .func (PySem.W.fnOf x x pg bg sg dV kV doc pm an cdv ct), osl⟩) (hcg : PySem.W.codeIn X.K cdv x = true) (hb : L2.Binds X.K (PySem.W.fnOf x x pg bg sg dV kV doc pm an cdv ct) [a] []) (Sg : FnScope Ng [a] sg) (hNg : Ng[0]? = some a) (hva : Vis sg a)
    (hG : Makes X Ng x sg g cdv bg a (X.env.qual ++ "<lambda>") (k + 1) TT) (TB : TabB X.base X.mg c P) (hcode : X.env.code = .ref c) (hmT : (P, X.env.qual ++ "<lambda>") ∈ T) (hu : ∀ p ∈ T, p.1 = P → p.2 = X.env.qual ++ "<lambda>") (hr : Room (k + 2) X.A) (L : LamS X.env.scope scope)
    (hdef : defaultsOf params X.env = ([], [])) (hbind : ∀ (q : Str) (cl : List (Str × Addr)) (pm cv ctv : Value), bindArgs (PySem.W.kla_fn "<lambda>" q params body scope cl pm cv ctv) ⟨[], []⟩ = pure [])
    (hbody : ∀ (A : Around) (outer : List Env) (s : Shared) (H : Hp) (E : XK) (f c' : Addr), Calm A → Room k (A.deeper (lamEnv X scope s.heap.objs.size f c')) → PE (lamCx X A outer s H E scope f c') body (t E))
    (hdb : (x == ("__debug__" : Str)) = false) (hd : (a == ("__debug__" : Str)) = false) (hcd : (a == ("__classdict__" : Str)) = false) :
    PE X (.Call (.Name x p) [.Lambda params body scope lpos] [] pos) (tLam T TT t) := by
  constructor
  intro pins s σ H Q I h
  obtain ⟨hT, h⟩ := h
  refine wpAny_Call_Name_kw (ld_glob I hg hm ?_ hdb)
  refine PySem.W.callWith_K (h₀ := X.base) I.ok.mod.kin hk ?_ (by rfl) (by rfl)
  show wpAny _ _ (spliced ((false, eval (.Lambda params body scope lpos) X.env) :: backTo pos (starEach [] X.env))) _ _ s
  refine Calls.spliced_cons (lam_make2 I TB hcode hmT hu hT hdef (L.has I.ok) fun f c' pm' ctv H1 s' I1 eN T1 hf hfn hfr hco => Calls.spliced_nil ⟨I1.kIn, ?_⟩)
  have goes : codeAny (model X.prog X.w) X.A (.call (.ref g) ⟨[.ref f], []⟩) (CR CX0 X.stack X.prog X.w H1 s' Q E0) s' := by
    refine run_ofS (N := Ng) (ps := [a]) (us := [.ref f]) (vs := [.ref f]) lk hcg Sg hr I1.env0 (hb s' [.ref f] I1.kIn rfl) (.cons rfl .nil) rfl fun hr' => ?_
    obtain ⟨t', ht', hq'⟩ := hG f c' s' H1 Q (fun E H' Q' => t E σ H' Q') (hcalm.deep _) hr' (fun W pn xe E p1 p2 tk hW => pe_actC (i := 0) hcalm I1 L hf hfn hfr (hbind _ _ _ _ _) tk hW hr' (fun A outer s H hcA hr2 => hbody A outer s H E f c' hcA hr2) hNg hva hd hcd) hco (h H1 eN T1)
    exact ⟨t', ht'.nox, hq'⟩
  refine wpAny_call (codeAny_mono goes fun r s2 hq => ?_)
  match r, hq with
  | .error e, hq => exact (show False from hq).elim
  | .ok (.ret u), hq => exact I1.after hq
  | .ok .next, hq => exact False.elim hq
  | .ok .brk, hq => exact False.elim hq
  | .ok .cont, hq => exact False.elim hq
end
end Xl
set_option Elab.async false
set_option linter.all false
set_option autoImplicit false
set_option maxRecDepth 100000
set_option maxHeartbeats 4000000
/-! Xg: a def whose code object is known; all but the dice and the tables of code objects stays. -/
namespace Xg
open PySem PySem.Spec PyProof.Rows L2 Vb LamX
/-- the def at f, with its code object -/
structure FunC (K : PySem.W.Frag) (x qual : Str) (st : Stmt) (f : Addr) (fd : FuncData) (cdv : Value) : Prop where
  ex : ∃ (oc : Value) (od : Option Addr) (kV doc pm : Value) (an : Option Addr) (ct : Value) (osl : Array (Option Value)), fd = PySem.W.fnOf x qual (defArgs st) (defBody st) (defScope st) .none kV doc pm an cdv ct ∧ K.lookup f = some ⟨oc, od, .func fd, osl⟩ ∧ PySem.W.codeIn K cdv qual = true
section
variable {P : Program} {w : World} {K : PySem.W.Frag} {mg : Str → Option Value} {base : Heap}
theorem goes_byC {x qual : Str} {st : Stmt} {f : Addr} {fd : FuncData} {cdv : Value} {N ps : List Str} {k : Nat} {sp : Sp} (F : FunC K x qual st f fd cdv) (S : FnScope N ps (defScope st)) (len : ∀ vs H Q E, sp vs H Q E → vs.length = ps.length)
    (body : ∀ (A : Around) (outer : List Env) (s : Shared) (H : Hp) (vs : List V) (Q : VK) (E : XK), Calm (A.deeper (envOfC qual (defScope st) s.heap.objs.size f cdv)) → Room k (A.deeper (envOfC qual (defScope st) s.heap.objs.size f cdv)) → sp vs H Q E →
      ∃ t, PSs (cxOf CX0 P w K mg base N qual (defScope st) f cdv A outer s H E).nox (defBody st) t ∧ t { nx := fun _ H' => Q .non H', rt := Q } (start N vs) H) : FnG P w K mg base (k + 1) f fd ps sp := by
  obtain ⟨oc, od, kV, doc, pm, an, ct, osl, rfl, lk, hcd⟩ := F.ex
  refine ⟨len, fun A outer s H args us vs Q E hc hr e0 hb r hsp => ?_⟩
  refine run_ofS (N := N) (ps := ps) (us := us) (vs := vs) lk hcd S hr e0 hb r (len _ _ _ _ hsp) fun hr' => ?_
  obtain ⟨t, ht, hq⟩ := body A outer s H vs Q E (hc.deep _) hr' hsp
  exact ⟨t, ht.nox, hq⟩
end
theorem tbl_ne_dz {g s c : Int} (ps : Array Value) : dz g s c ≠ .tbl ps := fun z => nomatch z
/-- all but the dice and the tables stays -/
structure Go (T : List (Addr × Str)) (d : Addr) (H H' : Hp) : Prop where
  keep : ∀ b o, b ≠ d → (∀ ps, o ≠ .tbl ps) → H b = some o → H' b = some o
  dice : Dice H' d
  tabs : Tabs T H'
section
variable {T : List (Addr × Str)} {d : Addr} {H H1 H' : Hp}
theorem Go.trans (a : Go T d H H1) (b : Go T d H1 H') : Go T d H H' := ⟨fun x o n t e => b.keep x o n t (a.keep x o n t e), b.dice, b.tabs⟩
theorem Go.refl (h : Dice H d) (t : Tabs T H) : Go T d H H := ⟨fun _ _ _ _ e => e, h, t⟩
theorem tabs_past (h : Dice H d) (t : Tabs T H) (p : Past d H H') : Tabs T H' := fun q hq => by
  obtain ⟨ps, h1, h2, h3⟩ := t q hq
  obtain ⟨g, s, c, hd⟩ := h
  have n1 : q.1 ≠ d := fun z => by
    rw [z, hd] at h1
    cases h1
  refine ⟨ps, p.1 _ _ n1 h1, h2, fun pos cv hc => ?_⟩
  obtain ⟨c', e1, e2⟩ := h3 pos cv hc
  have n2 : c' ≠ d := fun z => by
    rw [z, hd] at e2
    have e3 : dz g s c = CodeO d q.2 := Option.some.inj e2
    unfold CodeO dz at e3
    cases e3
  exact ⟨c', e1, p.1 _ _ n2 e2⟩
theorem Go.past (h : Dice H d) (t : Tabs T H) (p : Past d H H') : Go T d H H' := ⟨fun x o n _ e => p.1 x o n e, p.dice, tabs_past h t p⟩
theorem Go.same (h : Dice H d) (t : Tabs T H) (s : Same H H') : Go T d H H' := Go.past h t (Past.same h s)
theorem Go.extN (h : Dice H d) (e : ExtN H H') (t : Tabs T H') : Go T d H H' := by
  obtain ⟨g, s, c, hd⟩ := h
  exact ⟨fun x o _ nt ex => e x o ex nt, ⟨g, s, c, e _ _ hd fun ps => tbl_ne_dz ps⟩, t⟩
theorem Go.thenP (a : Go T d H H1) (p : Past d H1 H') : Go T d H H' := a.trans (Go.past a.dice a.tabs p)
theorem Go.thenS (a : Go T d H H1) (s : Same H1 H') : Go T d H H' := a.trans (Go.same a.dice a.tabs s)
theorem Go.thenE (a : Go T d H H1) (e : ExtN H1 H') (t : Tabs T H') : Go T d H H' := a.trans (Go.extN a.dice e t)
theorem Go.seq {K : PySem.W.Frag} {a : Addr} {xs : List V} (g : Go T d H H') (n : a ≠ d) (s : SqL K H a xs) : SqL K H' a xs := by
  rcases s with (s | ⟨o, s⟩) | s
  · exact .inl (.inl (g.keep _ _ n (fun ps z => nomatch z) s))
  · exact .inl (.inr ⟨o, g.keep _ _ n (fun ps z => nomatch z) s⟩)
  · exact .inr s
end
end Xg
set_option Elab.async false
set_option linter.all false
set_option autoImplicit false
set_option maxRecDepth 100000
set_option maxHeartbeats 4000000
/-! Vt: the law's end in calm room, with tables of code objects that may grow. -/
namespace Vt
open PySem PySem.Spec PyProof.Rows L2 Vb LamX
section
variable {P : Program} {w : World} {K : PySem.W.Frag} {mg mb : Str → Option Value} {s₁ : Shared} {H : Hp} {a : Addr} {ts : List Addr}
/-- what is seen behind the top: the script and the tables alone may be tracked -/
structure Few (K : PySem.W.Frag) (s₁ : Shared) (H : Hp) (a : Addr) (ts : List Addr) : Prop where
  only : ∀ b, H b = none ∨ (b ∈ ts ∧ H b = some (.tbl #[])) ∨ (b = a ∧ ∃ o xs, H b = some (.frz o (.lst xs)))
  noK : ∀ b, H b ≠ none → K.lookup b = none
  isL : ∃ vs n cl, s₁.heap.get? a = some { cls := cl, data := .seq vs n }
  isT : ∀ b ∈ ts, s₁.heap.get? b = some { cls := .none, data := .fields #[] }
theorem Few.off (L : Few K s₁ H a ts) {b : Addr} {o : Obj} (e : s₁.heap.get? b = some o) (h1 : ∀ vs n, o.data ≠ .seq vs n) (h2 : o.data ≠ .fields #[]) : H b = none := by
  rcases L.only b with h | ⟨hb, _⟩ | ⟨rfl, _⟩
  · exact h
  · have q := (L.isT b hb).symm.trans e
    cases q
    exact (h2 rfl).elim
  · obtain ⟨vs, n, cl, q⟩ := L.isL
    have q := q.symm.trans e
    cases q
    exact (h1 _ _ rfl).elim
theorem Few.offK (L : Few K s₁ H a ts) {b : Addr} {o : Obj} (e : K.lookup b = some o) : H b = none := Classical.byContradiction fun n => by
  have q := (L.noK b n).symm.trans e
  cases q
theorem Few.ns (L : Few K s₁ H a ts) {b : Addr} {m : Str → Option Value} (h : s₁.heap.Ns b m) : (hidT s₁.heap H).Ns b m := by
  obtain ⟨o, es, ep, e, d, r⟩ := h
  refine ⟨o, es, ep, hidT_get e (L.off e (fun vs n z => ?_) fun z => ?_), d, r⟩
  · rw [d] at z
    cases z
  · rw [d] at z
    cases z
theorem Few.kin (L : Few K s₁ H a ts) (KX : K.In s₁.heap) : K.In (hidT s₁.heap H) := fun b o e => hidT_get (KX b o e) (L.offK e)
theorem Few.tab (L : Few K s₁ H a ts) {c p : Addr} (hp : p ∈ ts) (C : PySem.W.CodeHd s₁.heap c p) (hns : s₁.heap.Ns mainGlobals mg)
    (hbm : ∃ (bm : Addr) (ob : Obj), mg "__builtins__" = some (.ref bm) ∧ bm ≠ builtinsNs ∧ s₁.heap.get? bm = some ob ∧ ob.cls = .type "module" ∧ ob.dict = some builtinsNs ∧ ob.data = .plain) : TabB (hidT s₁.heap H) mg c p := by
  have tp := L.isT p hp
  obtain ⟨o, us, file, tf, flags, tg, inF, text, tt, e1, r1, r2, r3, r4, r5, r6, r7, r8, hne⟩ := C
  obtain ⟨bm, ob, b1, b2, b3, b4, b5, b6⟩ := hbm
  obtain ⟨og, es, ep, eg, dg, _⟩ := hns
  have plainOff : H bm = none := L.off b3 (fun vs n z => by rw [b6] at z; cases z) fun z => by rw [b6] at z; cases z
  have codeOff : H c = none := L.off e1 (fun vs n z => by rw [r2] at z; cases z) fun z => by
    rw [r2] at z
    cases z
    simp at r3
  refine ⟨⟨o, us, file, tf, flags, tg, inF, text, tt, hidT_get e1 codeOff, r1, r2, r3, r4, r5, r6, r7, r8, hne⟩, ⟨bm, ob, b1, b2, fun q => ?_, fun q => ?_, hidT_get b3 plainOff, b4, b5, b6⟩, fun q => ?_⟩
  · rw [q, eg] at b3
    cases b3
    rw [dg] at b6
    cases b6
  · rw [q, tp] at b3
    cases b3
    cases b6
  · rw [q, tp] at eg
    cases eg
    cases dg
end
section
variable {P : Program} {w : World} {K : PySem.W.Frag} {mg mb : Str → Option Value} {s₁ : Shared} {a : Addr} {cs : List (Addr × Addr)} {k : Nat} {fa : Addr} {fd : FuncData} {x : Str} {sp : Sp} {vs : List Value} {ns : List Int}
/-- the law's call, from its promise in calm room -/
theorem law_goesT (KX : K.In s₁.heap) (hns : s₁.heap.Ns mainGlobals mg) (hb : s₁.heap.Ns builtinsNs mb) (hbb : ∀ x : Str, x ≠ "__name__" → mb x = bootBuiltins x) (hlim : s₁.heap.NoLimit) (hg : s₁.gens = #[])
    (hT : ∀ p ∈ cs, s₁.heap.get? p.2 = some { cls := .none, data := .fields #[] }) (nT : ∀ p ∈ cs, K.lookup p.2 = none) (C : ∀ p ∈ cs, PySem.W.CodeHd s₁.heap p.1 p.2)
    (hbm : ∃ (bm : Addr) (ob : Obj), mg "__builtins__" = some (.ref bm) ∧ bm ≠ builtinsNs ∧ s₁.heap.get? bm = some ob ∧ ob.cls = .type "module" ∧ ob.dict = some builtinsNs ∧ ob.data = .plain)
    (ha : s₁.heap.get? a = some { cls := .type "list", data := .seq vs.toArray }) (hi : IntsAre vs ns) (hl : ns.length ≤ sizeLine) (hr : Room k callerA)
    (F : ∀ base : Heap, K.In base → base.Ns mainGlobals mg → (∀ p ∈ cs, TabB base mg p.1 p.2) → FnG P w K mg base k fa fd [x] sp) (bind : ∀ (s : Shared) (u : Value), BindsTo s fd ⟨[u], []⟩ [(x, u)])
    (hsp : ∀ H : Hp, (∀ p ∈ cs, H p.2 = some (.tbl #[])) → SqL K H a (ns.map V.int) → sp [.ref a] H (fun v _ => v = .bl true) fun _ _ _ => False) :
    codeAny (model P w) callerA (.call (.ref fa) ⟨[.ref a], []⟩) (fun r s' => r = .ok (.ret (.bool true)) ∧ OldK s₁.heap s'.heap ∧ s'.os = s₁.os ∧ AllBare s'.gens) s₁ := by
  have rv := vals_ints hi
  have memT : ∀ p ∈ cs, p.2 ∈ cs.map (·.2) := fun p hp => List.mem_map.mpr ⟨p, hp, rfl⟩
  have tabT : ∀ b ∈ cs.map (·.2), s₁.heap.get? b = some { cls := .none, data := .fields #[] } := fun b hb => by
    obtain ⟨p, hp, rfl⟩ := List.mem_map.mp hb
    exact hT p hp
  have tabK : ∀ b ∈ cs.map (·.2), K.lookup b = none := fun b hb => by
    obtain ⟨p, hp, rfl⟩ := List.mem_map.mp hb
    exact nT p hp
  have aT : a ∉ cs.map (·.2) := fun z => by
    have q := ha.symm.trans (tabT a z)
    cases (show Data.seq vs.toArray _ = Data.fields #[] from congrArg Obj.data (Option.some.inj q))
  have core : ∀ H : Hp, Few K s₁ H a (cs.map (·.2)) → (∀ p ∈ cs, H p.2 = some (.tbl #[])) → SqL K H a (ns.map V.int) → HOk P w H s₁.heap →
      codeAny (model P w) callerA (.call (.ref fa) ⟨[.ref a], []⟩) (fun r s' => r = .ok (.ret (.bool true)) ∧ OldK s₁.heap s'.heap ∧ s'.os = s₁.os ∧ AllBare s'.gens) s₁ := by
    intro H L hH hS hok
    obtain ⟨mc, c1, c2⟩ := hlim
    have e0 : Env0 P w K mg (hidT s₁.heap H) callerA [] s₁ H := ⟨rfl, ⟨L.kin KX, L.ns hns, ⟨mb, L.ns hb, hbb⟩, ⟨mc, L.ns c1, c2⟩⟩, fun b o e => of_hidT e, Nat.le_of_eq (hidT_size _ _), trivial, fun b z => (List.not_mem_nil z).elim, hok, .of_eq hg⟩
    have G := F _ (L.kin KX) (L.ns hns) fun p hp => L.tab (memT p hp) (C p hp) hns hbm
    refine codeAny_mono (G.goes callerA [] s₁ H ⟨[.ref a], []⟩ [.ref a] [.ref a] _ _ calm_caller hr e0 (bind s₁ (.ref a)) (.cons rfl .nil) (hsp H hH hS)) fun r s' h => ?_
    match r, h with
    | .error _, h => exact h.elim
    | .ok .next, h => exact h.elim
    | .ok .brk, h => exact h.elim
    | .ok .cont, h => exact h.elim
    | .ok (.ret u), h =>
      obtain ⟨v, H', os, bare, un, hok', r', q⟩ := h
      cases (show v = .bl true from q)
      cases (show u = Value.bool true from r')
      have stays : ∀ b o, b ∉ cs.map (·.2) → s₁.heap.get? b = some o → s'.heap.get? b = some o := fun b o nb e => by
        rcases L.only b with z | ⟨z, _⟩ | ⟨_, ob, xs, z⟩
        · exact un.keep b o e z (fun z => (List.not_mem_nil z).elim) (fun z => (List.not_mem_nil z).elim)
        · exact absurd z nb
        · have before := (hok b _ z).1
          have after := (hok' b _ (un.frzs b ob _ z)).1
          cases before.symm.trans e
          exact after
      have grows : ∀ p ∈ cs, ∃ more : Array Value, s'.heap.get? p.2 = some { cls := .none, data := .fields more } := fun p hp => by
        obtain ⟨more, z⟩ := un.tbls p.2 #[] (hH p hp)
        exact ⟨_, hok' p.2 _ z⟩
      refine ⟨rfl, ⟨fun b o e => ?_, fun b o e => ?_⟩, os, bare⟩
      · by_cases hb' : b ∈ cs.map (·.2)
        · obtain ⟨p, hp, rfl⟩ := List.mem_map.mp hb'
          obtain ⟨more, hm⟩ := grows p hp
          cases (hT p hp).symm.trans e
          exact .inr (.inl ⟨((C p hp).tab (hT p hp)).isCodeTable, rfl, #[], more, rfl, by rw [Array.empty_append]; exact hm⟩)
        · exact .inl (stays b o hb' e)
      · by_cases hb' : b ∈ cs.map (·.2)
        · obtain ⟨p, hp, rfl⟩ := List.mem_map.mp hb'
          obtain ⟨more, hm⟩ := grows p hp
          exact ⟨_, hm⟩
        · exact ⟨o, stays b o hb' e⟩
  cases hk : K.lookup a with
  | some o =>
    cases ha.symm.trans (KX a o hk)
    have at_ : ∀ b u, (if b ∈ cs.map (·.2) then some (HO.tbl #[]) else none) = some u → b ∈ cs.map (·.2) ∧ u = .tbl #[] := fun b u z => by
      by_cases hb' : b ∈ cs.map (·.2)
      · rw [if_pos hb'] at z
        exact ⟨hb', (Option.some.inj z).symm⟩
      · rw [if_neg hb'] at z
        cases z
    refine core (fun b => if b ∈ cs.map (·.2) then some (.tbl #[]) else none) ⟨fun b => ?_, fun b n => ?_, ⟨_, _, _, ha⟩, tabT⟩ (fun p hp => if_pos (memT p hp)) (.inr ⟨_, vs.toArray, _, hk, rfl, rfl, rfl, by rw [List.size_toArray, hi.length]; exact hl, by simpa using rv⟩) (fun b u z => ?_)
    · by_cases hb' : b ∈ cs.map (·.2)
      · exact .inr (.inl ⟨hb', if_pos hb'⟩)
      · exact .inl (if_neg hb')
    · by_cases hb' : b ∈ cs.map (·.2)
      · exact tabK b hb'
      · exact absurd (if_neg hb') n
    · obtain ⟨h1, rfl⟩ := at_ b u z
      exact tabT b h1
  | none =>
    let S : HO := .frz { cls := .type "list", data := .seq vs.toArray } (.lst (ns.map V.int))
    have nTa : ∀ b ∈ cs.map (·.2), ¬ b = a := fun b hb z => aT (z ▸ hb)
    refine core (fun b => if b = a then some S else if b ∈ cs.map (·.2) then some (.tbl #[]) else none) ⟨fun b => ?_, fun b n => ?_, ⟨_, _, _, ha⟩, tabT⟩ (fun p hp => (if_neg (nTa _ (memT p hp))).trans (if_pos (memT p hp))) (.inl (.inr ⟨{ cls := .type "list", data := .seq vs.toArray }, if_pos rfl⟩)) (fun b u z => ?_)
    · by_cases q : b = a
      · exact .inr (.inr ⟨q, _, _, if_pos q⟩)
      · by_cases hb' : b ∈ cs.map (·.2)
        · exact .inr (.inl ⟨hb', (if_neg q).trans (if_pos hb')⟩)
        · exact .inl ((if_neg q).trans (if_neg hb'))
    · by_cases q : b = a
      · rw [q]
        exact hk
      · by_cases hb' : b ∈ cs.map (·.2)
        · exact tabK b hb'
        · exact absurd ((if_neg q).trans (if_neg hb')) n
    · by_cases q : b = a
      · have z' := (if_pos q).symm.trans z
        cases z'
        rw [q]
        exact ⟨ha, by rw [List.length_map]; exact hl, vs, _, rv, ha⟩
      · have z1 := (if_neg q).symm.trans z
        by_cases hb' : b ∈ cs.map (·.2)
        · have z' := (if_pos hb').symm.trans z1
          cases z'
          exact tabT b hb'
        · have z' := (if_neg hb').symm.trans z1
          cases z'
end
/-- the tables' part left out of the written part -/
def less (K : PySem.W.Frag) (ts : List Addr) : PySem.W.Frag := K.filter fun p => !ts.contains p.1
theorem less_at (ts : List Addr) : ∀ (K : PySem.W.Frag) (b : Addr), (less K ts).lookup b = if ts.contains b then none else K.lookup b
  | [], b => by simp [less]
  | (c, o) :: K, b => by
    have ih := less_at ts K b
    unfold less at ih ⊢
    rw [List.filter_cons]
    by_cases hc : ts.contains c = true
    · rw [hc]
      simp only [Bool.not_true, Bool.false_eq_true, if_false]
      rw [ih]
      by_cases hb : ts.contains b = true
      · rw [if_pos hb, if_pos hb]
      · rw [if_neg hb, if_neg hb]
        have ne : (b == c) = false := by
          rw [beq_eq_false_iff_ne]
          intro z
          rw [z] at hb
          exact hb hc
        rw [List.lookup_cons, ne]
    · have hc' : ts.contains c = false := by simpa using hc
      rw [hc']
      simp only [Bool.not_false, if_true]
      rw [List.lookup_cons, List.lookup_cons, ih]
      by_cases e : (b == c) = true
      · have : b = c := by simpa using e
        rw [e, this, hc']
        rfl
      · have e' : (b == c) = false := by simpa using e
        rw [e']
theorem less_in {K : PySem.W.Frag} {ts : List Addr} {h : Heap} (X : K.In h) : (less K ts).In h := fun b o e => by
  rw [less_at] at e
  by_cases hb : ts.contains b = true
  · rw [if_pos hb] at e
    cases e
  · rw [if_neg hb] at e
    exact X b o e
theorem less_no {K : PySem.W.Frag} {ts : List Addr} {b : Addr} (h : b ∈ ts) : (less K ts).lookup b = none := by
  rw [less_at, if_pos (by simpa using h)]
end Vt
set_option Elab.async false
set_option linter.all false
set_option autoImplicit false
set_option maxRecDepth 100000
set_option maxHeartbeats 4000000
namespace K12
open PySem PySem.Spec PyProof.Rows L2 Vb Wd Xd Xe Xl Xu Xg LamX Oe Of
abbrev s_l_said : Stmt := topS 55
theorem sc_l_said : FnScope ["_law_call"] ["_law_call"] (defScope s_l_said) := ⟨rfl, rfl, rfl, by decide +kernel, rfl, by decide +kernel, by decide +kernel⟩
/-- what of the three classes the clauses ask -/
structure SaidT (K : PySem.W.Frag) (CI CP CO : Addr) : Prop where
  mII : PySem.W.exmOne K (.ref CI) (.ref CI) = some true
  mPI : PySem.W.exmOne K (.ref CP) (.ref CI) = some false
  mPP : PySem.W.exmOne K (.ref CP) (.ref CP) = some true
  mOI : PySem.W.exmOne K (.ref CO) (.ref CI) = some false
  mOP : PySem.W.exmOne K (.ref CO) (.ref CP) = some false
  mOO : PySem.W.exmOne K (.ref CO) (.ref CO) = some true
def ESaid (CI CP CO : Addr) (Q : VK) : XK := fun cls _ H' => (cls = .ref CI ∧ Q (.str "scheme") H') ∨ (cls = .ref CP ∧ Q (.str "picture") H') ∨ (cls = .ref CO ∧ Q (.str "operation") H')
def TSaid (CI CP CO : Addr) : (XK → Hp → VK → Prop) → Hp → VK → Prop := fun tl H Q => tl (ESaid CI CP CO Q) H (fun _ H' => Q (.str "fine") H')
theorem takes_lenS {X : Cx} {W : WX} (t : Takes X W) : Takes X (fun cls d σ H => σ.length = X.N.length → W cls d σ H) := fun u s' ⟨a, B, sI, pins, σ, H, cls, d, e, I, nb, up, sky, na, os, ag, w⟩ =>
  t u s' ⟨a, B, sI, pins, σ, H, cls, d, e, I, nb, up, sky, na, os, ag, w I.len⟩
theorem said_makes {X : Cx} {g CI CP CO : Addr} {cdg : Value} {q : Str} {k : Nat} (T : SaidT X.K CI CP CO) (gI : X.mg "InvalidScheme" = some (.ref CI)) (gP : X.mg "InvalidPicture" = some (.ref CP)) (gO : X.mg "InvalidOperation" = some (.ref CO)) :
    Makes X ["_law_call"] "_law_said" (defScope s_l_said) g cdg (defBody s_l_said) "_law_call" q k (TSaid CI CP CO) := by
  intro f c' s H Q tl hc hr act hco h
  refine ⟨_, pss_cons (ps_tries (X := (cxOf CX0 X.prog X.w X.K X.mg X.base ["_law_call"] "_law_said" (defScope s_l_said) g cdg X.A X.stack s H E0).nox)
      (tb := fun W D σ H => ∃ Ech : XK, (∀ cls d (σ' : L2.St) H', Ech cls d H' → W cls d σ' H') ∧ σ[0]? = some (some (.ref f)) ∧ H c' = some (CodeO c' q) ∧ tl Ech H (fun _ H' => D.nx σ H')) (by rfl) (by rfl) sc_l_said.nd LamX.takes0 (fun W pn xe tk _ => ⟨fun pins s' σ H' D I h' => ?_⟩)
      (.bare ⟨by rfl, by decide, .inl gI⟩ (fun a oe cls d pn hz hf => pss_one (ps_ret pe_str))
      (.bare ⟨by rfl, by decide, .inl gP⟩ (fun a oe cls d pn hz hf => pss_one (ps_ret pe_str))
      (.bare ⟨by rfl, by decide, .inl gO⟩ (fun a oe cls d pn hz hf => pss_one (ps_ret pe_str))
      .nil))))
    (pss_one (ps_ret pe_str)), ?_⟩
  · obtain ⟨Ech, hW, h1, h2, h3⟩ := h'
    exact (pss_one (ps_expr (act _ pn xe Ech _ _ tk hW))).run pins s' σ H' D I ⟨h1, h2, h3⟩
  · have no : ∀ {p : Prop}, (false = true → p) := fun e => nomatch e
    have nt : ∀ {p : Prop}, (true = false → p) := fun e => nomatch e
    refine ⟨ESaid CI CP CO Q, fun cls d σ' H' hE => ?_, rfl, hco, h⟩
    rcases hE with ⟨rfl, q⟩ | ⟨rfl, q⟩ | ⟨rfl, q⟩
    · exact ⟨true, T.mII, (fun _ a na => q), nt⟩
    · exact ⟨false, T.mPI, no, fun _ => ⟨true, T.mPP, (fun _ a na => q), nt⟩⟩
    · exact ⟨false, T.mOI, no, fun _ => ⟨false, T.mOP, no, fun _ => ⟨true, T.mOO, (fun _ a na => q), nt⟩⟩⟩
end K12
set_option Elab.async false
set_option linter.all false
set_option autoImplicit false
set_option maxRecDepth 100000
set_option maxHeartbeats 8000000
namespace K12
open PySem PySem.Spec PyProof.Rows L2 Vb Wd Xd Xe Xl Xu Xg Xo Xv LamX Oe Of SX Pc
/-- what is known of the defs that lambdas ask, and of the def that asks lambdas -/
structure Env8 (P : Program) (w : World) (K : PySem.W.Frag) (mg : Str → Option Value) (base : Heap) (C CS CP CI CIP CO : Addr) where
  TT : SaidT K CI CIP CO
  gI : mg "InvalidScheme" = some (.ref CI)
  gP : mg "InvalidPicture" = some (.ref CIP)
  gO : mg "InvalidOperation" = some (.ref CO)
  G_sound : CgE P w K mg base 14 "is_sound_picture" (spSoundX K C CS CP CI 3)
  G_spots : CgE P w K mg base 15 "spots_of" (spSpotsOf K C CS CP CI CIP 3)
  G_over : CgE P w K mg base 12 "spot_over" (spSpotOver K C CS CP CI CIP CO 3)
  gT : Addr
  ocT : Value
  odT : Option Addr
  oslT : Array (Option Value)
  kVT : Value
  docT : Value
  pmT : Value
  anT : Option Addr
  cdT : Value
  ctT : Value
  mT : mg "_law_said" = some (.ref gT)
  kT : PySem.W.keepIn K (.ref gT) = true
  lT : K.lookup gT = some ⟨ocT, odT, .func (PySem.W.fnOf "_law_said" "_law_said" (defArgs s_l_said) (defBody s_l_said) (defScope s_l_said) .none kVT docT pmT anT cdT ctT), oslT⟩
  hT : PySem.W.codeIn K cdT "_law_said" = true
  bT : Binds K (PySem.W.fnOf "_law_said" "_law_said" (defArgs s_l_said) (defBody s_l_said) (defScope s_l_said) .none kVT docT pmT anT cdT ctT) ["_law_call"] []
/-- _law_said(lambda: ..) -/
theorem pe_said {X : Cx} {C CS CP CI CIP CO : Addr} {T : List (Addr × Str)} {c P : Addr} {params : Arguments} {body : Expr} {scope : Scope} {t : XK → TE} {p lpos pos : Pos} (V8 : Env8 X.prog X.w X.K X.mg X.base C CS CP CI CIP CO) (hcalm : Calm X.A) (hr : Room 19 X.A) (hg : Gl X "_law_said")
    (TB : TabB X.base X.mg c P) (hcode : X.env.code = .ref c) (hmT : (P, X.env.qual ++ "<lambda>") ∈ T) (hu : ∀ p ∈ T, p.1 = P → p.2 = X.env.qual ++ "<lambda>") (L : LamS X.env.scope scope)
    (hdef : defaultsOf params X.env = ([], [])) (hbind : ∀ (q : Str) (cl : List (Str × Addr)) (pm cv ctv : Value), bindArgs (PySem.W.kla_fn "<lambda>" q params body scope cl pm cv ctv) ⟨[], []⟩ = pure [])
    (hbody : ∀ (A : Around) (outer : List Env) (s : Shared) (H : Hp) (E : XK) (f c' : Addr), Calm A → Room 17 (A.deeper (lamEnv X scope s.heap.objs.size f c')) → PE (lamCx X A outer s H E scope f c') body (t E)) :
    PE X (.Call (.Name "_law_said" p) [.Lambda params body scope lpos] [] pos) (tLam T (TSaid CI CIP CO) t) :=
  pe_lamC (k := 17) hcalm hg V8.mT V8.kT V8.lT V8.hT V8.bT sc_l_said rfl (Or.inl rfl) (said_makes V8.TT V8.gI V8.gP V8.gO) TB hcode hmT hu hr L hdef hbind hbody (by decide) (by decide) (by decide)
/-! ### what is told of a call -/
theorem keeps_ext {H H' : Hp} (e : ExtN H H') : Keeps H H' := ⟨(fun a xs _ h => e _ _ h (fun _ z => nomatch z)), (fun a xs h => e _ _ h (fun _ z => nomatch z)), (fun a kvs h => e _ _ h (fun _ z => nomatch z))⟩
theorem ext_keep {H H' : Hp} (e : ExtN H H') : Keep H H' := fun b o _ nt h => e b o h nt
theorem ext_keepP {H H' : Hp} (e : ExtN H H') : KeepP H H' := fun x o h k => e x o h fun _ z => by
  subst z
  rcases k with ⟨_, _, _, z, _⟩ | ⟨_, z⟩ <;> cases z
mutual
theorem Dt.ext {H H' : Hp} (e : ExtN H H') : ∀ (d : PyData) (v : V), Dt H v d → Dt H' v d
  | .none, _, h => by
    cases h
    exact .non
  | .bool b, _, h => by
    cases h
    exact .bl b
  | .int i, _, h => by
    cases h
    exact .int i
  | .str z, _, h => by
    cases h
    exact .str z
  | .list ds, _, h => by
    cases h with
    | lst k a => exact .lst (e _ _ k fun _ z => nomatch z) (DtAll.ext e ds _ a)
  | .tuple ds, _, h => by
    cases h with
    | tup k a => exact .tup (e _ _ k fun _ z => nomatch z) (DtAll.ext e ds _ a)
  | .dict _, _, h => by
    cases h with
    | d0 k => exact .d0 (e _ _ k fun _ z => nomatch z)
    | d1 k => exact .d1 (e _ _ k fun _ z => nomatch z)
theorem DtAll.ext {H H' : Hp} (e : ExtN H H') : ∀ (ds : List PyData) (vs : List V), DtAll H vs ds → DtAll H' vs ds
  | [], _, h => by
    cases h
    exact .nil
  | d :: ds, _, h => by
    cases h with
    | cons q t => exact .cons (Dt.ext e d _ q) (DtAll.ext e ds _ t)
end
/-- the call's word is z, whatever else stands -/
def Tells (CI CP CO : Addr) (T : List (Addr × Str)) (H0 : Hp) (tl : XK → Hp → VK → Prop) (z : Str) : Prop := ∀ H1 Q, ExtN H0 H1 → Tabs T H1 → (∀ H2, ExtN H1 H2 → Tabs T H2 → Q (.str z) H2) → TSaid CI CP CO tl H1 Q
theorem tabs_put {T : List (Addr × Str)} {H : Hp} {a : Addr} {xs ys : List V} (e : H a = some (.lst xs)) (t : Tabs T H) : Tabs T (upd H a (.lst ys)) := fun p hp => by
  obtain ⟨ps, h1, h2, h3⟩ := t p hp
  have n1 : p.1 ≠ a := fun z => by
    rw [z, e] at h1
    cases h1
  refine ⟨ps, by rw [upd_ne n1]; exact h1, h2, fun pos cv hc => ?_⟩
  obtain ⟨c', e1, e2⟩ := h3 pos cv hc
  have n2 : c' ≠ a := fun z => by
    rw [z, e] at e2
    unfold CodeO at e2
    cases e2
  exact ⟨c', e1, by rw [upd_ne n2]; exact e2⟩
/-- nothing but a table stands at l -/
def NewN (H0 : Hp) (l : Addr) : Prop := ∀ o, H0 l = some o → (∀ ps, o ≠ .tbl ps) → False
theorem NewN.of {H0 H : Hp} {l : Addr} (x : ExtN H0 H) (n : H l = none) : NewN H0 l := fun o e nt => by
  have := x l o e nt
  rw [n] at this
  cases this
theorem ext_put {H0 H : Hp} {l : Addr} {o : HO} (x : ExtN H0 H) (n : NewN H0 l) : ExtN H0 (upd H l o) := fun b u e nt => by
  by_cases h : b = l
  · subst h
    exact (n u e nt).elim
  · rw [upd_ne h]
    exact x b u e nt
/-- words gathered in a list -/
structure Stage (T : List (Addr × Str)) (H0 : Hp) (l : Addr) (zs : List Str) (H : Hp) : Prop where
  ext : ExtN H0 H
  tabs : Tabs T H
  at_ : H l = some (.lst (zs.map V.str))
  new : NewN H0 l
  few : zs.length ≤ 20
section
variable {K : PySem.W.Frag} {CI CP CO : Addr} {T : List (Addr × Str)} {t : XK → TE} {σ : L2.St} {H0 H : Hp} {D : Ends} {z : Str}
theorem told_first {Q : VK} (x : ExtN H0 H) (ht : Tabs T H) (hl : Tells CI CP CO T H0 (fun E H' Q' => t E σ H' Q') z) (k : ∀ p H', Stage T H0 p [z] H' → NewN H p → Q (.ref p) H') : tLst (tCons (tLam T (TSaid CI CP CO) t) tNil) σ H Q := by
  refine ⟨ht, fun H1 x1 t1 => hl H1 _ (x.trans x1) t1 fun H2 x2 t2 => ⟨by show 1 ≤ sizeLine; decide, fun p np => ?_⟩⟩
  have n2 : NewN H p := .of (x1.trans x2) np
  have n0 : NewN H0 p := .of (x.trans (x1.trans x2)) np
  exact k p _ ⟨ext_put (x.trans (x1.trans x2)) n0, t2.ext (same_new np), upd_same, n0, by show 1 ≤ 20; decide⟩ n2
theorem told_more {l : Addr} {zs : List Str} {i : Nat} {Q : VK} (hi : σ[i]? = some (some (.ref l))) (S : Stage T H0 l zs H) (lt : zs.length < 20) (hl : Tells CI CP CO T H0 (fun E H' Q' => t E σ H' Q') z) (k : ∀ H', Stage T H0 l (zs ++ [z]) H' → Q .non H') : tBM K "list" rAppend (tVar i) (tCons (tLam T (TSaid CI CP CO) t) tNil) σ H Q := by
  refine ⟨.ref l, hi, .inl ⟨rfl, _, .inl (.inl S.at_)⟩, S.tabs, fun H1 x1 t1 => hl H1 _ (S.ext.trans x1) t1 fun H2 x2 t2 => ?_⟩
  have e2 := (x1.trans x2) _ _ S.at_ fun _ z => nomatch z
  refine ⟨l, _, .str z, rfl, rfl, e2, by rw [List.length_map]; exact Nat.lt_of_lt_of_le lt (by decide), k _ ⟨ext_put (S.ext.trans (x1.trans x2)) S.new, tabs_put e2 t2, ?_, S.new, by rw [List.length_append]; show _ + 1 ≤ 20; omega⟩⟩
  rw [upd_same, List.map_append]
  rfl
end
end K12
set_option Elab.async false
set_option linter.all false
set_option autoImplicit false
set_option maxRecDepth 100000
set_option maxHeartbeats 4000000
/-! Og: expressions that yield such data; what is tracked stays. -/
namespace Og
open PySem PySem.Spec PyProof.Rows L2 Vb Wd Of
def Yd (t : TE) (σ : L2.St) (H : Hp) (d : PyData) : Prop := ∀ H1 Q, Same H H1 → (∀ v H', Same H1 H' → Dt H' v d → Q v H') → t σ H1 Q
def YdN (t : TE) (σ : L2.St) (H : Hp) (ds : List PyData) : Prop := ∀ H1 Q, Same H H1 → (∀ p Hb xs, Same H1 Hb → Hb p = none → DtAll Hb xs ds → Q (.ref p) (upd Hb p (.lst xs))) → t σ H1 Q
def YdA (t : TA) (σ : L2.St) (H : Hp) (ds : List PyData) : Prop := ∀ H1 Q, Same H H1 → (∀ vs H', Same H1 H' → DtAll H' vs ds → Q vs H') → t σ H1 Q
section
variable {σ : L2.St} {H : Hp}
theorem yd_nil : YdA tNil σ H [] := fun H1 Q s k => k [] H1 (Same.refl _) .nil
theorem yd_cons {t : TE} {ts : TA} {d : PyData} {ds : List PyData} (a : Yd t σ H d) (b : YdA ts σ H ds) : YdA (tCons t ts) σ H (d :: ds) := fun H1 Q s k =>
  a H1 _ s fun v H2 s2 h2 => b H2 _ (s.trans s2) fun vs H3 s3 h3 => k (v :: vs) H3 (s2.trans s3) (.cons (Dt.same s3 d v h2) h3)
theorem yd_str {x : Str} : Yd (tC (.str x)) σ H (.str x) := fun H1 Q s k => k _ H1 (Same.refl _) (.str x)
theorem yd_int {i : Int} : Yd (tC (.int i)) σ H (.int i) := fun H1 Q s k => k _ H1 (Same.refl _) (.int i)
theorem yd_non : Yd (tC .non) σ H .none := fun H1 Q s k => k _ H1 (Same.refl _) .non
theorem yd_bl {b : Bool} : Yd (tC (.bl b)) σ H (.bool b) := fun H1 Q s k => k _ H1 (Same.refl _) (.bl b)
theorem yd_var {i : Nat} {v : V} {d : PyData} (h : σ[i]? = some (some v)) (r : Dt H v d) : Yd (tVar i) σ H d := fun H1 Q s k => ⟨v, h, k v H1 (Same.refl _) (Dt.same s d v r)⟩
theorem yd_lst {t : TA} {ds : List PyData} (g : YdA t σ H ds) (few : ds.length ≤ sizeLine) : YdN (tLst t) σ H ds := fun H1 Q s k =>
  g H1 _ s fun vs H2 s2 h2 => ⟨by rw [h2.len]; exact few, fun p np => k p H2 vs s2 np h2⟩
theorem yd_tup {t : TA} {ds : List PyData} (g : YdA t σ H ds) (few : ds.length ≤ sizeLine) : Yd (tTup t) σ H (.tuple ds) := fun H1 Q s k =>
  g H1 _ s fun vs H2 s2 h2 => ⟨by rw [h2.len]; exact few, fun p np => k (.ref p) _ (s2.trans (same_new np)) (.tup upd_same (DtAll.same (same_new np) ds vs h2))⟩
theorem YdN.data {t : TE} {ds : List PyData} (g : YdN t σ H ds) : Yd t σ H (.list ds) := fun H1 Q s k =>
  g H1 _ s fun p Hb xs s2 np h => k (.ref p) _ (s2.trans (same_new np)) (.lst upd_same (DtAll.same (same_new np) ds xs h))
theorem yd_d0 : Yd tDNewK σ H (.dict []) := fun H1 Q s k p np => k (.ref p) _ (same_new np) (.d0 upd_same)
theorem yd_d1 {x y : Str} : Yd (tDisp [(tC (.str x), tC (.str y))]) σ H (.dict [(.str x, .str y)]) := fun H1 Q s k p np =>
  ⟨upd_same, [(Sum.inr x, .str y)], rfl, by show 1 ≤ 15; decide, by
    have e : (upd (upd H1 p (.dK [])) p (.dK (mergeK [] [(Sum.inr x, V.str y)]))) = upd H1 p (.dK [(Sum.inr x, V.str y)]) := by
      rw [upd_upd]
      rfl
    show Q (.ref p) (upd (upd H1 p (.dK [])) p (.dK (mergeK [] [(Sum.inr x, V.str y)])))
    rw [e]
    exact k (.ref p) _ (same_new np) (.d1 upd_same)⟩
theorem Yd.at {t : TE} {d : PyData} {Q : VK} (g : Yd t σ H d) (k : ∀ v H', Same H H' → Dt H' v d → Q v H') : t σ H Q := g H _ (Same.refl _) k
theorem YdN.at {t : TE} {ds : List PyData} {Q : VK} (g : YdN t σ H ds) (k : ∀ p Hb xs, Same H Hb → Hb p = none → DtAll Hb xs ds → Q (.ref p) (upd Hb p (.lst xs))) : t σ H Q := g H _ (Same.refl _) k
theorem asg_ydN {te : TE} {g : TG} {rest : TS} {D : Ends} {ds : List PyData} (G : YdN te σ H ds) (k : ∀ p Hb xs, Same H Hb → Hb p = none → DtAll Hb xs ds → g (.ref p) σ (upd Hb p (.lst xs)) (fun σ2 H2 => rest D σ2 H2)) : tSeq (tAsg te g) rest D σ H := G H _ (Same.refl _) k
theorem asg_yd {te : TE} {g : TG} {rest : TS} {D : Ends} {d : PyData} (G : Yd te σ H d) (k : ∀ v H', Same H H' → Dt H' v d → g v σ H' (fun σ2 H2 => rest D σ2 H2)) : tSeq (tAsg te g) rest D σ H := G H _ (Same.refl _) k
theorem asg_at {te : TE} {g : TG} {rest : TS} {D : Ends} (h : te σ H fun v H' => g v σ H' (fun σ2 H2 => rest D σ2 H2)) : tSeq (tAsg te g) rest D σ H := h
theorem drop_at {te : TE} {rest : TS} {D : Ends} (h : te σ H fun _ H' => rest D σ H') : tSeq (tDrop te) rest D σ H := h
end
end Og
set_option Elab.async false
set_option linter.all false
set_option autoImplicit false
set_option maxRecDepth 100000
set_option maxHeartbeats 8000000
namespace K12
open PySem PySem.Spec PyProof.Rows L2 Vb Wd Xd Xe Xl Xu Xg Xo Xv LamX Oe Of Og SX Pc
def kinds7 : List String := ["NoneType", "bool", "int", "str", "list", "tuple", "dict"]
/-- values of these kinds are no objects of the class -/
def NoK (K : PySem.W.Frag) (C : Addr) : Prop := ∀ t ∈ kinds7, PySem.W.kitOne K (.type t) (.ref C) = some false
/-- a value that is no object of the class C: data, a tuple, an object of another class -/
inductive OtherV (K : PySem.W.Frag) (H : Hp) (C : Addr) : V → Prop
  | dat {v : V} {d : PyData} (h : Dt H v d) (n : noDz d = true) : OtherV K H C v
  | tup {a : Addr} {xs : List V} (h : H a = some (.tup xs)) : OtherV K H C (.ref a)
  | obj {a C' dx : Addr} {fs : List (Str × V)} (h : H a = some (.ins C' dx fs)) (c : Cls K C') (I : FormI K C') (no : PySem.W.kitOne K (.ref C') (.ref C) = some false) : OtherV K H C (.ref a)
theorem kndOf_mem (d : PyData) : kndOf d ∈ kinds7 := by
  cases d <;> simp [kndOf, kinds7]
theorem OtherV.not {K : PySem.W.Frag} {H : Hp} {C : Addr} {v : V} (nk : NoK K C) (o : OtherV K H C v) : NotOf K H v C := by
  cases o with
  | dat h n => exact ⟨_, h.ty, nk _ (kndOf_mem _)⟩
  | tup h => exact ⟨_, .base (.tup h), nk "tuple" (by simp [kinds7])⟩
  | obj h c I no => exact ⟨_, .base (.ins h c I.ca I.sp I.tk I.mo), no⟩
theorem OtherV.ext {K : PySem.W.Frag} {H H' : Hp} {C : Addr} {v : V} (e : ExtN H H') (o : OtherV K H C v) : OtherV K H' C v := by
  cases o with
  | dat h n => exact .dat (Dt.ext e _ _ h) n
  | tup h => exact .tup (e _ _ h fun _ z => nomatch z)
  | obj h c I no => exact .obj (e _ _ h fun _ z => nomatch z) c I no
theorem keeps_keep {H H' : Hp} (k : Keep H H') : Keeps H H' := ⟨fun a xs n h => k _ _ (fun g s c z => by
  unfold dz at z
  cases z
  exact n _ _ _ rfl) (fun _ z => nomatch z) h, fun a xs h => k _ _ (fun g s c z => nomatch z) (fun _ z => nomatch z) h, fun a kvs h => k _ _ (fun g s c z => nomatch z) (fun _ z => nomatch z) h⟩
theorem keepP_keep {H H' : Hp} (k : Keep H H') : KeepP H H' := fun x o h kd => by
  refine k x o (fun g s c z => ?_) (fun ps z => ?_) h
  · subst z
    rcases kd with ⟨_, _, _, z, _⟩ | ⟨_, z⟩ <;> cases z
  · subst z
    rcases kd with ⟨_, _, _, z, _⟩ | ⟨_, z⟩ <;> cases z
theorem OtherV.keep {K : PySem.W.Frag} {H H' : Hp} {C : Addr} {v : V} (e : Keep H H') (o : OtherV K H C v) : OtherV K H' C v := by
  cases o with
  | dat h n => exact .dat (Dt.keep (keeps_keep e) _ _ n h) n
  | tup h => exact .tup (e _ _ (fun g s c z => nomatch z) (fun _ z => nomatch z) h)
  | obj h c I no => exact .obj (e _ _ (fun g s c z => nomatch z) (fun _ z => nomatch z) h) c I no
/-- what is asked of a scheme, a picture and spots, and the words that are due -/
inductive Ask (K : PySem.W.Frag) (C CS CP : Addr) (H : Hp) : V → V → V → Str → Str → Str → Prop
  | no {u v s : V} (o : OtherV K H CS u) : Ask K C CS CP H u v s "scheme" "scheme" "scheme"
  | odd {a : Addr} {b : Str} {ys : List Str} {ds : List FD} {v s : V} (S : SchemeAt H C CS a b ys ds) (o : OtherV K H CP v) : Ask K C CS CP H (.ref a) v s "fine" "picture" "picture"
  | pic {a : Addr} {b : Str} {ys : List Str} {ds : List FD} {v s : V} {p : Pic} {d : PyData} (S : SchemeAt H C CS a b ys ds) (P : PicAt H CP p v) (ok : p.Ok) (l : p.lev < 3) (k : Dt H s d) (o : okD d = true) (z : sizeD d ≤ 600) :
      Ask K C CS CP H (.ref a) v s "fine" (if sound ds p = true then "fine" else "picture") (if spotsD d p.holes = true then "fine" else "operation")
theorem Ask.ext {K : PySem.W.Frag} {C CS CP : Addr} {H H' : Hp} {u v s : V} {z1 z2 z3 : Str} (e : ExtN H H') (q : Ask K C CS CP H u v s z1 z2 z3) : Ask K C CS CP H' u v s z1 z2 z3 := by
  cases q with
  | no o => exact .no (o.ext e)
  | odd S o => exact .odd (S.keep (ext_keep e)) (o.ext e)
  | pic S P ok l k o z => exact .pic (S.keep (ext_keep e)) (P.keep (ext_keepP e) _ _) ok l (Dt.ext e _ _ k) o z
section
variable {K : PySem.W.Frag} {C CS CP CI CIP CO : Addr} {T : List (Addr × Str)} {H0 : Hp} {u v s : V} {z1 z2 z3 : Str}
theorem tells_sound (nS : NoK K CS) (nP : NoK K CP) (q : Ask K C CS CP H0 u v s z1 z2 z3) : Tells CI CIP CO T H0 (fun E H Q => spSoundX K C CS CP CI 3 [u, v] H Q E) z1 := fun H1 Q x ht k => by
  have q1 := q.ext x
  cases q1 with
  | no o => exact ⟨u, v, rfl, .inl ⟨o.not nS, .inl ⟨rfl, k H1 (ExtN.of (Same.refl H1)) ht⟩⟩⟩
  | odd S o => exact ⟨_, v, rfl, .inr ⟨_, _, _, _, rfl, S, .inl ⟨o.not nP, k H1 (ExtN.of (Same.refl H1)) ht⟩⟩⟩
  | pic S P ok l kd o z => exact ⟨_, v, rfl, .inr ⟨_, _, _, _, rfl, S, .inr ⟨_, P, ok, l, fun H2 s2 => k H2 (ExtN.of s2) (ht.ext s2)⟩⟩⟩
theorem tells_spots (nS : NoK K CS) (nP : NoK K CP) (q : Ask K C CS CP H0 u v s z1 z2 z3) : Tells CI CIP CO T H0 (fun E H Q => spSpotsOf K C CS CP CI CIP 3 [u, v] H Q E) z2 := fun H1 Q x ht k => by
  have q1 := q.ext x
  cases q1 with
  | no o => exact ⟨u, v, rfl, .inl ⟨o.not nS, .inl ⟨rfl, k H1 (ExtN.of (Same.refl H1)) ht⟩⟩⟩
  | odd S o => exact ⟨_, v, rfl, .inr ⟨_, _, _, _, rfl, S, .inl ⟨o.not nP, fun H2 s2 => .inr (.inl ⟨rfl, k H2 (ExtN.of s2) (ht.ext s2)⟩)⟩⟩⟩
  | pic S P ok l kd o z =>
    refine ⟨_, v, rfl, .inr ⟨_, _, _, _, rfl, S, .inr ⟨_, P, ok, l, by omega, fun e H2 s2 => .inr (.inl ⟨rfl, ?_⟩), fun e t xs H2 s2 _ => ?_⟩⟩⟩
    · have := k H2 (ExtN.of s2) (ht.ext s2)
      rw [e] at this
      exact this
    · have := k H2 (ExtN.of s2) (ht.ext s2)
      rw [e] at this
      exact this
theorem tells_over (nS : NoK K CS) (nP : NoK K CP) (q : Ask K C CS CP H0 u v s z1 z2 z3) : Tells CI CIP CO T H0 (fun E H Q => spSpotOver K C CS CP CI CIP CO 3 [u, v, s] H Q E) z3 := fun H1 Q x ht k => by
  have q1 := q.ext x
  cases q1 with
  | no o => exact ⟨u, v, s, rfl, .inl ⟨o.not nS, .inl ⟨rfl, k H1 (ExtN.of (Same.refl H1)) ht⟩⟩⟩
  | odd S o => exact ⟨_, v, s, rfl, .inr ⟨_, _, _, _, rfl, S, .inl ⟨o.not nP, .inr (.inl ⟨rfl, k H1 (ExtN.of (Same.refl H1)) ht⟩)⟩⟩⟩
  | pic S P ok l kd o z =>
    refine ⟨_, v, s, rfl, .inr ⟨_, _, _, _, rfl, S, .inr ⟨_, _, P, ok, l, by omega, kd, o, z, fun e H2 s2 => .inr (.inr ⟨rfl, ?_⟩), fun e r H2 s2 _ => ?_⟩⟩⟩
    · have := k H2 (ExtN.of s2) (ht.ext s2)
      rw [e] at this
      exact this
    · have := k H2 (ExtN.of s2) (ht.ext s2)
      rw [e] at this
      exact this
end
abbrev s_l_asked : Stmt := topS 56
theorem sc_l_asked : FnScope ["_law_scheme_here", "_law_picture", "_law_spots", "_law_told"] ["_law_scheme_here", "_law_picture", "_law_spots"] (defScope s_l_asked) := ⟨rfl, rfl, rfl, by decide +kernel, rfl, by decide +kernel, by decide +kernel⟩
def spAsked (K : PySem.W.Frag) (C CS CP : Addr) (T : List (Addr × Str)) : Sp := fun vs H Q _ => ∃ (u v s : V) (z1 z2 z3 : Str), vs = [u, v, s] ∧ Tabs T H ∧ Ask K C CS CP H u v s z1 z2 z3 ∧ ∀ l H', ExtN H H' → Tabs T H' → NewN H l → H' l = some (.lst ([z1, z2, z3].map V.str)) → Q (.ref l) H'
section
variable {P : Program} {w : World} {K : PySem.W.Frag} {mg : Str → Option Value} {base : Heap} {C CS CP CI CIP CO : Addr}
theorem ok_l_asked {f c Pt : Addr} {fd : FuncData} {T : List (Addr × Str)} (F : FunC K "_law_asked" "_law_asked" s_l_asked f fd (.ref c)) (V8 : Env8 P w K mg base C CS CP CI CIP CO) (nS : NoK K CS) (nP : NoK K CP) (TB : TabB base mg c Pt) (hmT : (Pt, ("_law_asked.<locals>.<lambda>" : Str)) ∈ T) (hu : ∀ p ∈ T, p.1 = Pt → p.2 = "_law_asked.<locals>.<lambda>") : FnG P w K mg base 20 f fd ["_law_scheme_here", "_law_picture", "_law_spots"] (spAsked K C CS CP T) := by
  refine goes_byC F sc_l_asked (fun vs H Q E h => ?_) (fun A outer s H vs Q E hc hr h => ?_)
  · obtain ⟨u, v, s, z1, z2, z3, rfl, _⟩ := h
    rfl
  · obtain ⟨u, v, sv, z1, z2, z3, rfl, ht, hq, q⟩ := h
    refine ⟨_, (pss_cons (ps_set (i := 3) sc_l_asked.nd rfl (Or.inl rfl) (pe_lst (pa_cons
        (pe_said V8 (T := T) (t := (fun E => tCE (spSoundX K C CS CP CI 3) E (tCons (tVar 0) (tCons (tVar 1) tNil)))) hc (hr.mono (by decide)) (by rfl) TB rfl hmT hu (show LamS (defScope s_l_asked) _ from lamS_by (by decide +kernel)) rfl (fun _ _ _ _ _ => rfl)
          (fun A' outer' s' H' E' f' c' hc' hr' => (pe_cgE (E := E') V8.G_sound (hc'.deep _) hr' (by rfl) (takes_of rfl rfl rfl rfl) (fun _ _ _ _ z => z) (pa_cons (pv 0) (pa_cons (pv 1) pa_nil))))) pa_nil)))
      (pss_cons (ps_expr (pe_bm PySem.F.plainAttrs_list PySem.F.slot_list_append PySem.F.type_list_append mt_append (pv 3) (pa_cons
        (pe_said V8 (T := T) (t := (fun E => tCE (spSpotsOf K C CS CP CI CIP 3) E (tCons (tVar 0) (tCons (tVar 1) tNil)))) hc (hr.mono (by decide)) (by rfl) TB rfl hmT hu (show LamS (defScope s_l_asked) _ from lamS_by (by decide +kernel)) rfl (fun _ _ _ _ _ => rfl)
          (fun A' outer' s' H' E' f' c' hc' hr' => (pe_cgE (E := E') V8.G_spots (hc'.deep _) hr' (by rfl) (takes_of rfl rfl rfl rfl) (fun _ _ _ _ z => z) (pa_cons (pv 0) (pa_cons (pv 1) pa_nil))))) pa_nil)))
      (pss_cons (ps_expr (pe_bm PySem.F.plainAttrs_list PySem.F.slot_list_append PySem.F.type_list_append mt_append (pv 3) (pa_cons
        (pe_said V8 (T := T) (t := (fun E => tCE (spSpotOver K C CS CP CI CIP CO 3) E (tCons (tVar 0) (tCons (tVar 1) (tCons (tVar 2) tNil))))) hc (hr.mono (by decide)) (by rfl) TB rfl hmT hu (show LamS (defScope s_l_asked) _ from lamS_by (by decide +kernel)) rfl (fun _ _ _ _ _ => rfl)
          (fun A' outer' s' H' E' f' c' hc' hr' => (pe_cgE (E := E') V8.G_over (hc'.deep _) hr' (by rfl) (takes_of rfl rfl rfl rfl) (fun _ _ _ _ z => z) (pa_cons (pv 0) (pa_cons (pv 1) (pa_cons (pv 2) pa_nil)))))) pa_nil)))
      (pss_one (ps_ret (pv 3)))))), ?_⟩
    refine asg_at (told_first (H0 := H) (z := z1) (ExtN.of (Same.refl H)) ht (fun H1 Q' x t k => ⟨_, rfl, _, rfl, tells_sound (CIP := CIP) (CO := CO) nS nP hq H1 Q' x t k⟩) fun p H1 S1 n1 => ?_)
    refine drop_at (told_more rfl S1 (by show 1 < 20; decide) (fun H1 Q' x t k => ⟨_, rfl, _, rfl, tells_spots (CO := CO) nS nP hq H1 Q' x t k⟩) fun H2 S2 => ?_)
    refine drop_at (told_more rfl S2 (by show 2 < 20; decide) (fun H1 Q' x t k => ⟨_, rfl, _, rfl, _, rfl, tells_over nS nP hq H1 Q' x t k⟩) fun H3 S3 => ?_)
    exact ⟨_, rfl, q p H3 S3.ext S3.tabs n1 S3.at_⟩
end
end K12
set_option Elab.async false
set_option linter.all false
set_option autoImplicit false
set_option maxRecDepth 100000
set_option maxHeartbeats 4000000
/-! Oh: tuples of such data cut and joined. -/
namespace Oh
open PySem PySem.Spec PyProof.Rows L2 Vb Wd Of Og
def cutP (ds : List PyData) (lo hi : Option Int) : List PyData := (ds.drop (HT.sIx ds.length 0 lo)).take (HT.sIx ds.length ds.length hi - HT.sIx ds.length 0 lo)
theorem DtAll.drop {H : Hp} : ∀ (n : Nat) {xs : List V} {ds : List PyData}, DtAll H xs ds → DtAll H (xs.drop n) (ds.drop n)
  | 0, _, _, h => h
  | n + 1, _, _, .nil => .nil
  | n + 1, _, _, .cons _ t => DtAll.drop n t
theorem DtAll.take {H : Hp} : ∀ (n : Nat) {xs : List V} {ds : List PyData}, DtAll H xs ds → DtAll H (xs.take n) (ds.take n)
  | 0, _, _, _ => .nil
  | n + 1, _, _, .nil => .nil
  | n + 1, _, _, .cons q t => .cons q (DtAll.take n t)
theorem DtAll.cut {H : Hp} {xs : List V} {ds : List PyData} (h : DtAll H xs ds) (lo hi : Option Int) : DtAll H (cutV xs lo hi) (cutP ds lo hi) := by
  unfold cutV cutP
  rw [h.len]
  exact DtAll.take _ (DtAll.drop _ h)
theorem dt_tup {H : Hp} {v : V} {ds : List PyData} (h : Dt H v (.tuple ds)) : ∃ a xs, v = .ref a ∧ H a = some (.tup xs) ∧ DtAll H xs ds := by
  cases h with
  | tup e al => exact ⟨_, _, rfl, e, al⟩
/-- a part of a slice that is known -/
def Po (t : TO) (σ : L2.St) (o : Option Int) : Prop := ∀ (H : Hp) (Q : Option Int → Hp → Prop), Q o H → t σ H Q
section
variable {K : PySem.W.Frag} {σ : L2.St} {H : Hp}
theorem po_no : Po tNoPart σ none := fun _ _ q => q
theorem po_i {i : Int} : Po (tPart (tC (.int i))) σ (some i) := fun _ _ q => ⟨i, rfl, q⟩
theorem po_v {k : Nat} {i : Int} (h : σ[k]? = some (some (.int i))) : Po (tPart (tVar k)) σ (some i) := fun _ _ q => ⟨.int i, h, i, rfl, q⟩
theorem po_v1 {k : Nat} {i j : Int} (h : σ[k]? = some (some (.int i))) : Po (tPart (tOp (rI0 fun i j => .int (i + j)) (tVar k) (tC (.int j)))) σ (some (i + j)) := fun _ _ q => ⟨.int i, h, i, j, rfl, rfl, i + j, rfl, q⟩
theorem yd_sl {te : TE} {tl th : TO} {ds : List PyData} {lo hi : Option Int} (g : Yd te σ H (.tuple ds)) (l : Po tl σ lo) (h : Po th σ hi) : Yd (tSl (rSlA K) te tl th) σ H (.tuple (cutP ds lo hi)) := fun H1 Q s k =>
  g H1 _ s fun v H2 s2 kd => l H2 _ (h H2 _ (by
    obtain ⟨a, xs, rfl, e, al⟩ := dt_tup kd
    refine ⟨a, xs, rfl, .inl (.inl e), fun ⟨w1, w2⟩ => ?_, fun _ p np => ?_⟩
    · have : cutP ds lo hi = ds := by
        unfold cutP
        rw [al.len] at w1 w2
        rw [w1, w2, List.drop_zero, Nat.sub_zero, List.take_length]
      rw [this] at k
      exact k _ H2 s2 (.tup e al)
    · have sp := same_new (o := .tup (cutV xs lo hi)) np
      exact k _ _ (s2.trans sp) (.tup upd_same (DtAll.same sp _ _ (DtAll.cut al lo hi)))))
theorem yd_catA {te tu : TE} {ds es : List PyData} (g : Yd te σ H (.tuple ds)) (g' : Yd tu σ H (.tuple es)) (few : ds.length + es.length ≤ sizeLine) : Yd (tOp (rCatA K) te tu) σ H (.tuple (ds ++ es)) := fun H1 Q s k =>
  g H1 _ s fun v H2 s2 kd => g' H2 _ (s.trans s2) fun u H3 s3 ke => by
    obtain ⟨a, xs, rfl, e, al⟩ := dt_tup kd
    obtain ⟨b, ys, rfl, e', al'⟩ := dt_tup ke
    have al3 := DtAll.same s3 ds xs al
    refine ⟨a, b, xs, ys, rfl, rfl, .inl (.inl (s3 _ _ e)), .inl (.inl e'), by rw [al.len, al'.len]; exact few, fun z => ?_, fun _ z => ?_, fun _ _ p np => ?_⟩
    · subst z
      have : ds = [] := List.length_eq_zero_iff.mp al.len.symm
      rw [this, List.nil_append] at k
      exact k _ H3 (s2.trans s3) (.tup e' al')
    · subst z
      have : es = [] := List.length_eq_zero_iff.mp al'.len.symm
      rw [this, List.append_nil] at k
      exact k _ H3 (s2.trans s3) (.tup (s3 _ _ e) al3)
    · have sp := same_new (o := .tup (xs ++ ys)) np
      exact k _ _ ((s2.trans s3).trans sp) (.tup upd_same (DtAll.same sp _ _ (al3.app al')))
end
end Oh
set_option Elab.async false
set_option linter.all false
set_option autoImplicit false
set_option maxRecDepth 100000
set_option maxHeartbeats 4000000
/-! Ow: data whose lists are short, beside a long list that grows; data that is fine throughout. -/
namespace Ow
open PySem PySem.Spec PyProof.Rows L2 Vb Wd Of Og Oh
mutual
/-- no list of more than four items in it -/
def noBig : PyData → Bool
  | .list ds => decide (ds.length ≤ 4) && noBigs ds
  | .tuple ds => noBigs ds
  | _ => true
def noBigs : List PyData → Bool
  | [] => true
  | d :: ds => noBig d && noBigs ds
end
def KeepS (H H' : Hp) : Prop := (∀ a xs, xs.length ≤ 4 → H a = some (.lst xs) → H' a = some (.lst xs)) ∧ (∀ a xs, H a = some (.tup xs) → H' a = some (.tup xs)) ∧ ∀ a kvs, H a = some (.dK kvs) → H' a = some (.dK kvs)
theorem KeepS.of {H H' : Hp} (s : Same H H') : KeepS H H' := ⟨fun a xs _ h => s _ _ h, fun a xs h => s _ _ h, fun a kvs h => s _ _ h⟩
theorem KeepS.trans {H H1 H' : Hp} (a : KeepS H H1) (b : KeepS H1 H') : KeepS H H' := ⟨fun x xs n h => b.1 _ _ n (a.1 _ _ n h), fun x xs h => b.2.1 _ _ (a.2.1 _ _ h), fun x xs h => b.2.2 _ _ (a.2.2 _ _ h)⟩
theorem KeepS.put {H : Hp} {l : Addr} {xs ys : List V} (h : H l = some (.lst xs)) (big : 4 < xs.length) : KeepS H (upd H l (.lst ys)) := by
  refine ⟨fun a zs n e => ?_, fun a zs e => ?_, fun a zs e => ?_⟩
  · have al : a ≠ l := fun z => by
      rw [z, h] at e
      cases e
      omega
    rw [upd_ne al]
    exact e
  · have al : a ≠ l := fun z => by
      rw [z, h] at e
      cases e
    rw [upd_ne al]
    exact e
  · have al : a ≠ l := fun z => by
      rw [z, h] at e
      cases e
    rw [upd_ne al]
    exact e
mutual
theorem Dt.keepS {H H' : Hp} (k : KeepS H H') : ∀ (d : PyData) (v : V), noBig d = true → Dt H v d → Dt H' v d
  | .none, _, _, h => by
    cases h
    exact .non
  | .bool b, _, _, h => by
    cases h
    exact .bl b
  | .int i, _, _, h => by
    cases h
    exact .int i
  | .str z, _, _, h => by
    cases h
    exact .str z
  | .list ds, _, n, h => by
    cases h with
    | lst e a =>
      unfold noBig at n
      rw [Bool.and_eq_true, decide_eq_true_eq] at n
      exact .lst (k.1 _ _ (by rw [a.len]; exact n.1) e) (DtAll.keepS k ds _ n.2 a)
  | .tuple ds, _, n, h => by
    cases h with
    | tup e a =>
      unfold noBig at n
      exact .tup (k.2.1 _ _ e) (DtAll.keepS k ds _ n a)
  | .dict _, _, _, h => by
    cases h with
    | d0 e => exact .d0 (k.2.2 _ _ e)
    | d1 e => exact .d1 (k.2.2 _ _ e)
theorem DtAll.keepS {H H' : Hp} (k : KeepS H H') : ∀ (ds : List PyData) (vs : List V), noBigs ds = true → DtAll H vs ds → DtAll H' vs ds
  | [], _, _, h => by
    cases h
    exact .nil
  | d :: ds, _, n, h => by
    cases h with
    | cons q t =>
      unfold noBigs at n
      rw [Bool.and_eq_true] at n
      exact .cons (Dt.keepS k d _ n.1 q) (DtAll.keepS k ds _ n.2 t)
end
/-- fine: of no great size, no list like the dice, no long list -/
def fineD (d : PyData) : Bool := okD d && (noDz d && noBig d)
theorem okDs_all : ∀ ds : List PyData, okDs ds = ds.all okD
  | [] => rfl
  | d :: ds => by rw [okDs, okDs_all ds, List.all_cons]
theorem noDzs_all : ∀ ds : List PyData, noDzs ds = ds.all noDz
  | [] => rfl
  | d :: ds => by rw [noDzs, noDzs_all ds, List.all_cons]
theorem noBigs_all : ∀ ds : List PyData, noBigs ds = ds.all noBig
  | [] => rfl
  | d :: ds => by rw [noBigs, noBigs_all ds, List.all_cons]
theorem fine_tup {ds : List PyData} (h : ∀ d ∈ ds, fineD d = true) : fineD (.tuple ds) = true := by
  unfold fineD at h ⊢
  rw [Bool.and_eq_true, Bool.and_eq_true]
  refine ⟨?_, ?_, ?_⟩
  · rw [okD, okDs_all]
    exact List.all_eq_true.mpr fun d hd => (Bool.and_eq_true _ _ ▸ h d hd).1
  · rw [noDz, noDzs_all]
    refine List.all_eq_true.mpr fun d hd => ?_
    have := h d hd
    rw [Bool.and_eq_true, Bool.and_eq_true] at this
    exact this.2.1
  · rw [noBig, noBigs_all]
    refine List.all_eq_true.mpr fun d hd => ?_
    have := h d hd
    rw [Bool.and_eq_true, Bool.and_eq_true] at this
    exact this.2.2
theorem fine_lst {ds : List PyData} (h : ∀ d ∈ ds, fineD d = true) (l : ds.length ≤ 4) (ni : ds.all isI = false) : fineD (.list ds) = true := by
  unfold fineD at h ⊢
  rw [Bool.and_eq_true, Bool.and_eq_true]
  refine ⟨?_, ?_, ?_⟩
  · rw [okD, okDs_all]
    refine List.all_eq_true.mpr fun d hd => ?_
    have := h d hd
    rw [Bool.and_eq_true] at this
    exact this.1
  · rw [noDz, noDzs_all, ni, Bool.and_false]
    show (true && ds.all noDz) = true
    rw [Bool.true_and]
    refine List.all_eq_true.mpr fun d hd => ?_
    have := h d hd
    rw [Bool.and_eq_true, Bool.and_eq_true] at this
    exact this.2.1
  · rw [noBig, noBigs_all, Bool.and_eq_true, decide_eq_true_eq]
    refine ⟨l, List.all_eq_true.mpr fun d hd => ?_⟩
    have := h d hd
    rw [Bool.and_eq_true, Bool.and_eq_true] at this
    exact this.2.2
theorem fine_parts {d : PyData} (h : fineD d = true) : okD d = true ∧ noDz d = true ∧ noBig d = true := by
  unfold fineD at h
  rw [Bool.and_eq_true, Bool.and_eq_true] at h
  exact h
section
variable {K : PySem.W.Frag} {σ : L2.St} {H : Hp}
/-- list(t) of a tuple that is tracked -/
theorem yd_listT {X : Cx} {te : TE} {ds : List PyData} (g : Yd te σ H (.tuple ds)) : Yd (tCB (fun xs H Q => ∃ p ys, xs = [V.ref p] ∧ (SqL X.K H p ys ∨ SqT X.K H p ys) ∧ ∀ l, H l = none → Q (.ref l) (upd H l (.lst ys))) (tCons te tNil)) σ H (.list ds) := fun H1 Q s k =>
  g H1 _ s fun v H2 s2 kd => by
    obtain ⟨a, xs, rfl, e, al⟩ := dt_tup kd
    refine ⟨a, xs, rfl, .inr (.inl (.inl e)), fun l nl => ?_⟩
    have sp := same_new (o := .lst xs) nl
    exact k _ _ (s2.trans sp) (.lst upd_same (DtAll.same sp _ _ al))
/-- t[0] -/
theorem yd_ix0 {te : TE} {d : PyData} {ds : List PyData} (g : Yd te σ H (.tuple (d :: ds))) : Yd (tOp (rIxT K) te (tC (.int 0))) σ H d := fun H1 Q s k =>
  g H1 _ s fun v H2 s2 kd => by
    obtain ⟨a, xs, rfl, e, al⟩ := dt_tup kd
    match xs, al with
    | x :: r, .cons kx kr => exact ⟨a, _, 0, x, rfl, rfl, .inl (.inl e), atI_nat (j := 0) rfl, k x H2 s2 kx⟩
theorem yd_pow {i j : Int} (h : CPowW i j) : Yd (tOp (rI CPowW fun i j => .int (i ^ j.toNat)) (tC (.int i)) (tC (.int j))) σ H (.int (i ^ j.toNat)) := fun H1 Q s k => ⟨i, j, rfl, rfl, h, k _ H1 (Same.refl _) (.int _)⟩
theorem yd_subpow {a i j : Int} (h : CPowW i j) : Yd (tOp (rI0 fun i j => .int (i - j)) (tC (.int a)) (tOp (rI CPowW fun i j => .int (i ^ j.toNat)) (tC (.int i)) (tC (.int j)))) σ H (.int (a - i ^ j.toNat)) := fun H1 Q s k => ⟨i, j, rfl, rfl, h, a, _, rfl, rfl, k _ H1 (Same.refl _) (.int _)⟩
theorem yd_neg {i : Int} : Yd (tUn (rU fun i => .int (-i)) (tC (.int i))) σ H (.int (-i)) := fun H1 Q s k => ⟨i, rfl, k _ H1 (Same.refl _) (.int _)⟩
theorem po_neg {i : Int} : Po (tPart (tUn (rU fun i => .int (-i)) (tC (.int i)))) σ (some (-i)) := fun _ _ q => ⟨i, rfl, -i, rfl, q⟩
end
end Ow
set_option Elab.async false
set_option linter.all false
set_option autoImplicit false
set_option maxRecDepth 100000
set_option maxHeartbeats 8000000
namespace K12
open PySem PySem.Spec PyProof.Rows L2 Vb Wd Xd Xe Xl Xu Xg Xo Xv LamX Oe Of Og Oh Ow SX Pc
abbrev s_l_bad_spots : Stmt := topS 57
theorem sc_l_bad_spots : FnScope ["_law_dice_here", "_law_spots", "_law_some", "_law_odd"] ["_law_dice_here", "_law_spots"] (defScope s_l_bad_spots) := ⟨rfl, rfl, rfl, by decide +kernel, rfl, by decide +kernel, by decide +kernel⟩
def spD (i : Int) : PyData := .tuple [.str "t", .int i]
def spsD (ns : List Int) : List PyData := ns.map spD
def BadS (n : Nat) (d : PyData) : Prop := fineD d = true ∧ sizeD d ≤ 600 ∧ spotsD d n = false
theorem fine_sp {i : Int} (h : i.natAbs < 10 ^ 60) : fineD (spD i) = true := by
  refine fine_tup fun d hd => ?_
  rcases List.mem_cons.mp hd with rfl | hd
  · decide +kernel
  · have : d = .int i := by simpa using hd
    subst this
    have e : fineD (.int i) = (decide (i.natAbs < 10 ^ 100) && (true && true)) := rfl
    rw [e, decide_eq_true (Nat.lt_trans h (by decide))]
    rfl
theorem spot_sp {i : Int} (h : i.natAbs < 10 ^ 60) : spotD (spD i) = true := by
  have e : spotD (spD i) = (namD (.str "t") && intD (.int i)) := rfl
  rw [e, show namD (.str "t") = true from by decide +kernel]
  show (true && decide (i.natAbs < 10 ^ 60)) = true
  rw [decide_eq_true h]
  rfl
theorem fine_sps {ns : List Int} (h : ∀ i ∈ ns, i.natAbs < 10 ^ 60) : ∀ d ∈ spsD ns, fineD d = true := fun d hd => by
  obtain ⟨i, hi, rfl⟩ := List.mem_map.mp hd
  exact fine_sp (h i hi)
theorem fine_cut {ds : List PyData} {lo hi : Option Int} (h : ∀ d ∈ ds, fineD d = true) : ∀ d ∈ cutP ds lo hi, fineD d = true := fun d hd => h d (List.mem_of_mem_drop (List.mem_of_mem_take hd))
theorem fine_app {ds es : List PyData} (h : ∀ d ∈ ds, fineD d = true) (h' : ∀ d ∈ es, fineD d = true) : ∀ d ∈ ds ++ es, fineD d = true := fun d hd => (List.mem_append.mp hd).elim (h d) (h' d)
theorem fine_one {d : PyData} (h : fineD d = true) : ∀ x ∈ [d], fineD x = true := fun x hx => by
  have : x = d := by simpa using hx
  rw [this]
  exact h
theorem bad_odd {n : Nat} {ds : List PyData} (h : ∀ d ∈ ds, fineD d = true) (l : ds.length ≤ 600) {o : PyData} (m : o ∈ ds) (so : spotD o = false) : BadS n (.tuple ds) := by
  refine ⟨fine_tup h, l, ?_⟩
  show (ds.all spotD && decide (ds.length = n)) = false
  have : ds.all spotD = false := Bool.eq_false_iff.mpr fun z => by
    have := List.all_eq_true.mp z o m
    rw [so] at this
    cases this
  rw [this, Bool.false_and]
theorem bad_len {n : Nat} {ds : List PyData} (h : ∀ d ∈ ds, fineD d = true) (l : ds.length ≤ 600) (ne : ds.length ≠ n) : BadS n (.tuple ds) := by
  refine ⟨fine_tup h, l, ?_⟩
  show (ds.all spotD && decide (ds.length = n)) = false
  rw [decide_eq_false ne, Bool.and_false]
theorem cut_m1 {ds : List PyData} (h : 1 ≤ ds.length) : (cutP ds none (some (-1))).length = ds.length - 1 := by
  unfold cutP
  have e1 : HT.sIx ds.length 0 none = 0 := rfl
  have e2 : HT.sIx ds.length ds.length (some (-1)) = ds.length - 1 := by
    show (if (-1 : Int) < 0 then ((-1 : Int) + (ds.length : Int)).toNat else min (-1 : Int).toNat ds.length) = _
    rw [if_pos (by decide)]
    omega
  rw [e1, e2, List.length_take, List.length_drop]
  omega
theorem cut_1 {ds : List PyData} (h : 1 ≤ ds.length) : (cutP ds none (some 1)).length = 1 := by
  unfold cutP
  have e1 : HT.sIx ds.length 0 none = 0 := rfl
  have e2 : HT.sIx ds.length ds.length (some 1) = 1 := by
    have := HT.sIx_nat ds.length ds.length 1
    have e3 : (some (1 : Int)) = some ((1 : Nat) : Int) := rfl
    rw [e3, this]
    omega
  rw [e1, e2, List.length_take, List.length_drop]
  omega
theorem cut_le {ds : List PyData} {lo hi : Option Int} : (cutP ds lo hi).length ≤ ds.length := by
  unfold cutP
  rw [List.length_take, List.length_drop]
  omega
def odds1 : List PyData := [.tuple [.str "t", .bool true], .tuple [.str "t", .none], .tuple [.str "t", .str "1"], .tuple [.str "A", .int 1], .tuple [.str "t", .int (10 ^ (60 : Int).toNat)], .tuple [.str "t", .int 1, .int 1], .list [.str "t", .int 1], .tuple [.str "t"]]
def odds2 : List PyData := [.tuple [.str "", .int 0], .tuple [.str "ninechars", .int 0], .tuple [.none, .int 0], .tuple [.str "t", .int (0 - 10 ^ (60 : Int).toNat)], .none, .tuple [], .tuple [.str "t", .list [.int 1]], .tuple [.dict [], .int 1], .tuple [.int 1, .str "t"]]
theorem odds1_ok : odds1.all (fun x => fineD x && !spotD x) = true := by decide +kernel
theorem odds2_ok : odds2.all (fun x => fineD x && !spotD x) = true := by decide +kernel
theorem odds_fact {L : List PyData} (h : L.all (fun x => fineD x && !spotD x) = true) {x : PyData} (hx : x ∈ L) : fineD x = true ∧ spotD x = false := by
  have := List.all_eq_true.mp h x hx
  rw [Bool.and_eq_true] at this
  exact ⟨this.1, by simpa using this.2⟩
def someL (ds : List PyData) (d0 : PyData) : List PyData := [.none, .int 0, .tuple [], .list ds, .tuple (cutP ds none (some (-1))), .tuple (ds ++ cutP ds none (some 1)), .tuple (ds ++ [.none]), d0, .str "t", .dict []]
theorem some_bad {i : Int} {ns : List Int} (l2 : 1 ≤ ns.length) (l4 : ns.length ≤ 3) (h : ∀ j ∈ i :: ns, j.natAbs < 10 ^ 60) : ∀ d ∈ someL (spsD (i :: ns)) (spD i), BadS (i :: ns).length d := fun d hd => by
  have f := fine_sps h
  have sl : (spsD (i :: ns)).length = ns.length + 1 := by simp [spsD]
  have nl : (i :: ns).length = ns.length + 1 := rfl
  unfold someL at hd
  simp only [List.mem_cons, List.not_mem_nil, or_false] at hd
  rcases hd with rfl | rfl | rfl | rfl | rfl | rfl | rfl | rfl | rfl | rfl
  · exact ⟨by decide, by show 0 ≤ 600; decide, rfl⟩
  · exact ⟨by decide +kernel, by show 0 ≤ 600; decide, rfl⟩
  · exact bad_len (fun d hd => nomatch hd) (by show 0 ≤ 600; decide) (by rw [nl]; show 0 ≠ _; omega)
  · refine ⟨fine_lst f (by rw [sl]; omega) ?_, by show 0 ≤ 600; decide, rfl⟩
    show (isI (spD i) && _) = false
    rw [show isI (spD i) = false from rfl, Bool.false_and]
  · exact bad_len (fine_cut f) (by rw [cut_m1 (by omega)]; omega) (by rw [cut_m1 (by omega), sl, nl]; omega)
  · exact bad_len (fine_app f (fine_cut f)) (by rw [List.length_append, cut_1 (by omega)]; omega) (by rw [List.length_append, cut_1 (by omega), sl, nl]; omega)
  · exact bad_odd (fine_app f (fine_one (by decide))) (by rw [List.length_append, sl]; simp; omega) (List.mem_append.mpr (.inr (List.mem_cons_self ..))) rfl
  · exact ⟨fine_sp (h i (List.mem_cons_self ..)), by show 2 ≤ 600; decide, rfl⟩
  · exact ⟨by decide +kernel, by show 0 ≤ 600; decide, rfl⟩
  · exact ⟨by decide, by show 0 ≤ 600; decide, rfl⟩
/-- a list of such values that grows -/
structure Gr (H Hs : Hp) (l : Addr) (n m : Nat) (H' : Hp) : Prop where
  same : Same H H'
  ks : KeepS Hs H'
  ex : ∃ xs cur, H' l = some (.lst xs) ∧ DtAll H' xs cur ∧ (∀ x ∈ cur, BadS n x) ∧ 10 ≤ cur.length ∧ cur.length ≤ m
theorem Gr.grow {K : PySem.W.Frag} {H Hs H' : Hp} {l : Addr} {n m : Nat} {te : TE} {σ : L2.St} {d : PyData} {Q : VK} (g : Gr H Hs l n m H') (hm : m < 100) (nl : H l = none) (hi : σ[2]? = some (some (.ref l))) (y : Yd te σ H' d) (b : BadS n d) (k : ∀ H'', Gr H Hs l n (m + 1) H'' → Q .non H'') : tBM K "list" rAppend (tVar 2) (tCons te tNil) σ H' Q := by
  obtain ⟨xs, cur, e, al, bs, lo, hi'⟩ := g.ex
  refine ⟨.ref l, hi, .inl ⟨rfl, _, .inl (.inl e)⟩, y.at fun v H1 s1 kv => ?_⟩
  have ln := al.len
  have e1 := s1 _ _ e
  have kp : KeepS H1 (upd H1 l (.lst (xs ++ [v]))) := KeepS.put e1 (by omega)
  have nb : noBigs cur = true := by
    rw [noBigs_all]
    exact List.all_eq_true.mpr fun x hx => (fine_parts (bs x hx).1).2.2
  refine ⟨l, xs, v, rfl, rfl, e1, Nat.lt_of_le_of_lt (show xs.length ≤ 100 by omega) (by decide), k _ ⟨?_, (g.ks.trans (KeepS.of s1)).trans kp, xs ++ [v], cur ++ [d], upd_same, ?_, ?_, ?_, ?_⟩⟩
  · exact same_put nl (g.same.trans s1)
  · exact DtAll.app (DtAll.keepS kp _ _ nb (DtAll.same s1 _ _ al)) (.cons (Dt.keepS kp _ _ (fine_parts b.1).2.2 kv) .nil)
  · intro x hx
    rcases List.mem_append.mp hx with hx | hx
    · exact bs x hx
    · have : x = d := by simpa using hx
      rw [this]
      exact b
  · rw [List.length_append]
    omega
  · rw [List.length_append]
    show _ + 1 ≤ _
    omega
theorem Gr.move {H Hs H' H'' : Hp} {l : Addr} {n m : Nat} (g : Gr H Hs l n m H') (s : Same H' H'') : Gr H H'' l n m H'' := by
  obtain ⟨xs, cur, e, al, r⟩ := g.ex
  exact ⟨g.same.trans s, KeepS.of (Same.refl _), xs, cur, s _ _ e, DtAll.same s _ _ al, r⟩
/-- for over a tuple of such data -/
theorem tfor_at {K : PySem.W.Frag} {te : TE} {g : TG} {tb : TS} {D : Ends} {σ : L2.St} {H : Hp} {ds : List PyData} (G : Yd te σ H (.tuple ds)) (k : ∀ a xs H', Same H H' → H' a = some (.tup xs) → DtAll H' xs ds → ∃ W : Nat → Nat → L2.St → Hp → Prop, (∃ m, W 0 m σ H') ∧ ∀ i m σ H, W i m σ H →
  ((Itt K a).stop i H ∧ D.nx σ H) ∨ ((Itt K a).go i H ∧ ∃ N : L2.St → Hp → Prop, (∀ σ' H', N σ' H' → ∃ m', m' < m ∧ W (i + 1) m' σ' H') ∧ ∀ x H', (Itt K a).yld i H x H' → g x σ H' fun σ2 H2 => tb { D with nx := N, ct := N, bk := D.nx } σ2 H2)) : tFor (iTup K te) g tb D σ H :=
  G H _ (Same.refl _) fun v H' s kv => by
    obtain ⟨a, xs, rfl, e, al⟩ := dt_tup kv
    exact ⟨a, rfl, ⟨xs, .inl (.inl e)⟩, k a xs H' s e al⟩
def spBadSpots : Sp := fun vs H Q _ => ∃ (d : Addr) (s : V) (ns : List Int), vs = [.ref d, s] ∧ Dice H d ∧ Dt H s (.tuple (spsD ns)) ∧ 2 ≤ ns.length ∧ ns.length ≤ 4 ∧ (∀ i ∈ ns, i.natAbs < 10 ^ 60) ∧ ∀ v pd H', Past d H H' → BadS ns.length pd → Dt H' v pd → Q v H'
section
variable {P : Program} {w : World} {K : PySem.W.Frag} {mg : Str → Option Value} {base : Heap}
theorem ok_l_bad_spots (D : Df K mg "_law_bad_spots" s_l_bad_spots ["_law_dice_here", "_law_spots"]) (G_l_pick : Cg P w K mg base 2 "_law_pick" (spPick K)) (z_list : mg "list" = none) : Cg P w K mg base 3 "_law_bad_spots" spBadSpots := by
  refine D.ok sc_l_bad_spots (fun vs H Q E h => ?_) (fun cdv A outer s H vs Q E f hc hr h => ?_)
  · obtain ⟨d, s, ns, rfl, _⟩ := h
    rfl
  · obtain ⟨d, sv, ns, rfl, hd, ks, l2, l4, lo, q⟩ := h
    refine ⟨_, (pss_cons (ps_set (i := 2) sc_l_bad_spots.nd rfl (Or.inl rfl) (pe_lst (pa_cons pe_non (pa_cons pe_int (pa_cons (pe_tup pa_nil) (pa_cons (pe_callTy call_list_of (by rfl) z_list (by decide +kernel) (pa_cons (pv 1) pa_nil)) (pa_cons (pe_slice (sl_tupA : SlR _ (rSlA K)) (pv 1) po_none (po_some (pe_un un_neg pe_int))) (pa_cons (pe_op (op_catA : OpR _ _ (rCatA K)) (pv 1) (pe_slice (sl_tupA : SlR _ (rSlA K)) (pv 1) po_none (po_some pe_int))) (pa_cons (pe_op (op_catA : OpR _ _ (rCatA K)) (pv 1) (pe_tup (pa_cons pe_non pa_nil))) (pa_cons (pe_ix (ix_tup : IxR _ (rIxT K)) (pv 1) pe_int (fun _ _ => rfl)) (pa_cons pe_str (pa_cons pe_dnewK pa_nil))))))))))))
      (pss_cons (ps_for PassesOwn.never rfl (pi_tup (pe_tup (pa_cons (pe_tup (pa_cons pe_str (pa_cons pe_bl pa_nil))) (pa_cons (pe_tup (pa_cons pe_str (pa_cons pe_non pa_nil))) (pa_cons (pe_tup (pa_cons pe_str (pa_cons pe_str pa_nil))) (pa_cons (pe_tup (pa_cons pe_str (pa_cons pe_int pa_nil))) (pa_cons (pe_tup (pa_cons pe_str (pa_cons (pe_op op_powW pe_int pe_int) pa_nil))) (pa_cons (pe_tup (pa_cons pe_str (pa_cons pe_int (pa_cons pe_int pa_nil)))) (pa_cons (pe_lst (pa_cons pe_str (pa_cons pe_int pa_nil))) (pa_cons (pe_tup (pa_cons pe_str pa_nil)) pa_nil)))))))))) (pg_name (i := 3) sc_l_bad_spots.nd rfl (Or.inl rfl))
      (pss_one (ps_expr (pe_bm PySem.F.plainAttrs_list PySem.F.slot_list_append PySem.F.type_list_append mt_append (pv 2) (pa_cons (pe_op (op_catA : OpR _ _ (rCatA K)) (pe_tup (pa_cons (pv 3) pa_nil)) (pe_slice (sl_tupA : SlR _ (rSlA K)) (pv 1) (po_some pe_int) po_none)) pa_nil)))))
      (pss_cons (ps_for PassesOwn.never rfl (pi_tup (pe_tup (pa_cons (pe_tup (pa_cons pe_str (pa_cons pe_int pa_nil))) (pa_cons (pe_tup (pa_cons pe_str (pa_cons pe_int pa_nil))) (pa_cons (pe_tup (pa_cons pe_non (pa_cons pe_int pa_nil))) (pa_cons (pe_tup (pa_cons pe_str (pa_cons (pe_op op_sub pe_int (pe_op op_powW pe_int pe_int)) pa_nil))) (pa_cons pe_non (pa_cons (pe_tup pa_nil) (pa_cons (pe_tup (pa_cons pe_str (pa_cons (pe_lst (pa_cons pe_int pa_nil)) pa_nil))) (pa_cons (pe_tup (pa_cons pe_dnewK (pa_cons pe_int pa_nil))) (pa_cons (pe_tup (pa_cons pe_int (pa_cons pe_str pa_nil))) pa_nil))))))))))) (pg_name (i := 3) sc_l_bad_spots.nd rfl (Or.inl rfl))
      (pss_one (ps_expr (pe_bm PySem.F.plainAttrs_list PySem.F.slot_list_append PySem.F.type_list_append mt_append (pv 2) (pa_cons (pe_op (op_catA : OpR _ _ (rCatA K)) (pe_slice (sl_tupA : SlR _ (rSlA K)) (pv 1) po_none (po_some (pe_un un_neg pe_int))) (pe_tup (pa_cons (pv 3) pa_nil))) pa_nil)))))
      (pss_one (ps_ret (pe_cg G_l_pick hc hr (by rfl) (pa_cons (pv 0) (pa_cons (pv 2) pa_nil)))))))), ?_⟩
    match ns, l2, l4, lo, ks, q with
    | i :: ns, l2, l4, lo, ks, q =>
    have l2' : 1 ≤ ns.length := by simpa using l2
    have l4' : ns.length ≤ 3 := by simpa using l4
    have sl : (spsD (i :: ns)).length = ns.length + 1 := by simp [spsD]
    have fs := fine_sps lo
    have nbs := (fine_parts (fine_tup fs)).2.2
    have big : ∀ {n : Nat}, n ≤ 200 → n ≤ sizeLine := fun h => Nat.le_trans h (by decide)
    refine asg_ydN (ds := someL (spsD (i :: ns)) (spD i)) (yd_lst (yd_cons yd_non (yd_cons yd_int (yd_cons (yd_tup yd_nil (by decide)) (yd_cons (yd_listT (yd_var rfl ks)) (yd_cons (yd_sl (yd_var rfl ks) po_no po_neg) (yd_cons (yd_catA (yd_var rfl ks) (yd_sl (yd_var rfl ks) po_no po_i) (big (by have := cut_le (ds := spsD (i :: ns)) (lo := none) (hi := some 1); omega)))
      (yd_cons (yd_catA (yd_var rfl ks) (yd_tup (yd_cons yd_non yd_nil) (by decide)) (big (by show _ + 1 ≤ 200; omega))) (yd_cons (yd_ix0 (yd_var rfl ks)) (yd_cons yd_str (yd_cons yd_d0 yd_nil)))))))))) (by show 10 ≤ sizeLine; decide)) fun l Hb xs0 sb nl al0 => ?_
    have snl := same_new (o := .lst xs0) nl
    have nl0 : H l = none := by
      cases e : H l with
      | none => rfl
      | some o => have := sb _ _ e; rw [nl] at this; cases this
    have g0 : Gr H (upd Hb l (.lst xs0)) l (i :: ns).length 10 (upd Hb l (.lst xs0)) := ⟨sb.trans snl, KeepS.of (Same.refl _), xs0, _, upd_same, DtAll.same snl _ _ al0, some_bad l2' l4' lo, Nat.le_refl 10, Nat.le_refl 10⟩
    generalize upd Hb l (.lst xs0) = H1 at g0 ⊢
    refine tfor_at (ds := odds1) (yd_tup (yd_cons (yd_tup (yd_cons yd_str (yd_cons yd_bl yd_nil)) (by decide)) (yd_cons (yd_tup (yd_cons yd_str (yd_cons yd_non yd_nil)) (by decide)) (yd_cons (yd_tup (yd_cons yd_str (yd_cons yd_str yd_nil)) (by decide)) (yd_cons (yd_tup (yd_cons yd_str (yd_cons yd_int yd_nil)) (by decide)) (yd_cons (yd_tup (yd_cons yd_str (yd_cons (yd_pow ⟨by decide, by decide +kernel⟩) yd_nil)) (by decide))
      (yd_cons (yd_tup (yd_cons yd_str (yd_cons yd_int (yd_cons yd_int yd_nil))) (by decide)) (yd_cons (yd_lst (yd_cons yd_str (yd_cons yd_int yd_nil)) (by decide)).data (yd_cons (yd_tup (yd_cons yd_str yd_nil) (by decide)) yd_nil)))))))) (by decide)) fun a1 ys1 H2 s2 e2 al2 => ?_
    have spots : ∀ {H' : Hp}, Same H H' → Dt H' sv (.tuple (spsD (i :: ns))) := fun s => Dt.same s _ _ ks
    refine for_tup (K := K) (a := a1) (xs := ys1) (fun j σ H' => (∃ o3, σ = [some (.ref d), some sv, some (.ref l), o3]) ∧ Gr H H2 l (i :: ns).length (10 + j) H') ⟨⟨none, rfl⟩, g0.move s2⟩ (fun j σ H' _ h => .inl (.inl (h.2.ks.2.1 _ _ e2))) (fun j x σ H' hx h => ?_) (fun σ H3 h => ?_)
    · obtain ⟨⟨o3, rfl⟩, g⟩ := h
      obtain ⟨o, ho, ko⟩ := al2.get hx
      obtain ⟨fo, so⟩ := odds_fact odds1_ok (List.mem_of_getElem? ho)
      have ko' := Dt.keepS g.ks _ _ (fine_parts fo).2.2 ko
      have jl := (List.getElem?_eq_some_iff.mp ho).1
      have jl8 : j < 8 := jl
      exact Gr.grow (te := tOp (rCatA K) (tTup (tCons (tVar 3) tNil)) (tSl (rSlA K) (tVar 1) (tPart (tC (.int 1))) tNoPart)) (σ := [some (.ref d), some sv, some (.ref l), some x]) g (by omega) nl0 rfl (yd_catA (yd_tup (yd_cons (yd_var rfl ko') yd_nil) (by show 1 ≤ sizeLine; decide)) (yd_sl (yd_var rfl (spots g.same)) po_i po_no) (big (by have := cut_le (ds := spsD (i :: ns)) (lo := some 1) (hi := none); show 1 + _ ≤ 200; omega)))
        (bad_odd (fine_app (fine_one fo) (fine_cut fs)) (by have := cut_le (ds := spsD (i :: ns)) (lo := some 1) (hi := none); rw [List.length_append]; show 1 + _ ≤ 600; omega) (List.mem_append.mpr (.inl (List.mem_cons_self ..))) so) fun H'' g' => ⟨⟨_, rfl⟩, g'⟩
    · obtain ⟨⟨o3, rfl⟩, g⟩ := h
      have l1 : ys1.length = 8 := al2.len
      rw [l1] at g
      refine tfor_at (ds := odds2) (yd_tup (yd_cons (yd_tup (yd_cons yd_str (yd_cons yd_int yd_nil)) (by decide)) (yd_cons (yd_tup (yd_cons yd_str (yd_cons yd_int yd_nil)) (by decide)) (yd_cons (yd_tup (yd_cons yd_non (yd_cons yd_int yd_nil)) (by decide)) (yd_cons (yd_tup (yd_cons yd_str (yd_cons (yd_subpow ⟨by decide, by decide +kernel⟩) yd_nil)) (by decide)) (yd_cons yd_non (yd_cons (yd_tup yd_nil (by decide))
        (yd_cons (yd_tup (yd_cons yd_str (yd_cons (yd_lst (yd_cons yd_int yd_nil) (by decide)).data yd_nil)) (by decide)) (yd_cons (yd_tup (yd_cons yd_d0 (yd_cons yd_int yd_nil)) (by decide)) (yd_cons (yd_tup (yd_cons yd_int (yd_cons yd_str yd_nil)) (by decide)) yd_nil))))))))) (by decide)) fun a2 ys2 H4 s4 e4 al4 => ?_
      refine for_tup (K := K) (a := a2) (xs := ys2) (fun j σ H' => (∃ o3, σ = [some (.ref d), some sv, some (.ref l), o3]) ∧ Gr H H4 l (i :: ns).length (18 + j) H') ⟨⟨o3, rfl⟩, g.move s4⟩ (fun j σ H' _ h => .inl (.inl (h.2.ks.2.1 _ _ e4))) (fun j x σ H' hx h => ?_) (fun σ H5 h => ?_)
      · obtain ⟨⟨o3, rfl⟩, g⟩ := h
        obtain ⟨o, ho, ko⟩ := al4.get hx
        obtain ⟨fo, so⟩ := odds_fact odds2_ok (List.mem_of_getElem? ho)
        have ko' := Dt.keepS g.ks _ _ (fine_parts fo).2.2 ko
        have jl := (List.getElem?_eq_some_iff.mp ho).1
        have jl8 : j < 9 := jl
        exact Gr.grow (te := tOp (rCatA K) (tSl (rSlA K) (tVar 1) tNoPart (tPart (tUn (rU fun i => .int (-i)) (tC (.int 1))))) (tTup (tCons (tVar 3) tNil))) (σ := [some (.ref d), some sv, some (.ref l), some x]) g (by omega) nl0 rfl (yd_catA (yd_sl (yd_var rfl (spots g.same)) po_no po_neg) (yd_tup (yd_cons (yd_var rfl ko') yd_nil) (by show 1 ≤ sizeLine; decide)) (big (by have := cut_le (ds := spsD (i :: ns)) (lo := none) (hi := some (-1)); show _ + 1 ≤ 200; omega)))
          (bad_odd (fine_app (fine_cut fs) (fine_one fo)) (by have := cut_le (ds := spsD (i :: ns)) (lo := none) (hi := some (-1)); rw [List.length_append]; show _ + 1 ≤ 600; omega) (List.mem_append.mpr (.inr (List.mem_cons_self ..))) so) fun H'' g' => ⟨⟨_, rfl⟩, g'⟩
      · obtain ⟨⟨o3, rfl⟩, g⟩ := h
        have l1 : ys2.length = 9 := al4.len
        rw [l1] at g
        obtain ⟨xs, cur, e, al, bs, lo10, hi27⟩ := g.ex
        have pt := Past.same hd g.same
        have ln := al.len
        refine ⟨_, rfl, _, rfl, d, .ref l, (fun v => ∃ x, BadS (i :: ns).length x ∧ Dt H5 v x), rfl, pt.dice, .inl ⟨l, xs, rfl, hd.ne nl0, .inl (.inl (.inl e)), fun z => ?_, by omega, fun v hv => ?_⟩, fun v H' p' hv => ?_⟩
        · rw [z] at ln
          simp at ln
          omega
        · obtain ⟨j, hj⟩ := List.mem_iff_getElem?.mp hv
          obtain ⟨x, hx, k⟩ := al.get hj
          exact ⟨x, bs x (List.mem_of_getElem? hx), k⟩
        · obtain ⟨x, b, k⟩ := hv
          exact q v x H' (pt.trans p') b (Dt.keep (keeps_keep (Keep.past pt.dice p')) _ _ (fine_parts b.1).2.1 k)
end
end K12
set_option Elab.async false
set_option linter.all false
set_option autoImplicit false
set_option maxRecDepth 100000
set_option maxHeartbeats 4000000
/-! Ms: a text times a number. -/
namespace Ms
open PySem PySem.Spec PyProof.Rows L2
def mulS (z : Str) (n : Int) : Str := if n < 1 then Str.empty else if (n == 1 || z.length == 0) = true then z else ⟨(List.replicate n.toNat z.cps).foldl (· ++ ·) #[]⟩
def rMulS : R2 := fun x y H Q => ∃ (z : Str) (n : Int), x = .str z ∧ y = .int n ∧ 0 ≤ n ∧ n ≤ 1000 ∧ z.length ≤ 1000 ∧ Q (.str (mulS z n)) H
theorem size_foldl {α : Type} (a : Array α) : ∀ (k : Nat) (b : Array α), (List.foldl (fun x1 x2 => x1 ++ x2) b (List.replicate k a)).size = b.size + k * a.size
  | 0, b => by simp
  | k + 1, b => by
    rw [List.replicate_succ, List.foldl_cons, size_foldl a k (b ++ a), Array.size_append, Nat.succ_mul]
    omega
section
variable {X : Cx}
theorem op_mulS : OpR X (binaryOp .Mult) rMulS := by
  intro pins s σ H x y v u Q I rx ry h
  obtain ⟨z, n, rfl, rfl, n0, n1, lz, q⟩ := h
  obtain ⟨t, rfl⟩ := rx
  obtain ⟨t', rfl⟩ := ry
  have n63 : (decide (n < -(2 ^ 63 : Int)) || decide (n ≥ 2 ^ 63)) = false := by
    rw [decide_eq_false (by omega), decide_eq_false (by omega)]
    rfl
  refine PySem.P.mul_str n63 (fun a b => ?_) (fun a b => ?_) ?_
  · have h1 : (1000 : Int) ≤ (2 ^ 63 - 1) / n := Int.le_ediv_of_mul_le (by omega) (by omega)
    omega
  · have h2 : z.length * n.toNat ≤ 1000 * 1000 := Nat.mul_le_mul lz (by omega)
    have h3 : 1000 * 1000 ≤ sizeLine := by decide
    exact decide_eq_false (by omega)
  · unfold mulS at q
    split
    · rename_i c
      rw [if_pos c] at q
      exact ⟨by decide, .str Str.empty, H, I.tok _, ⟨_, rfl⟩, q⟩
    · rename_i c
      rw [if_neg c] at q
      split
      · rename_i c2
        rw [if_pos c2] at q
        exact ⟨.str z, H, I, ⟨_, rfl⟩, q⟩
      · rename_i c2
        rw [if_neg c2] at q
        refine ⟨?_, .str _, H, I.tok _, ⟨_, rfl⟩, q⟩
        show (List.foldl (fun x1 x2 => x1 ++ x2) #[] (List.replicate n.toNat z.cps)).size ≤ sizeLine
        have h2 : n.toNat * z.cps.size ≤ 1000 * 1000 := Nat.mul_le_mul (by omega) lz
        have h3 : 1000 * 1000 ≤ sizeLine := by decide
        rw [size_foldl z.cps n.toNat #[]]
        show 0 + n.toNat * z.cps.size ≤ sizeLine
        omega
end
end Ms
set_option Elab.async false
set_option linter.all false
set_option autoImplicit false
set_option maxRecDepth 100000
set_option maxHeartbeats 8000000
namespace K12
open PySem PySem.Spec PyProof.Rows L2 Vb Wd SX Pc Ms
/-! ### the pictures that are asked -/
def goodP (n : List Nat) (m : Nat) : Pic := .node n (List.replicate m .hole)
def zzP : Pic := .node [122, 122] [.hole, .hole]
def zzIn (n : List Nat) (m : Nat) : Pic := .node n (zzP :: List.replicate (m - 1) .hole)
theorem zz_ok : zzP.Ok := ok_mk ⟨by decide, by decide, by decide⟩ (by decide) (by decide) fun p hp => by
  simp at hp
  rw [hp]
  exact trivial
theorem rep_ok {m : Nat} : ∀ p ∈ List.replicate m Pic.hole, p.Ok := fun p hp => by
  rw [(List.mem_replicate.mp hp).2]
  exact trivial
theorem good_ok {n : List Nat} {m : Nat} (w : word n) (h2 : 2 ≤ m) (h4 : m ≤ 4) : (goodP n m).Ok := ok_mk w (by simpa using h2) (by simpa using h4) rep_ok
theorem zzIn_ok {n : List Nat} {m : Nat} (w : word n) (h2 : 2 ≤ m) (h4 : m ≤ 4) : (zzIn n m).Ok := ok_mk w (by simp; omega) (by simp; omega) fun p hp => by
  rcases List.mem_cons.mp hp with rfl | hp
  · exact zz_ok
  · exact rep_ok p hp
theorem lev_rep : ∀ m : Nat, levL (List.replicate m .hole) = 0
  | 0 => rfl
  | m + 1 => by
    rw [List.replicate_succ]
    show max 0 (levL _) = 0
    rw [lev_rep m]
    rfl
theorem good_lev {n : List Nat} {m : Nat} : (goodP n m).lev = 1 := by
  show 1 + levL (List.replicate m .hole) = 1
  rw [lev_rep]
theorem zzIn_lev {n : List Nat} {m : Nat} : (zzIn n m).lev = 2 := by
  show 1 + max 1 (levL (List.replicate (m - 1) .hole)) = 2
  rw [lev_rep]
  rfl
theorem holes_rep : ∀ m : Nat, holesL (List.replicate m .hole) = m
  | 0 => rfl
  | m + 1 => by
    rw [List.replicate_succ]
    show 1 + holesL _ = m + 1
    rw [holes_rep m]
    omega
theorem good_holes {n : List Nat} {m : Nat} : (goodP n m).holes = m := holes_rep m
/-- the rest of a text behind its name -/
theorem goodL {ds : List FD} : ∀ (m : Nat) (cs : List (Str × Int)), soundL ds (List.replicate m .hole) cs = true
  | 0, _ => by simp [soundL]
  | m + 1, [] => by rw [List.replicate_succ]; rfl
  | m + 1, c :: cs => by
    rw [List.replicate_succ]
    show (true && soundL ds (List.replicate m .hole) cs) = true
    rw [goodL m cs]
    rfl
theorem sound_good {ds : List FD} {n : List Nat} {m : Nat} {d : FD} (ef : formOf ds n = some d) : sound ds (goodP n m) = decide (d.2.2.length = m) := by
  unfold goodP
  rw [sound_node ef, goodL, Bool.and_true, formed_yes ef, List.length_replicate]
theorem sound_zz {ds : List FD} (ef : formOf ds [122, 122] = none) : sound ds zzP = false := by
  show (formed ds zzP && _) = false
  rw [show formed ds zzP = false from formed_no ef, Bool.false_and]
theorem sound_zzIn {ds : List FD} {n : List Nat} {m : Nat} {d : FD} (ef : formOf ds n = some d) (zf : formOf ds [122, 122] = none) (l : 1 ≤ d.2.2.length) : sound ds (zzIn n m) = false := by
  unfold zzIn
  rw [sound_node ef]
  match d.2.2, l with
  | c :: cs, _ =>
    show (_ && ((isHole zzP || (sound ds zzP && _)) && _)) = false
    rw [sound_zz zf]
    simp [isHole, zzP]
theorem dots (m : Nat) (h2 : 2 ≤ m) (h4 : m ≤ 4) : m = 2 ∨ m = 3 ∨ m = 4 := by omega
theorem cs_ne {n : List Nat} (w : word n) {m : Nat} (h2 : 2 ≤ m) : ([46] : List Nat) ≠ (goodP n m).cs := fun z => by
  have e : (goodP n m).cs = n ++ 40 :: (csJ (List.replicate m .hole) ++ [41]) := rfl
  rw [e] at z
  have := congrArg List.length z
  simp only [List.length_append, List.length_cons, List.length_nil] at this
  have := w.1
  omega
/-- names end at the first bracket -/
theorem name_of {n n' r r' : List Nat} (w : word n) (w' : word n') (e : n ++ 40 :: r = n' ++ 40 :: r') : n = n' ∧ r = r' := by
  have h : ∀ {n r : List Nat}, word n → TL.par [40] [] (n ++ 40 :: r) = some (n, r) := fun {n r} w => par_head (c := 40) (sep := []) (p := n) r fun h => by
    have := w.2.2 40 h
    omega
  have h1 := h (r := r) w
  rw [e, h (r := r') w'] at h1
  have := Option.some.inj h1
  injection this with a b
  exact ⟨a.symm, b.symm⟩
theorem zz_ne {n : List Nat} (w : word n) (nz : n ≠ [122, 122]) {m : Nat} : zzP.cs ≠ (goodP n m).cs := fun z => by
  have z' : [122, 122] ++ 40 :: [46, 32, 46, 41] = n ++ 40 :: (csJ (List.replicate m .hole) ++ [41]) := z
  exact nz (name_of ⟨by decide, by decide, by decide⟩ w z').1.symm
theorem zzIn_ne {n : List Nat} (w : word n) {m k : Nat} (h : 1 ≤ k) : (zzIn n m).cs ≠ (goodP n k).cs := fun z => by
  have z' : n ++ 40 :: (csJ (zzP :: List.replicate (m - 1) .hole) ++ [41]) = n ++ 40 :: (csJ (List.replicate k .hole) ++ [41]) := z
  have := (name_of w w z').2
  match k, h with
  | k + 1, _ =>
    rw [List.replicate_succ] at this
    have h0 : (csJ (zzP :: List.replicate (m - 1) .hole) ++ [41]).head? = some 122 := rfl
    have h1 : (csJ (Pic.hole :: List.replicate k .hole) ++ [41]).head? = some 46 := rfl
    rw [this, h1] at h0
    cases h0
theorem good_eq {n : List Nat} (w : word n) {m k : Nat} (h2 : 2 ≤ m) (h4 : m ≤ 4) (k2 : 2 ≤ k) (k4 : k ≤ 4) : (goodP n m).cs = (goodP n k).cs ↔ m = k := by
  constructor
  · intro z
    have z' : n ++ 40 :: (csJ (List.replicate m .hole) ++ [41]) = n ++ 40 :: (csJ (List.replicate k .hole) ++ [41]) := z
    have := congrArg List.length (name_of w w z').2
    rcases dots m h2 h4 with rfl | rfl | rfl <;> rcases dots k k2 k4 with rfl | rfl | rfl <;> first | rfl | exact absurd this (by decide)
  · rintro rfl
    rfl
/-- what is due of a wrong picture beside the good one -/
def WrongP (ds : List FD) (g p : Pic) : Prop := p.Ok ∧ p.lev < 3 ∧ ((p.cs = g.cs ∧ sound ds p = true) ∨ (p.cs ≠ g.cs ∧ sound ds p = false))
theorem wrongs {ds : List FD} {n : List Nat} {m : Nat} {d : FD} (w : word n) (h2 : 2 ≤ m) (h4 : m ≤ 4) (ef : formOf ds n = some d) (dl : d.2.2.length = m) (zf : formOf ds [122, 122] = none) : ∀ p ∈ [Pic.hole, zzP, zzIn n m, goodP n (6 - m)], WrongP ds (goodP n m) p := fun p hp => by
  have nz : n ≠ [122, 122] := fun z => by
    rw [z, zf] at ef
    cases ef
  simp only [List.mem_cons, List.not_mem_nil, or_false] at hp
  rcases hp with rfl | rfl | rfl | rfl
  · exact ⟨trivial, by show 0 < 3; decide, .inr ⟨cs_ne w h2, rfl⟩⟩
  · exact ⟨zz_ok, by show 1 < 3; decide, .inr ⟨zz_ne w nz, sound_zz zf⟩⟩
  · exact ⟨zzIn_ok w h2 h4, by rw [zzIn_lev]; decide, .inr ⟨zzIn_ne w (by omega), sound_zzIn ef zf (by omega)⟩⟩
  · refine ⟨good_ok w (by omega) (by omega), by rw [good_lev]; decide, ?_⟩
    have e := good_eq w (m := 6 - m) (k := m) (by omega) (by omega) h2 h4
    have s := sound_good (m := 6 - m) ef
    by_cases h : 6 - m = m
    · exact .inl ⟨e.mpr h, by rw [s, dl, decide_eq_true h.symm]⟩
    · exact .inr ⟨fun z => h (e.mp z), by rw [s, dl, decide_eq_false fun z => h z.symm]⟩
/-! ### their texts -/
theorem good_text {n : List Nat} {m : Nat} (h2 : 2 ≤ m) (h4 : m ≤ 4) : ((S n ++ ("(" : Str)) ++ Txt.join (" " : Str) (List.replicate m ("." : Str))) ++ (")" : Str) = S (goodP n m).cs := by
  have e : ∀ j : List Nat, Txt.join (" " : Str) (List.replicate m ("." : Str)) = S j → csJ (List.replicate m .hole) = j → ((S n ++ ("(" : Str)) ++ Txt.join (" " : Str) (List.replicate m ("." : Str))) ++ (")" : Str) = S (goodP n m).cs := fun j h1 h2 => by
    rw [h1, open_S, close_S, S_cat, S_cat, S_cat]
    show _ = S (n ++ 40 :: (csJ (List.replicate m .hole) ++ [41]))
    rw [h2]
    simp
  rcases dots m h2 h4 with rfl | rfl | rfl
  · exact e [46, 32, 46] (by decide +kernel) rfl
  · exact e [46, 32, 46, 32, 46] (by decide +kernel) rfl
  · exact e [46, 32, 46, 32, 46, 32, 46] (by decide +kernel) rfl
theorem zzIn_text {n : List Nat} {m : Nat} (h2 : 2 ≤ m) (h4 : m ≤ 4) : ((S n ++ ("(zz(. .)" : Str)) ++ mulS (" ." : Str) ((m : Int) - 1)) ++ (")" : Str) = S (zzIn n m).cs := by
  have e : ∀ j : List Nat, mulS (" ." : Str) ((m : Int) - 1) = S j → csT (List.replicate (m - 1) .hole) = j → ((S n ++ ("(zz(. .)" : Str)) ++ mulS (" ." : Str) ((m : Int) - 1)) ++ (")" : Str) = S (zzIn n m).cs := fun j h1 h2 => by
    rw [h1, show ("(zz(. .)" : Str) = S [40, 122, 122, 40, 46, 32, 46, 41] from by decide +kernel, close_S, S_cat, S_cat, S_cat]
    show _ = S (n ++ 40 :: (([122, 122, 40, 46, 32, 46, 41] ++ csT (List.replicate (m - 1) .hole)) ++ [41]))
    rw [h2]
    simp
  rcases dots m h2 h4 with rfl | rfl | rfl
  · exact e [32, 46] (by decide +kernel) rfl
  · exact e [32, 46, 32, 46] (by decide +kernel) rfl
  · exact e [32, 46, 32, 46, 32, 46] (by decide +kernel) rfl
theorem more_text {n : List Nat} {m : Nat} (h2 : 2 ≤ m) (h4 : m ≤ 4) : ((S n ++ ("(" : Str)) ++ mulS (". " : Str) (5 - (m : Int))) ++ (".)" : Str) = S (goodP n (6 - m)).cs := by
  have e : ∀ j : List Nat, mulS (". " : Str) (5 - (m : Int)) = S j → csJ (List.replicate (6 - m) .hole) = j ++ [46] → ((S n ++ ("(" : Str)) ++ mulS (". " : Str) (5 - (m : Int))) ++ (".)" : Str) = S (goodP n (6 - m)).cs := fun j h1 h2 => by
    rw [h1, open_S, show (".)" : Str) = S [46, 41] from by decide +kernel, S_cat, S_cat, S_cat]
    show _ = S (n ++ 40 :: (csJ (List.replicate (6 - m) .hole) ++ [41]))
    rw [h2]
    simp
  rcases dots m h2 h4 with rfl | rfl | rfl
  · exact e [46, 32, 46, 32, 46, 32] (by decide +kernel) rfl
  · exact e [46, 32, 46, 32] (by decide +kernel) rfl
  · exact e [46, 32] (by decide +kernel) rfl
theorem hole_text : ("." : Str) = S Pic.hole.cs := by decide +kernel
theorem zz_text : ("zz(. .)" : Str) = S zzP.cs := by decide +kernel
end K12
set_option Elab.async false
set_option linter.all false
set_option autoImplicit false
set_option maxRecDepth 100000
set_option maxHeartbeats 4000000
/-! Oy: tuple * 1, the tuple itself; and * n of any n from 1. -/
namespace Oy
open PySem PySem.Spec PyProof.Rows L2
open AutoSeq1 (wpAny_loadPart')
theorem tuple_mul1 (l : Addr) (items : Array Value) (n : Nat) (dd : Option Addr) (sl : Array (Option Value)) (u : Tok) :
    Meets (Builtin.«tuple.__mul__» ⟨[.ref l, .int 1 u], []⟩) (fun _ R s => s.heap.get? l = some { cls := .type "tuple", dict := dd, data := .seq items n, slots := sl } ∧
      R (.ok (.ret (Value.ref l))) s) :=
  .of_wp fun prog w A R s h => by
    obtain ⟨hp, g, d, tk, os⟩ := s
    obtain ⟨hl, h⟩ := h
    have f1 := AutoSeq1.idx_int
    have c1 : (items.isEmpty || (1 : Int) == 1) = true := by simp
    wp_walk using wpAny_loadPart' hl
    exact ⟨_, rfl, h⟩
/-- t * k, k from 1 on -/
def rRep1 (K : PySem.W.Frag) : R2 := fun x y H Q => ∃ l k xs, x = .ref l ∧ y = .int k ∧ SqT K H l xs ∧ xs ≠ [] ∧ 1 ≤ k ∧ k ≤ 1000 ∧ xs.length ≤ 1000 ∧ (k = 1 → Q (.ref l) H) ∧ (2 ≤ k → ∀ p, H p = none → Q (.ref p) (upd H p (.tup (List.replicate k.toNat xs).flatten)))
theorem op_rep1 {X : Cx} : OpR X (binaryOp .Mult) (rRep1 X.K) := by
  intro pins s σ H x y v u Q I rx ry h
  obtain ⟨l, k, xs, rfl, rfl, hT, hne, h1, h2, hz, q1, q2⟩ := h
  by_cases e : k = 1
  · subst e
    cases rx
    obtain ⟨t, rfl⟩ := ry
    obtain ⟨its, r, ⟨⟨cls, dd, data, sl⟩, ho, hc, n, hd⟩, hs⟩ := I.tuple hT
    simp only at hc hd
    subst hc hd
    exact wpAny_binaryOp_repeat_ref (T := "tuple") (U := "int") (by decide) ⟨_, ho, rfl⟩ (fun s' => typeIs_int s' 1 t) noFill_tuple_mul F.fills_int_mul F.slot_int_rmul repeat_tuple F.slot_int_index.lookup
      (call_meets F.slot_int_rmul (typeIs_int s 1 t) F.entry_int_rmul (F.args_int_rmul_2 _ _) (int_rmul_tuple 1 t l its.toArray n dd sl)
        ⟨ho, rfl, ⟨_, ho, rfl⟩, call_meets F.slot_tuple_mul ⟨_, ho, rfl⟩ F.entry_tuple_mul (F.args_tuple_mul_2 _ _) (tuple_mul1 l its.toArray n dd sl t) ⟨ho, ⟨.ref l, H, I, rfl, q1 rfl⟩⟩⟩)
  · exact op_repT pins s σ H _ _ v u Q I rx ry ⟨l, k, xs, rfl, rfl, hT, hne, by omega, h2, hz, q2 (by omega)⟩
end Oy
set_option Elab.async false
set_option linter.all false
set_option autoImplicit false
set_option maxRecDepth 100000
set_option maxHeartbeats 8000000
namespace K12
open PySem PySem.Spec PyProof.Rows L2 Vb Wd Xd Xe Xl Xu Xg Xo Xv Xq LamX Oe Of Og Oh Ow SX Pc Ms Oy
abbrev s_P_eq : Stmt := inB (topS 34) 14
theorem sc_P_eq : FnScope ["self", "other"] ["self", "other"] (defScope s_P_eq) := ⟨rfl, rfl, rfl, by decide +kernel, rfl, by decide +kernel, by decide +kernel⟩
/-- two pictures are equal if their texts are -/
def spEqP (CP : Addr) : Sp := fun vs H Q _ => ∃ (u v : V) (p q : Pic), vs = [u, v] ∧ PicAt H CP p u ∧ PicAt H CP q v ∧ Q (.bl (decide (p.cs = q.cs))) H
theorem eqS_dec {a b : List Nat} : decide (V.str (S a) = V.str (S b)) = decide (a = b) := decide_eq_decide.mpr ⟨fun z => S_inj (V.str.inj z), fun z => by rw [z]⟩
section
variable {P : Program} {w : World} {K : PySem.W.Frag} {mg : Str → Option Value} {base : Heap} {CP : Addr}
theorem ok_P_eq {f : Addr} {fd : FuncData} (F : Fun K "__eq__" "Picture.__eq__" s_P_eq f fd) (VQ : EnvQ P w K mg base CP) (TIP : FormI K CP) (z_isinstance : mg "isinstance" = none) : FnG P w K mg base 3 f fd ["self", "other"] (spEqP CP) := by
  obtain ⟨p1, g1, fd1, o1, G1, b1⟩ := VQ.TP.get ("text", "_text") (by simp)
  refine goes_by F sc_P_eq (fun vs H Q E h => ?_) (fun cdv A outer s H vs Q E hc hr h => ?_)
  · obtain ⟨u, v, p, q, rfl, _⟩ := h
    rfl
  · obtain ⟨u, v, p, q, rfl, PA, PB, k⟩ := h
    refine ⟨_, (pss_one (ps_ret (pe_and (pe_callB call_isi (by rfl) z_isinstance (by decide +kernel) (pa_cons (pv 1) (pa_cons (pe_glob (v := .ref CP) (by rfl) VQ.g rfl) pa_nil))) (pe_one (pe_cmpR op_eq (pe_propG (n := "text") (pv 0) VQ.T.c o1 G1 hc (hr.mono (by decide)) b1) (pe_propG (n := "text") (pv 1) VQ.T.c o1 G1 hc (hr.mono (by decide)) b1) (nomark _)))))), ?_⟩
    obtain ⟨x, dx, pt, nt, ws, rfl, h1, h2, h3, h4⟩ := PA.ex
    obtain ⟨y, dy, pt', nt', ws', rfl, k1, k2, k3, k4⟩ := PB.ex
    refine ⟨_, rfl, _, _, _, _, true, rfl, .own CP, .base (.ins k1 VQ.T.c TIP.ca TIP.sp TIP.tk TIP.mo), TIP.yes, _, rfl, iteT ?_⟩
    refine ⟨_, rfl, x, dx, _, rfl, h1, x, dx, _, .str (S p.cs), rfl, h1, by rfl, _, rfl, y, dy, _, rfl, k1, y, dy, _, .str (S q.cs), rfl, k1, by rfl, rfl, ?_⟩
    rw [eqS_dec]
    exact k
end
/-! ### values of which a property is known -/
def Yp (p : Hp → V → Prop) (t : TE) (σ : L2.St) (H : Hp) : Prop := ∀ H1 Q, Same H H1 → (∀ v H', Same H1 H' → p H' v → Q v H') → t σ H1 Q
def YpA (p : Hp → V → Prop) (n : Nat) (t : TA) (σ : L2.St) (H : Hp) : Prop := ∀ H1 Q, Same H H1 → (∀ vs H', Same H1 H' → vs.length = n → (∀ v ∈ vs, p H' v) → Q vs H') → t σ H1 Q
section
variable {p : Hp → V → Prop} {σ : L2.St} {H : Hp}
theorem yp_nil : YpA p 0 tNil σ H := fun H1 Q s k => k [] H1 (Same.refl _) rfl fun _ h => nomatch h
theorem yp_cons {t : TE} {ts : TA} {n : Nat} (st : ∀ {H H' : Hp} {v : V}, Keep H H' → p H v → p H' v) (a : Yp p t σ H) (b : YpA p n ts σ H) : YpA p (n + 1) (tCons t ts) σ H := fun H1 Q s k =>
  a H1 _ s fun v H2 s2 h2 => b H2 _ (s.trans s2) fun vs H3 s3 l h3 => k (v :: vs) H3 (s2.trans s3) (by rw [List.length_cons, l]) fun x hx => by
    rcases List.mem_cons.mp hx with rfl | hx
    · exact st (Keep.same s3) h2
    · exact h3 x hx
theorem Yp.of {t : TE} {d : PyData} (g : Yd t σ H d) (h : ∀ {H' : Hp} {v : V}, Dt H' v d → p H' v) : Yp p t σ H := fun H1 Q s k => g H1 _ s fun v H' s' kd => k v H' s' (h kd)
theorem yp_lst {n : Nat} {ta : TA} {Q : VK} (g : YpA p n ta σ H) (few : n ≤ 100) (k : ∀ vs H1 l, Same H H1 → vs.length = n → (∀ v ∈ vs, p H1 v) → H1 l = none → Q (.ref l) (upd H1 l (.lst vs))) : tLst ta σ H Q :=
  g H _ (Same.refl _) fun vs H1 s1 l hv => ⟨by rw [l]; exact Nat.le_trans few (by decide), fun x nx => k vs H1 x s1 l hv nx⟩
/-- one of the items of a list that is tracked -/
theorem pick_at {K : PySem.W.Frag} {d l : Addr} {xs : List V} {σ : L2.St} {H : Hp} {Q : VK} {i : Nat} (st : ∀ {H H' : Hp} {v : V}, Keep H H' → p H v → p H' v) (h0 : σ[0]? = some (some (.ref d))) (hi : σ[i]? = some (some (.ref l))) (hd : Dice H d) (ld : l ≠ d) (e : H l = some (.lst xs)) (ne : 0 < xs.length) (few : xs.length ≤ 100)
    (hp : ∀ v ∈ xs, p H v) (q : ∀ v H', Past d H H' → p H' v → Q v H') : tCall (spPick K) [] E0 (tCons (tVar 0) (tCons (tVar i) tNil)) σ H Q :=
  ⟨.ref d, h0, .ref l, hi, d, .ref l, (fun v => p H v), rfl, hd, .inl ⟨l, xs, rfl, ld, .inl (.inl (.inl e)), (fun z => by rw [z] at ne; cases ne), by omega, hp⟩, fun v H' pt hv => q v H' pt (st (Keep.past hd pt) hv)⟩
/-- one of the items of a list that is written out -/
theorem pick_yp {K : PySem.W.Frag} {d : Addr} {t : TA} {n : Nat} {σ : L2.St} {H : Hp} {Q : VK} (st : ∀ {H H' : Hp} {v : V}, Keep H H' → p H v → p H' v) (h0 : σ[0]? = some (some (.ref d))) (hd : Dice H d) (g : YpA p n t σ H) (ne : 0 < n) (few : n ≤ 100)
    (q : ∀ v H', Past d H H' → p H' v → Q v H') : tCall (spPick K) [] E0 (tCons (tVar 0) (tCons (tLst t) tNil)) σ H Q := by
  refine ⟨.ref d, h0, g H _ (Same.refl _) fun vs H1 s1 l hv => ⟨by rw [l]; exact Nat.le_trans few (by decide), fun x nx => ?_⟩⟩
  have sx := same_new (o := .lst vs) nx
  have hd1 := (Past.same hd s1).dice
  have pt := Past.same hd (s1.trans sx)
  refine ⟨d, .ref x, (fun v => p (upd H1 x (.lst vs)) v), rfl, pt.dice, .inl ⟨x, vs, rfl, hd1.ne nx, .inl (.inl (.inl upd_same)), (fun z => by rw [z] at l; simp at l; omega), by omega, fun v hm => st (Keep.same sx) (hv v hm)⟩, fun v H' p' hv => q v H' (pt.trans p') (st (Keep.past pt.dice p') hv)⟩
end
end K12
set_option Elab.async false
set_option linter.all false
set_option autoImplicit false
set_option maxRecDepth 100000
set_option maxHeartbeats 8000000
namespace K12
open PySem PySem.Spec PyProof.Rows L2 Vb Wd Xd Xe Xl Xu Xg Xo Xv Xq LamX Oe Of Og Oh Ow SX Pc Ms Oy Zt
theorem go_keep {T : List (Addr × Str)} {d : Addr} {H H' : Hp} (hd : Dice H d) (g : Go T d H H') : Keep H H' := fun b o n t h => g.keep b o (ne_dice hd h n) t h
theorem eqv_strsL (ys ys' : List Str) : PyData.eqv (.list (ys.map PyData.str)) (.list (ys'.map PyData.str)) = decide (ys = ys') := by
  have h := eqv_strs2 ys ys'
  have e1 : PyData.eqv (.tuple (ys.map PyData.str)) (.tuple (ys'.map PyData.str)) = PyData.eqvAll (ys.map PyData.str) (ys'.map PyData.str) := by simp [PyData.eqv]
  have e2 : PyData.eqv (.list (ys.map PyData.str)) (.list (ys'.map PyData.str)) = PyData.eqvAll (ys.map PyData.str) (ys'.map PyData.str) := by simp [PyData.eqv]
  rw [e2, ← e1, h]
/-- a list of words -/
def YdW (te : TE) (σ : L2.St) (H : Hp) (ws : List Str) : Prop := ∀ H1 Q, ExtN H H1 → (∀ p H2, Same H1 H2 → H2 p = some (.lst (ws.map V.str)) → Q (.ref p) H2) → te σ H1 Q
theorem ydw_var {i : Nat} {l : Addr} {σ : L2.St} {H : Hp} {ws : List Str} (h : σ[i]? = some (some (.ref l))) (e : H l = some (.lst (ws.map V.str))) : YdW (tVar i) σ H ws := fun H1 Q x k => ⟨_, h, k l H1 (Same.refl _) (x _ _ e fun _ z => nomatch z)⟩
theorem ydw_3 {a b c : Str} {σ : L2.St} {H : Hp} : YdW (tLst (tCons (tC (.str a)) (tCons (tC (.str b)) (tCons (tC (.str c)) tNil)))) σ H [a, b, c] := fun H1 Q x k => ⟨by show 3 ≤ sizeLine; decide, fun p np => k p _ (same_new np) upd_same⟩
theorem ydw_rep {a : Str} {σ : L2.St} {H : Hp} : YdW (tOp rRep (tLst (tCons (tC (.str a)) tNil)) (tC (.int 3))) σ H [a, a, a] := fun H1 Q x k => ⟨by show 1 ≤ sizeLine; decide, fun l nl => ⟨l, 3, _, rfl, rfl, upd_same, by decide, by decide, by show 1 * 3 ≤ sizeLine; decide, fun p np => k p _ ((same_new nl).trans (same_new np)) upd_same⟩⟩
theorem ask_words {K : PySem.W.Frag} {C CS CP : Addr} {H : Hp} {u v s : V} {z1 z2 z3 : Str} (A : Ask K C CS CP H u v s z1 z2 z3) : ∀ y ∈ [z1, z2, z3], Asc y := by
  have w : ∀ z ∈ [("scheme" : Str), "fine", "picture", "operation"], Asc z := by
    intro z hz c hc
    have : [("scheme" : Str), "fine", "picture", "operation"].all (fun y => y.cps.toList.all (fun c => decide (c < 128))) = true := by decide +kernel
    exact of_decide_eq_true (List.all_eq_true.mp (List.all_eq_true.mp this z hz) c hc)
  intro y hy
  cases A with
  | no o =>
    simp at hy
    rw [hy]
    exact w _ (by simp)
  | odd S o =>
    simp at hy
    rcases hy with rfl | rfl
    · exact w _ (by simp)
    · exact w _ (by simp)
  | pic S P ok l k o z =>
    simp only [List.mem_cons, List.not_mem_nil, or_false] at hy
    rcases hy with rfl | rfl | rfl
    · exact w _ (by simp)
    · split <;> exact w _ (by simp)
    · split <;> exact w _ (by simp)
theorem asked_ne {K : PySem.W.Frag} {C CS CP : Addr} {T : List (Addr × Str)} {H : Hp} {ta : TA} {u v s : V} {z1 z2 z3 : Str} {te : TE} {σ : L2.St} {ws : List Str} {d : Addr} {Q : Bool → Hp → Prop} (hd : Dice H d) (ht : Tabs T H) (A : Ask K C CS CP H u v s z1 z2 z3) (ga : ∀ Q : List V → Hp → Prop, Q [u, v, s] H → ta σ H Q)
    (g : YdW te σ H ws) (hw : ∀ y ∈ ws, Asc y) (q : ∀ H', Go T d H H' → Q (!decide ([z1, z2, z3] = ws)) H') : tTest (tOp (rNeD K) (tCall (spAsked K C CS CP T) [] E0 ta) te) σ H Q := by
  refine ga _ ⟨u, v, s, z1, z2, z3, rfl, ht, A, fun l H1 x1 t1 n1 e1 => g H1 _ x1 fun p H2 s2 e2 => ⟨_, _, .lst (.inl (.inl (s2 _ _ e1))) (dp_strs _), .lst (.inl (.inl e2)) (dp_strs _), shaped_strs (ask_words A), shaped_strs hw, _, rfl, ?_⟩⟩
  rw [eqv_strsL]
  exact q H2 ((Go.extN hd x1 t1).thenS s2)
section
variable {K : PySem.W.Frag} {C CS CP : Addr} {T : List (Addr × Str)} {H : Hp} {ta : TA} {u v s : V} {z1 z2 z3 : Str} {te : TE} {σ : L2.St} {ws : List Str} {d : Addr} {B : TT} {Y Z R : TS} {D : Ends}
theorem or_asked (hd : Dice H d) (ht : Tabs T H) (A : Ask K C CS CP H u v s z1 z2 z3) (ga : ∀ Q : List V → Hp → Prop, Q [u, v, s] H → ta σ H Q)
    (g : YdW te σ H ws) (hw : ∀ y ∈ ws, Asc y) (e : [z1, z2, z3] = ws) (k : ∀ H', Go T d H H' → B σ H' fun b H2 => if b = true then Y { D with nx := R D } σ H2 else Z { D with nx := R D } σ H2) : tSeq (tIfS (tOr (tTest (tOp (rNeD K) (tCall (spAsked K C CS CP T) [] E0 ta) te)) B) Y Z) R D σ H := by
  show tTest (tOp (rNeD K) (tCall (spAsked K C CS CP T) [] E0 ta) te) σ H (fun c H1 => if c = true then (fun b H2 => if b = true then Y { D with nx := R D } σ H2 else Z { D with nx := R D } σ H2) true H1 else B σ H1 fun b H2 => if b = true then Y { D with nx := R D } σ H2 else Z { D with nx := R D } σ H2)
  refine asked_ne hd ht A ga g hw fun H' g' => ?_
  rw [decide_eq_true e]
  exact iteF (k H' g')
theorem if_asked (hd : Dice H d) (ht : Tabs T H) (A : Ask K C CS CP H u v s z1 z2 z3) (ga : ∀ Q : List V → Hp → Prop, Q [u, v, s] H → ta σ H Q)
    (g : YdW te σ H ws) (hw : ∀ y ∈ ws, Asc y) (e : [z1, z2, z3] = ws) (k : ∀ H', Go T d H H' → Z { D with nx := R D } σ H') : tSeq (tIfS (tTest (tOp (rNeD K) (tCall (spAsked K C CS CP T) [] E0 ta) te)) Y Z) R D σ H := by
  show tTest (tOp (rNeD K) (tCall (spAsked K C CS CP T) [] E0 ta) te) σ H (fun b H2 => if b = true then Y { D with nx := R D } σ H2 else Z { D with nx := R D } σ H2)
  refine asked_ne hd ht A ga g hw fun H' g' => ?_
  rw [decide_eq_true e]
  exact iteF (k H' g')
theorem if_asked2 {sd : PyData} (hd : Dice H d) (ht : Tabs T H) (A : ∀ s H1, Same H H1 → Dt H1 s sd → Ask K C CS CP H1 u v s z1 z2 z3) (ga : ∀ Q : List V → Hp → Prop, (∀ s H1, Same H H1 → Dt H1 s sd → Q [u, v, s] H1) → ta σ H Q)
    (g : ∀ H1, Same H H1 → YdW te σ H1 ws) (hw : ∀ y ∈ ws, Asc y) (e : [z1, z2, z3] = ws) (k : ∀ H', Go T d H H' → Z { D with nx := R D } σ H') : tSeq (tIfS (tTest (tOp (rNeD K) (tCall (spAsked K C CS CP T) [] E0 ta) te)) Y Z) R D σ H := by
  show ta σ H fun vs H1 => spAsked K C CS CP T (vs ++ []) H1 (fun x H2 => te σ H2 fun y H3 => rNeD K x y H3 fun z H4 => ∃ k, z = .bl k ∧ if k = true then Y { D with nx := R D } σ H4 else Z { D with nx := R D } σ H4) E0
  refine ga _ fun s0 H0 sm kd => ⟨u, v, s0, z1, z2, z3, rfl, ht.ext sm, A s0 H0 sm kd, fun l H1 x1 t1 n1 e1 => g H0 sm H1 _ x1 fun p H2 s2 e2 => ⟨_, _, .lst (.inl (.inl (s2 _ _ e1))) (dp_strs _), .lst (.inl (.inl e2)) (dp_strs _), shaped_strs (ask_words (A s0 H0 sm kd)), shaped_strs hw, _, rfl, ?_⟩⟩
  rw [eqv_strsL, decide_eq_true e]
  exact iteF (k H2 (((Go.same hd ht sm).thenE x1 t1).thenS s2))
theorem snd_asked {Q : Bool → Hp → Prop} (hd : Dice H d) (ht : Tabs T H) (A : Ask K C CS CP H u v s z1 z2 z3) (ga : ∀ Q : List V → Hp → Prop, Q [u, v, s] H → ta σ H Q)
    (g : YdW te σ H ws) (hw : ∀ y ∈ ws, Asc y) (e : [z1, z2, z3] = ws) (k : ∀ H', Go T d H H' → Q false H') : tTest (tOp (rNeD K) (tCall (spAsked K C CS CP T) [] E0 ta) te) σ H Q := by
  refine asked_ne hd ht A ga g hw fun H' g' => ?_
  rw [decide_eq_true e]
  exact k H' g'
end
end K12
set_option Elab.async false
set_option linter.all false
set_option autoImplicit false
set_option maxRecDepth 100000
set_option maxHeartbeats 8000000
namespace K12
open PySem PySem.Spec PyProof.Rows L2 Vb Wd Rd Xd Xe Xl Xu Xg Xo Xv Xq LamX Oe Of Og Oh Ow SX Pc Ms Oy Zt Rl
abbrev s_l_right : Stmt := topS 58
abbrev nR : List Str := ["_law_dice_here", "_law_plain", "_law_scheme_here", "_law_none", "_law_odd", "_law_name", "_law_many", "_law_good", "_law_spots", "_law_bad", "_law_copied", "_law_texts", "_law_wrong", "_law_due", "_law_turn"]
theorem sc_l_right : FnScope nR ["_law_dice_here", "_law_plain", "_law_scheme_here"] (defScope s_l_right) := ⟨rfl, rfl, rfl, by decide +kernel, rfl, by decide +kernel, by decide +kernel⟩
/-- what _law_right asks of the program -/
structure EnvR (P : Program) (w : World) (K : PySem.W.Frag) (mg : Str → Option Value) (base : Heap) (T : List (Addr × Str)) (C CS CP CI : Addr) where
  VQ : EnvQ P w K mg base CP
  FP : FnG P w K mg base 10 VQ.fI VQ.fdI ["self", "text"] (spInitP CP 3)
  TS : SchemeC K CS
  TF : FormC K C
  TIS : FormI K CS
  TIF : FormI K C
  TIP : FormI K CP
  nS : NoK K CS
  nP : NoK K CP
  noSP : PySem.W.kitOne K (.ref CS) (.ref CP) = some false
  noPS : PySem.W.kitOne K (.ref CP) (.ref CS) = some false
  noFS : PySem.W.kitOne K (.ref C) (.ref CS) = some false
  TPS : SchemeP P w K mg base CS
  lines : ∃ (p g : Addr) (fd : FuncData), PropOf K CS "lines" p g ∧ FnG P w K mg base 4 g fd ["self"] (spLinesS C CS) ∧ Binds K fd ["self"] []
  eq : ∃ (f : Addr) (fd : FuncData), FnG P w K mg base 3 f fd ["self", "other"] (spEqP CP) ∧ PySem.W.findIn K (.ref CP) "__eq__" = some (some (.ref f)) ∧ PySem.W.isFn K (.ref f) = true ∧ Binds K fd ["self", "other"] []
  G_sound : CgE P w K mg base 14 "is_sound_picture" (spSoundX K C CS CP CI 3)
/-- a call of Picture with the text of a picture -/
theorem make_pic {CP : Addr} {E : XK} {ta : TA} {σ : L2.St} {H : Hp} {Q : VK} (h : ta σ H fun vs H1 => ∃ p : Pic, vs = [.str (S p.cs)] ∧ p.Ok ∧ p.lev < 3 ∧ ∀ x H2, Same H1 H2 → PicAt H2 CP p (.ref x) → Q (.ref x) H2)
    (mono : ∀ {Q1 Q2 : List V → Hp → Prop}, (∀ vs H', Q1 vs H' → Q2 vs H') → ta σ H Q1 → ta σ H Q2) : tMaE CP (spInitP CP 3) E ta σ H Q := by
  refine mono (fun vs H1 ⟨p, e, ok, l, k⟩ => ?_) h
  intro x dx nx ndx ne
  subst e
  refine ⟨x, dx, p, rfl, upd_same, ok, l, by omega, fun H2 b2 pa => ⟨rfl, k x H2 (fun y o hy => ?_) pa⟩⟩
  refine b2 _ _ (ne_of_none hy nx) ?_
  rw [upd_ne (ne_of_none hy nx), upd_ne (ne_of_none hy ndx)]
  exact hy
theorem same_made {CP x dx : Addr} {H H2 : Hp} (nx : H x = none) (ndx : H dx = none) (b2 : But x (upd (upd H dx (.own x)) x (.ins CP dx [])) H2) : Same H H2 := fun y o hy => by
  refine b2 _ _ (ne_of_none hy nx) ?_
  rw [upd_ne (ne_of_none hy nx), upd_ne (ne_of_none hy ndx)]
  exact hy
def poolI : List Int := [0, -1, 5, 10 ^ (59 : Int).toNat, 1 - 10 ^ (60 : Int).toNat]
theorem poolI_ok : ∀ k ∈ poolI, k.natAbs < 10 ^ 60 ∧ Shw 0 70 (.int k) := fun k hk => by
  have h : poolI.all (fun k => decide (k.natAbs < 10 ^ 60) && (PyData.showable (.int k) && decide ((PyData.int k).shown.length ≤ 70))) = true := by decide +kernel
  have := List.all_eq_true.mp h k hk
  rw [Bool.and_eq_true, Bool.and_eq_true, decide_eq_true_eq, decide_eq_true_eq] at this
  exact ⟨this.1, this.2.1, rfl, Nat.le_refl _, this.2.2⟩
theorem spots_shw {ns : List Int} (h : ∀ k ∈ ns, k ∈ poolI) (l : ns.length ≤ 4) : Shw 2 2000 (.tuple (spsD ns)) := by
  refine (shw_tup (n := 1) (m := 200) (k := 4) (fun d hd => ?_) (by simpa [spsD] using l)).le (Nat.le_refl _) (by decide)
  obtain ⟨k, hk, rfl⟩ := List.mem_map.mp hd
  refine (shw_tup (n := 0) (m := 70) (k := 2) (fun d hd => ?_) (by show 2 ≤ 2; decide)).le (Nat.le_refl _) (by decide)
  rcases List.mem_cons.mp hd with rfl | hd
  · exact (shw_str (k := 1) (fun c hc => by
      have e : ("t" : Str).cps.toList = [116] := by decide +kernel
      rw [e] at hc
      have : c = 116 := by simpa using hc
      omega) (by decide +kernel)).le (Nat.le_refl _) (by decide)
  · have : d = .int k := by simpa using hd
    rw [this]
    exact (poolI_ok k (h k hk)).2
theorem spots_all {H : Hp} : ∀ {xs : List V} {ns : List Int}, xs.length = ns.length → (∀ (j : Nat) (x : V) (k : Int), xs[j]? = some x → ns[j]? = some k → ∃ t, x = .ref t ∧ H t = some (.tup [.str "t", .int k])) → DtAll H xs (spsD ns)
  | [], [], _, _ => .nil
  | [], _ :: _, l, _ => by simp at l
  | _ :: _, [], l, _ => by simp at l
  | x :: xs, k :: ns, l, h => by
    obtain ⟨t, rfl, e⟩ := h 0 x k rfl rfl
    exact .cons (.tup e (.cons (.str _) (.cons (.int _) .nil))) (spots_all (by simpa using l) fun j y i h1 h2 => h (j + 1) y i (by simpa using h1) (by simpa using h2))
theorem rep_str (m : Nat) (z : Str) : (List.replicate ((m : Nat) : Int).toNat [V.str z]).flatten = (List.replicate m z).map V.str := by
  rw [Int.toNat_natCast]
  induction m with
  | zero => rfl
  | succ m ih => rw [List.replicate_succ, List.flatten_cons, ih, List.replicate_succ]; rfl
theorem ite_words {te1 te2 : TE} {σ : L2.St} {H : Hp} {w1 w2 : List Str} (a : YdW te1 σ H w1) (b : YdW te2 σ H w2) (kq : Bool) {Q : VK} (q : ∀ p H2, Same H H2 → H2 p = some (.lst ((if kq = true then w1 else w2).map V.str)) → Q (.ref p) H2) : if kq = true then te1 σ H Q else te2 σ H Q := by
  cases kq with
  | true => exact iteT (a H Q (ExtN.of (Same.refl H)) q)
  | false => exact iteF (b H Q (ExtN.of (Same.refl H)) q)
theorem dt_rep {H : Hp} {v : V} {d : PyData} (h : Dt H v d) : ∀ n : Nat, DtAll H (List.replicate n v) (List.replicate n d)
  | 0 => .nil
  | n + 1 => by
    rw [List.replicate_succ, List.replicate_succ]
    exact .cons h (dt_rep h n)
theorem rep_flat (m : Nat) (v : V) : (List.replicate ((m : Nat) : Int).toNat [v]).flatten = List.replicate m v := by
  rw [Int.toNat_natCast]
  induction m with
  | zero => rfl
  | succ m ih => rw [List.replicate_succ, List.flatten_cons, ih, List.replicate_succ]; rfl
theorem zeros (h : Nat) : spsD (List.replicate h 0) = List.replicate h (spD 0) := by
  unfold spsD
  rw [List.map_replicate]
def spRight (C CS : Addr) (T : List (Addr × Str)) : Sp := fun vs H Q _ => ∃ (d a tl tb sc : Addr) (b : Str) (ts : List Str) (ps : List (FD × Addr)) (ds : List FD), vs = [.ref d, .ref a, .ref sc] ∧ Dice H d ∧ Tabs T H ∧ Held H a tl tb b ts ps ∧ Fit b ts (ps.map (·.1)) ∧ ps.length ≤ 8 ∧ SchemeAt H C CS sc b ts ds ∧ ds.Perm (ps.map (·.1)) ∧ ∀ H', Go T d H H' → Q (.bl true) H'
section
variable {P : Program} {w : World} {K : PySem.W.Frag} {mg : Str → Option Value} {base : Heap} {C CS CP CI : Addr} {T : List (Addr × Str)}
theorem ok_l_right (D : Df K mg "_law_right" s_l_right ["_law_dice_here", "_law_plain", "_law_scheme_here"]) (VR : EnvR P w K mg base T C CS CP CI) (G_l_pick : Cg P w K mg base 2 "_law_pick" (spPick K)) (G_l_bad_spots : Cg P w K mg base 3 "_law_bad_spots" spBadSpots) (G_l_asked : Cg P w K mg base 20 "_law_asked" (spAsked K C CS CP T))
    (z_sorted : mg "sorted" = none) (z_len : mg "len" = none) (z_tuple : mg "tuple" = none) (z_range : mg "range" = none) (z_repr : mg "repr" = none) : Cg P w K mg base 21 "_law_right" (spRight C CS T) := by
  obtain ⟨pL, gL, fdL, oL, GL, bL⟩ := VR.lines
  obtain ⟨pF, gF, fdF, oF, GF, bF⟩ := VR.TPS.get ("forms", "_forms") (by simp)
  obtain ⟨pH, gH, fdH, oH, GH, bH⟩ := VR.VQ.TP.get ("holes", "_holes") (by simp)
  obtain ⟨fE, fdE, FE, eE, tE, bE⟩ := VR.eq
  refine D.ok sc_l_right (fun vs H Q E h => ?_) (fun cdv A outer s H vs Q E f0 hc hr h => ?_)
  · obtain ⟨d, a, tl, tb, sc, b, ts, ps, ds, rfl, _⟩ := h
    rfl
  · obtain ⟨d, a, tl, tb, sc, b, ts, ps, ds, rfl, hd, ht, X, F6, few, SA, pm, q⟩ := h
    refine ⟨_, (pss_cons (ps_set (i := 3) sc_l_right.nd rfl (Or.inl rfl) (pe_lst (pa_cons pe_non (pa_cons pe_int (pa_cons pe_str (pa_cons (pe_tup pa_nil) (pa_cons (pe_lst pa_nil) (pa_cons pe_dnewK (pa_cons (pe_ix (ix_list : IxR _ (rIxL K)) (pv 1) pe_int (fun _ _ => rfl)) (pa_cons (pe_propG (n := "lines") (pv 2) VR.TS.c oL GL hc (hr.mono (by decide)) bL) (pa_cons (pe_propG (n := "forms") (pv 2) VR.TS.c oF GF hc (hr.mono (by decide)) bF) (pa_cons (pe_ix (ix_tup : IxR _ (rIxT K)) (pe_propG (n := "forms") (pv 2) VR.TS.c oF GF hc (hr.mono (by decide)) bF) pe_int (fun _ _ => rfl)) (pa_cons (pe_makeE (E := fun _ _ _ => False) (W := fun _ _ _ _ => False) VR.VQ.M (FnE.of VR.FP) hc (hr.mono (by decide)) (by rfl) VR.VQ.g VR.VQ.bI LamX.takes0 (fun _ _ _ _ z => z) (pa_cons pe_str pa_nil)) pa_nil)))))))))))))
      (pss_cons (ps_set (i := 3) sc_l_right.nd rfl (Or.inl rfl) (pe_cg G_l_pick hc hr (by rfl) (pa_cons (pv 0) (pa_cons (pv 3) pa_nil))))
      (pss_cons (ps_set (i := 4) sc_l_right.nd rfl (Or.inl rfl) (pe_cg G_l_pick hc hr (by rfl) (pa_cons (pv 0) (pa_cons (pe_lst (pa_cons pe_non (pa_cons pe_int (pa_cons pe_str (pa_cons pe_str (pa_cons (pe_tup pa_nil) (pa_cons (pe_lst pa_nil) (pa_cons pe_dnewK (pa_cons pe_str (pa_cons pe_bl (pa_cons (pv 2) (pa_cons (pe_tup (pa_cons (pe_makeE (E := fun _ _ _ => False) (W := fun _ _ _ _ => False) VR.VQ.M (FnE.of VR.FP) hc (hr.mono (by decide)) (by rfl) VR.VQ.g VR.VQ.bI LamX.takes0 (fun _ _ _ _ z => z) (pa_cons pe_str pa_nil)) pa_nil)) (pa_cons (pe_lst (pa_cons pe_str (pa_cons pe_str pa_nil))) pa_nil))))))))))))) pa_nil))))
      (pss_cons (ps_set (i := 5) sc_l_right.nd rfl (Or.inl rfl) (pe_cg G_l_pick hc hr (by rfl) (pa_cons (pv 0) (pa_cons (pe_callB (call_sortedD rfl) (by rfl) z_sorted (by decide +kernel) (pa_cons (pe_ix (ix_list : IxR _ (rIxL K)) (pv 1) pe_int (fun _ _ => rfl)) pa_nil)) pa_nil))))
      (pss_cons (ps_set (i := 6) sc_l_right.nd rfl (Or.inl rfl) (pe_callB call_len_seq (by rfl) z_len PySem.boot_len (pa_cons (pe_ix (ix_tup : IxR _ (rIxT K)) (pe_dget (hu_of hr) (pe_ix (ix_list : IxR _ (rIxL K)) (pv 1) pe_int (fun _ _ => rfl)) (pv 5) (fun _ _ => rfl)) pe_int (fun _ _ => rfl)) pa_nil)))
      (pss_cons (ps_set (i := 7) sc_l_right.nd rfl (Or.inl rfl) (pe_makeE (E := fun _ _ _ => False) (W := fun _ _ _ _ => False) VR.VQ.M (FnE.of VR.FP) hc (hr.mono (by decide)) (by rfl) VR.VQ.g VR.VQ.bI LamX.takes0 (fun _ _ _ _ z => z) (pa_cons (pe_op op_add_str (pe_op op_add_str (pe_op op_add_str (pv 5) pe_str) (pe_join pe_str (pe_op op_rep (pe_lst (pa_cons pe_str pa_nil)) (pv 6)))) pe_str) pa_nil)))
      (pss_cons (ps_set (i := 8) sc_l_right.nd rfl (Or.inl rfl) (pe_callTy (cr_tuple : CallR _ _ (rTup K)) (by rfl) z_tuple (by decide +kernel) (pa_cons (pe_lc (own := [("_law_turn", 14)]) (g := gName 14) (by rfl) sc_l_right.nd (pi_range1 (by rfl) z_range (pa_cons (pv 6) pa_nil)) (blkOk_by (own := [("_law_turn", 14)]) (N := nR) (sc := defScope s_l_right) (by decide +kernel)) (fun _ _ _ _ _ => pg_name (i := 14) sc_l_right.nd rfl (Or.inl rfl)) (fun _ _ _ _ _ => pts_nil) (fun _ _ _ _ _ => (pe_tup (pa_cons pe_str (pa_cons (pe_cg G_l_pick hc hr (by rfl) (pa_cons (pv 0) (pa_cons (pe_lst (pa_cons pe_int (pa_cons (pe_un un_neg pe_int) (pa_cons pe_int (pa_cons (pe_op op_powW pe_int pe_int) (pa_cons (pe_op op_sub pe_int (pe_op op_powW pe_int pe_int)) pa_nil)))))) pa_nil))) pa_nil))))) pa_nil)))
      (pss_cons (ps_par (i := 9) (j := 10) (by rfl) sc_l_right.nd rfl rfl (by decide) rfl rfl (pa_cons (pe_cg G_l_bad_spots hc hr (by rfl) (pa_cons (pv 0) (pa_cons (pv 8) pa_nil))) (pa_cons (pe_callB (cr_reprD hc hr.units) (by rfl) z_repr (by decide +kernel) (pa_cons (pv 8) pa_nil)) pa_nil)) (by rfl))
      (pss_cons (ps_if (PW.pt (pw_or (pt_cmpR (op_neD hr.units : OpR _ (compareOp .NotEq) (rNeD K)) (pe_cg G_l_asked hc hr (by rfl) (pa_cons (pv 3) (pa_cons (pv 4) (pa_cons (pv 9) pa_nil)))) (pe_op op_rep (pe_lst (pa_cons pe_str pa_nil)) pe_int) (nomark _)) (pw_or1 (pt_cmpR (op_neD hr.units : OpR _ (compareOp .NotEq) (rNeD K)) (pe_cg G_l_asked hc hr (by rfl) (pa_cons (pv 3) (pa_cons (pv 7) (pa_cons (pv 8) pa_nil)))) (pe_op op_rep (pe_lst (pa_cons pe_str pa_nil)) pe_int) (nomark _)))))
      (pss_one (ps_ret pe_bl))
      pss_nil)
      (pss_cons (ps_if (PW.pt (pw_or (pt_cmpR (op_neD hr.units : OpR _ (compareOp .NotEq) (rNeD K)) (pe_cg G_l_asked hc hr (by rfl) (pa_cons (pv 2) (pa_cons (pv 4) (pa_cons (pv 9) pa_nil)))) (pe_lst (pa_cons pe_str (pa_cons pe_str (pa_cons pe_str pa_nil)))) (nomark _)) (pw_or1 (pt_cmpR op_notBl (pe_cgE (E := fun _ _ _ => False) (W := fun _ _ _ _ => False) VR.G_sound hc hr (by rfl) LamX.takes0 (fun _ _ _ _ z => z) (pa_cons (pv 2) (pa_cons (pv 4) pa_nil))) pe_bl (nomark _)))))
      (pss_one (ps_ret pe_bl))
      pss_nil)
      (pss_cons (ps_if (pt_cmpR (op_neD hr.units : OpR _ (compareOp .NotEq) (rNeD K)) (pe_cg G_l_asked hc hr (by rfl) (pa_cons (pv 2) (pa_cons (pv 7) (pa_cons (pv 9) pa_nil)))) (pe_lst (pa_cons pe_str (pa_cons pe_str (pa_cons pe_str pa_nil)))) (nomark _))
      (pss_one (ps_ret pe_bl))
      pss_nil)
      (pss_cons (ps_if (pt_cmpR (op_neD hr.units : OpR _ (compareOp .NotEq) (rNeD K)) (pe_cg G_l_asked hc hr (by rfl) (pa_cons (pv 2) (pa_cons (pv 7) (pa_cons (pv 8) pa_nil)))) (pe_op op_rep (pe_lst (pa_cons pe_str pa_nil)) pe_int) (nomark _))
      (pss_one (ps_ret pe_bl))
      pss_nil)
      (pss_cons (ps_set (i := 11) sc_l_right.nd rfl (Or.inl rfl) (pe_lst (pa_cons pe_str (pa_cons pe_str (pa_cons (pe_op op_add_str (pe_op op_add_str (pe_op op_add_str (pv 5) pe_str) (pe_op op_mulS pe_str (pe_op op_sub (pv 6) pe_int))) pe_str) (pa_cons (pe_op op_add_str (pe_op op_add_str (pe_op op_add_str (pv 5) pe_str) (pe_op op_mulS pe_str (pe_op op_sub pe_int (pv 6)))) pe_str) pa_nil))))))
      (pss_cons (ps_set (i := 12) sc_l_right.nd rfl (Or.inl rfl) (pe_makeE (E := fun _ _ _ => False) (W := fun _ _ _ _ => False) VR.VQ.M (FnE.of VR.FP) hc (hr.mono (by decide)) (by rfl) VR.VQ.g VR.VQ.bI LamX.takes0 (fun _ _ _ _ z => z) (pa_cons (pe_cg G_l_pick hc hr (by rfl) (pa_cons (pv 0) (pa_cons (pv 11) pa_nil))) pa_nil)))
      (pss_cons (ps_set (i := 13) sc_l_right.nd rfl (Or.inl rfl) (pe_ifExp (pt_cmpR (op_eqO FE eE tE bE hc (hr.mono (by decide))) (pv 12) (pv 7) (nomark _)) (pe_op op_rep (pe_lst (pa_cons pe_str pa_nil)) pe_int) (pe_lst (pa_cons pe_str (pa_cons pe_str (pa_cons pe_str pa_nil))))))
      (pss_cons (ps_if (pt_cmpR (op_neD hr.units : OpR _ (compareOp .NotEq) (rNeD K)) (pe_cg G_l_asked hc hr (by rfl) (pa_cons (pv 2) (pa_cons (pv 12) (pa_cons (pe_op (op_rep1 : OpR _ _ (rRep1 K)) (pe_tup (pa_cons (pe_tup (pa_cons pe_str (pa_cons pe_int pa_nil))) pa_nil)) (pe_propG (n := "holes") (pv 12) VR.VQ.T.c oH GH hc (hr.mono (by decide)) bH)) pa_nil)))) (pv 13) (nomark _))
      (pss_one (ps_ret pe_bl))
      pss_nil)
      (pss_one (ps_ret (pe_and (pe_cmpR op_eq (pe_callB (cr_reprD hc hr.units) (by rfl) z_repr (by decide +kernel) (pa_cons (pv 8) pa_nil)) (pv 10) (nomark _)) (pe_one (pe_cmpR op_isBl (pe_cgE (E := fun _ _ _ => False) (W := fun _ _ _ _ => False) VR.G_sound hc hr (by rfl) LamX.takes0 (fun _ _ _ _ z => z) (pa_cons (pv 2) (pa_cons (pv 7) pa_nil))) pe_bl (nomark _)))))))))))))))))))))), ?_⟩

    obtain ⟨dxs, t, bn, nm, f, so', kvs, fs, zs, ha, ht', hn, hf, FF, hb, hv, hs, mz, srt, nd⟩ := SA.ex
    have FL := FF.len
    have fw := SA.few
    have nm8 : ∀ d ∈ ds, d.1.length ≤ 1000 ∧ d.2.1.length ≤ 1000 := fun d hd => by
      obtain ⟨h1, h2⟩ := SA.nams d hd
      have := (nam_len h1).2.1
      have := (nam_len h2).2.1
      omega
    have lines_yp : Yp (fun H v => OtherV K H CS v) (tPrE CS (spLinesS C CS) (tVar 2)) (L2.start nR [.ref d, .ref a, .ref sc]) H := fun H1 Q s k =>
      ⟨_, rfl, sc, dxs, _, rfl, s _ _ ha, sc, dxs, t, bn, nm, f, so', b, ts, fs, ds, rfl, s _ _ ha, s _ _ ht', s _ _ hf, ⟨FF.len, fun i x d h1 h2 => by obtain ⟨ch, tks, FA⟩ := FF.at_ i x d h1 h2; exact ⟨ch, tks, FA.sm s⟩⟩, (SA.tops.1 b SA.tops.2.2.2).1, SA.tops.2.1, fun y hy => (SA.tops.1 y hy).1, by omega, nm8, fun p H2 s2 e2 => k _ H2 s2 (.tup e2)⟩
    have forms_yp : Yp (fun H v => OtherV K H CS v) (tPrE CS (spFld CS "_forms") (tVar 2)) (L2.start nR [.ref d, .ref a, .ref sc]) H := fun H1 Q s k =>
      ⟨_, rfl, sc, dxs, _, rfl, s _ _ ha, sc, dxs, _, .ref f, rfl, s _ _ ha, rfl, k _ H1 (Same.refl _) (.tup (s _ _ hf))⟩
    have form_yp : Yp (fun H v => OtherV K H CS v) (tOp (rIxT K) (tPrE CS (spFld CS "_forms") (tVar 2)) (tC (.int 0))) (L2.start nR [.ref d, .ref a, .ref sc]) H := fun H1 Q s k => by
      match fs, FL, FF, hf with
      | [], FL, _, _ => 
        have e : ([] : List Addr).length = ds.length := FL
        simp at e
        omega
      | f0 :: fr, FL, FF, hf =>
        have l0 : 0 < ds.length := by omega
        obtain ⟨ch, tks, FA⟩ := FF.at_ 0 f0 ds[0] rfl (List.getElem?_eq_getElem l0)
        obtain ⟨dxf, hx⟩ := FA.at_
        exact ⟨_, rfl, sc, dxs, _, rfl, s _ _ ha, sc, dxs, _, .ref f, rfl, s _ _ ha, rfl, f, _, 0, .ref f0, rfl, rfl, .inl (.inl (s _ _ hf)), atI_nat (j := 0) rfl, k _ H1 (Same.refl _) (.obj (s _ _ hx) VR.TF.c VR.TIF VR.noFS)⟩
    have bare_yp : Yp (fun H v => OtherV K H CS v) (tOp (rIxL K) (tVar 1) (tC (.int 0))) (L2.start nR [.ref d, .ref a, .ref sc]) H := fun H1 Q s k =>
      ⟨_, rfl, a, _, 0, .str b, rfl, rfl, .inl (.inl (s _ _ X.at_)), by rfl, k _ H1 (Same.refl _) (.dat (.str b) rfl)⟩
    have dot_yp : ∀ {H : Hp} {σ : L2.St}, Yp (fun H v => ∃ x, v = .ref x ∧ PicAt H CP .hole v) (tMaE CP (spInitP CP 3) (fun _ _ _ => False) (tCons (tC (.str ".")) tNil)) σ H := fun H1 Q s k =>
      make_pic (ta := tCons (tC (.str ".")) tNil) ⟨.hole, by rw [hole_text], trivial, by decide, fun x H2 s2 pa => k _ H2 s2 ⟨x, rfl, pa⟩⟩ (fun h q => h _ _ q)
    have pic_yp : Yp (fun H v => OtherV K H CS v) (tMaE CP (spInitP CP 3) (fun _ _ _ => False) (tCons (tC (.str ".")) tNil)) (L2.start nR [.ref d, .ref a, .ref sc]) H := fun H1 Q s k => dot_yp H1 _ s fun v H2 s2 ⟨x, e, pa⟩ => by
      obtain ⟨x', dx, pt, nt, ws, e', h1, _⟩ := pa.ex
      subst e'
      exact k _ H2 s2 (.obj h1 VR.VQ.T.c VR.TIP VR.noPS)
    have stS : ∀ {H H' : Hp} {v : V}, Keep H H' → OtherV K H CS v → OtherV K H' CS v := fun k o => o.keep k
    let OS : Hp → V → Prop := fun H v => OtherV K H CS v
    refine asg_at (yp_lst (n := 11) (yp_cons (p := OS) stS (Yp.of (p := OS) yd_non fun h => .dat h rfl) (yp_cons (p := OS) stS (Yp.of (p := OS) yd_int fun h => .dat h rfl) (yp_cons (p := OS) stS (Yp.of (p := OS) yd_str fun h => .dat h rfl) (yp_cons (p := OS) stS (Yp.of (p := OS) (yd_tup yd_nil (by decide)) fun h => .dat h rfl) (yp_cons (p := OS) stS (Yp.of (p := OS) (yd_lst yd_nil (by decide)).data fun h => .dat h rfl) (yp_cons (p := OS) stS (Yp.of (p := OS) yd_d0 fun h => .dat h rfl)
      (yp_cons (p := OS) stS bare_yp (yp_cons (p := OS) stS lines_yp (yp_cons (p := OS) stS forms_yp (yp_cons (p := OS) stS form_yp (yp_cons (p := OS) stS pic_yp (yp_nil (p := OS))))))))))))) (by decide) fun vs0 H0 l0 s0 n0 o0 nl0 => ?_)
    have sl0 := same_new (o := .lst vs0) nl0
    have s1 := s0.trans sl0
    have hd1 := (Past.same hd s1).dice
    have e1 : (upd H0 l0 (.lst vs0)) l0 = some (.lst vs0) := upd_same
    have o1 : ∀ v ∈ vs0, OS (upd H0 l0 (.lst vs0)) v := fun v hv => stS (Keep.same sl0) (o0 v hv)
    have ld0 : l0 ≠ d := (Past.same hd s0).dice.ne nl0
    generalize upd H0 l0 (.lst vs0) = H1 at s1 hd1 e1 o1 ⊢
    clear sl0 s0 o0 nl0
    refine asg_at (pick_at (p := OS) (i := 3) stS rfl rfl hd1 ld0 e1 (by omega) (by omega) o1 fun vn H2 p2 on2 => ?_)
    have t2 : Past d H H2 := (Past.same hd s1).trans p2
    clear p2 e1 o1 ld0
    have k2 := Keep.past hd t2
    -- a value that is no picture
    let OP : Hp → V → Prop := fun H v => OtherV K H CP v
    have stP : ∀ {H H' : Hp} {v : V}, Keep H H' → OtherV K H CP v → OtherV K H' CP v := fun k o => o.keep k
    have ha2 := k2.ins ha
    have sch_yp : ∀ {σ : L2.St}, σ[2]? = some (some (.ref sc)) → Yp OP (tVar 2) σ H2 := fun hσ H1 Q s k => ⟨_, hσ, k _ H1 (Same.refl _) (.obj (s _ _ ha2) VR.TS.c VR.TIS VR.noSP)⟩
    have tup_yp : ∀ {σ : L2.St}, Yp OP (tTup (tCons (tMaE CP (spInitP CP 3) (fun _ _ _ => False) (tCons (tC (.str ".")) tNil)) tNil)) σ H2 := fun {σ} H1 Q s k => by
      have := dot_yp (H := H2) (σ := σ) H1 (fun v H' => 1 ≤ sizeLine ∧ ∀ p, H' p = none → Q (.ref p) (upd H' p (.tup [v]))) s fun v H' s2 _ => ⟨by decide, fun p np => k (.ref p) _ (s2.trans (same_new np)) (.tup upd_same)⟩
      exact this
    refine asg_at (pick_yp (p := OP) (n := 12) stP rfl t2.dice (yp_cons (p := OP) stP (Yp.of (p := OP) yd_non fun h => .dat h rfl) (yp_cons (p := OP) stP (Yp.of (p := OP) yd_int fun h => .dat h rfl) (yp_cons (p := OP) stP (Yp.of (p := OP) yd_str fun h => .dat h rfl) (yp_cons (p := OP) stP (Yp.of (p := OP) yd_str fun h => .dat h rfl) (yp_cons (p := OP) stP (Yp.of (p := OP) (yd_tup yd_nil (by decide)) fun h => .dat h rfl) (yp_cons (p := OP) stP (Yp.of (p := OP) (yd_lst yd_nil (by decide)).data fun h => .dat h rfl)
      (yp_cons (p := OP) stP (Yp.of (p := OP) yd_d0 fun h => .dat h rfl) (yp_cons (p := OP) stP (Yp.of (p := OP) yd_str fun h => .dat h rfl) (yp_cons (p := OP) stP (Yp.of (p := OP) yd_bl fun h => .dat h rfl) (yp_cons (p := OP) stP (sch_yp rfl) (yp_cons (p := OP) stP tup_yp (yp_cons (p := OP) stP (Yp.of (p := OP) (yd_lst (yd_cons yd_str (yd_cons yd_str yd_nil)) (by decide)).data fun h => .dat h rfl) (yp_nil (p := OP)))))))))))))) (by decide) (by decide) fun vo H3 p3 oo3 => ?_)
    have t3 : Past d H H3 := t2.trans p3
    have on3 := stS (Keep.past t2.dice p3) on2
    have X3 := X.keep (Keep.past hd t3)
    clear on2
    -- a name
    have psn : (ps.map (·.1)).map (·.1) = ps.map (·.1.1) := by rw [List.map_map]; rfl
    have nd' : (ps.map (·.1.1)).Nodup := by rw [← psn]; exact F6.once
    have OK := F6.ok (by rw [List.length_map]; omega)
    have some_ : 1 ≤ ps.length := by
      have := F6.some_
      rw [List.length_map] at this
      exact this
    have kk : (kvsP ps).map (·.1) = (ps.map (·.1.1)).map Sum.inr := kvsP_keys ps
    refine asg_at ⟨.ref d, rfl, .ref a, rfl, a, _, _, .ref tb, rfl, rfl, .inl (.inl X3.at_), by rfl, tb, kvsP ps, ps.map (·.1.1), rfl, .inl X3.dict, kk, by rw [List.length_map]; omega, fun ws p pmw sy np => ?_⟩
    have s4 := same_new (o := .lst (ws.map V.str)) np
    have a4 : (upd H3 p (.lst (ws.map V.str))) p = some (.lst (ws.map V.str)) := upd_same
    have pd4 : p ≠ d := t3.dice.ne np
    have t4 := t3.trans (Past.same t3.dice s4)
    generalize upd H3 p (.lst (ws.map V.str)) = H4 at s4 a4 t4 ⊢
    have wl : ws.length = ps.length := by rw [pmw.length_eq, List.length_map]
    refine ⟨d, .ref p, (fun v => ∃ q ∈ ps, v = .str q.1.1), rfl, t4.dice, .inl ⟨p, _, rfl, pd4, .inl (.inl (.inl a4)), fun e => ?_, by rw [List.length_map]; omega, fun v hv => ?_⟩, fun v H5 p5 hv => ?_⟩
    · have := congrArg List.length e
      rw [List.length_map, List.length_nil] at this
      omega
    · obtain ⟨z, hz, rfl⟩ := List.mem_map.mp hv
      obtain ⟨q', hq, e⟩ := List.mem_map.mp (pmw.mem_iff.mp hz)
      exact ⟨q', hq, by rw [← e]⟩
    obtain ⟨pr, prm, rfl⟩ := hv
    have t5 := t4.trans p5
    have k35 : Keep H3 H5 := (Keep.same s4).trans (Keep.past t4.dice p5)
    have on5 := stS k35 on3
    have oo5 := stP k35 oo3
    have X5 := X.keep (Keep.past hd t5)
    clear on3 oo3 X3 a4 s4 p5 t4 pd4 k35
    have dmem : pr.1 ∈ ds := pm.mem_iff.mpr (List.mem_map.mpr ⟨pr, prm, rfl⟩)
    obtain ⟨nn1, nn2⟩ := SA.nams pr.1 dmem
    obtain ⟨n, en⟩ : ∃ n : List Nat, pr.1.1 = S n := ⟨pr.1.1.cps.toList, (S_tl _).symm⟩
    have wn : word n := nam_word (by rw [← en]; exact nn1)
    obtain ⟨ch, ks, erow, kk5⟩ := X5.row pr prm
    have mlen := kk5.len
    have m2 := kk5.lo
    have m4 := kk5.hi
    have dg : DGet H5 tb (kV (Sum.inr pr.1.1)) (some (.ref pr.2)) := .inl ⟨kvsP ps, Sum.inr pr.1.1, .inl X5.dict, rfl, (kvsP_val nd' prm).symm⟩
    refine asg_at ⟨_, rfl, a, _, _, .ref tb, rfl, rfl, .inl (.inl X5.at_), by rfl, _, rfl, tb, .ref pr.2, rfl, dg, pr.2, _, _, .ref ch, rfl, rfl, .inl (.inl erow), by rfl, ch, _, rfl, .inr (.inl (.inl kk5.at_)), ?_⟩
    rw [List.length_map]
    generalize em : ks.length = m at mlen m2 m4
    have zl : ∀ {n : Nat}, n ≤ 5000 → n ≤ sizeLine := fun h => Nat.le_trans h (by decide)
    have n8 := wn.2.1
    have ln : (pr.1.1).length = n.length := by rw [en, S_len]
    have l1 : ("(" : Str).length = 1 := by decide +kernel
    have l2 : (")" : Str).length = 1 := by decide +kernel
    have lj : (Txt.join (" " : Str) (List.replicate m ("." : Str))).length ≤ 10 := by
      rcases dots m (by omega) (by omega) with e | e | e <;> rw [e] <;> decide +kernel
    have lcat : ∀ x y : Str, (x ++ y).length = x.length + y.length := fun x y => by
      show (x.cps ++ y.cps).size = _
      rw [Array.size_append]
      rfl
    refine asg_at ⟨_, rfl, _, _, rfl, rfl, zl (by omega), ⟨_, rfl⟩, by show 1 ≤ sizeLine; decide, fun q0 nq0 => ⟨_, rfl, q0, (m : Int), _, rfl, rfl, upd_same, by omega, by omega, zl (by show 1 * _ ≤ _; omega), fun q1 nq1 => ?_⟩⟩
    rw [rep_str]
    have s6 := (same_new (o := .lst [V.str "."]) nq0).trans (same_new (o := .lst ((List.replicate m ("." : Str)).map V.str)) nq1)
    have e6 : (upd (upd H5 q0 (.lst [V.str "."])) q1 (.lst ((List.replicate m ("." : Str)).map V.str))) q1 = some (.lst ((List.replicate m ("." : Str)).map V.str)) := upd_same
    have t6 := t5.trans (Past.same t5.dice s6)
    generalize upd (upd H5 q0 (.lst [V.str "."])) q1 (.lst ((List.replicate m ("." : Str)).map V.str)) = H6 at s6 e6 t6 ⊢
    refine ⟨_, q1, List.replicate m ("." : Str), rfl, rfl, .inl (.inl (.inl e6)), ?_, _, _, rfl, rfl, zl (by rw [lcat]; omega), _, _, rfl, rfl, zl (by rw [lcat, lcat]; omega), ?_⟩
    · rcases dots m (by omega) (by omega) with e | e | e <;> rw [e] <;> decide +kernel
    have etx : pr.1.1 ++ ("(" : Str) ++ Txt.join (" " : Str) (List.replicate m ("." : Str)) ++ (")" : Str) = S (goodP n m).cs := by
      rw [en]
      exact good_text (by omega) (by omega)
    intro xg dxg nxg ndxg neg
    refine ⟨xg, dxg, goodP n m, by rw [← etx], upd_same, good_ok wn (by omega) (by omega), by rw [good_lev]; decide, by rw [good_lev]; decide, fun H7 b7 pg => ⟨rfl, ?_⟩⟩
    have s7 := same_made nxg ndxg b7
    clear nxg ndxg neg b7
    have t7 := t6.trans (Past.same t6.dice s7)
    have k57 : Keep H5 H7 := (Keep.same s6).trans (Keep.same s7)
    have on7 := stS k57 on5
    have oo7 := stP k57 oo5
    clear on5 oo5 e6 nq0 nq1 s7 s6 t6 k57
    -- good spots
    refine asg_at ⟨_, rfl, (m : Int), rfl, by omega, by omega, fun D nD => ?_⟩
    have dD := t7.dice.ne nD
    have big : ∀ {n : Nat}, n ≤ 100 → n < sizeLine := fun h => Nat.lt_of_le_of_lt h (by decide)
    refine lc_range (n := ((m : Int)).toNat) (lo := 0) (fun i H' => Past d H7 H' ∧ ∃ (xs : List V) (ns : List Int), H' D = some (.lst xs) ∧ ns.length = i ∧ xs.length = i ∧ (∀ j ∈ ns, j ∈ poolI) ∧ ∀ (j : Nat) (x : V) (k : Int), xs[j]? = some x → ns[j]? = some k → ∃ t, x = .ref t ∧ H' t = some (.tup [.str "t", .int k])) ⟨past_put nD dD (Past.refl t7.dice), [], [], upd_same, rfl, rfl, (fun j h => nomatch h), fun j x k h => by simp at h⟩ (fun i H8 hi h => ?_) (fun H8 h => ?_)
    · obtain ⟨p8, xs, ns, e8, nsl, xsl, nb, at8⟩ := h
      have im : i < 5 := by omega
      refine ⟨rfl, _, rfl, 1, rfl, 10, 59, rfl, rfl, ⟨by decide, by decide +kernel⟩, 10, 60, rfl, rfl, ⟨by decide, by decide +kernel⟩, 1, _, rfl, rfl, by show 5 ≤ sizeLine; decide, fun l9 n9 => ?_⟩
      have s9 := same_new (o := .lst [.int 0, .int (-1), .int 5, .int (10 ^ (59 : Int).toNat), .int (1 - 10 ^ (60 : Int).toNat)]) n9
      have e9 : (upd H8 l9 (.lst [.int 0, .int (-1), .int 5, .int (10 ^ (59 : Int).toNat), .int (1 - 10 ^ (60 : Int).toNat)])) l9 = some (.lst [.int 0, .int (-1), .int 5, .int (10 ^ (59 : Int).toNat), .int (1 - 10 ^ (60 : Int).toNat)]) := upd_same
      have p9 := Past.same p8.dice s9
      refine ⟨d, .ref l9, (fun v => ∃ k : Int, v = .int k ∧ k ∈ poolI), rfl, p9.dice, .inl ⟨l9, _, rfl, p8.dice.ne n9, .inl (.inl (.inl e9)), by simp, by show 5 ≤ 1000000; decide, fun v hv => ?_⟩, fun v H10 p10 hv => ?_⟩
      · simp only [List.mem_cons, List.not_mem_nil, or_false] at hv
        rcases hv with rfl | rfl | rfl | rfl | rfl
        · exact ⟨_, rfl, by simp [poolI]⟩
        · exact ⟨_, rfl, by simp [poolI]⟩
        · exact ⟨_, rfl, by simp [poolI]⟩
        · exact ⟨_, rfl, List.mem_cons_of_mem _ (List.mem_cons_of_mem _ (List.mem_cons_of_mem _ (List.mem_cons_self ..)))⟩
        · exact ⟨_, rfl, List.mem_cons_of_mem _ (List.mem_cons_of_mem _ (List.mem_cons_of_mem _ (List.mem_cons_of_mem _ (List.mem_cons_self ..))))⟩
      · obtain ⟨k, rfl, kb⟩ := hv
        have p810 := p9.trans p10
        refine ⟨by show 2 ≤ sizeLine; decide, fun u nu => ?_⟩
        have su := same_new (o := .tup [.str "t", .int k]) nu
        have e10 := su _ _ (p810.1 _ _ dD e8)
        have eu : (upd H10 u (.tup [.str "t", .int k])) u = some (.tup [.str "t", .int k]) := upd_same
        have p11 := (p8.trans p810).trans (Past.same p10.dice su)
        have kt : Tups H8 (upd H10 u (.tup [.str "t", .int k])) := ((Keep.past p8.dice p810).trans (Keep.same su)).tups
        generalize upd H10 u (.tup [.str "t", .int k]) = H11 at e10 eu p11 kt ⊢
        have kp := KeepP.putL (ys := xs ++ [.ref u]) e10
        refine ⟨xs, e10, big (by omega), past_put nD dD p11, xs ++ [.ref u], ns ++ [k], upd_same, by rw [List.length_append, nsl]; rfl, by rw [List.length_append, xsl]; rfl, fun j hj => ?_, fun j x k' h1 h2 => ?_⟩
        · rcases List.mem_append.mp hj with hj | hj
          · exact nb j hj
          · have : j = k := by simpa using hj
            rw [this]
            exact kb
        · rw [List.getElem?_append] at h1 h2
          by_cases jl : j < i
          · rw [if_pos (by omega)] at h1 h2
            obtain ⟨t', e, et⟩ := at8 j x k' h1 h2
            exact ⟨t', e, kp _ _ (kt _ _ et) (.inr ⟨_, rfl⟩)⟩
          · rw [if_neg (by omega)] at h1 h2
            have e0 : j - xs.length = 0 := by
              have := (List.getElem?_eq_some_iff.mp h1).1
              simp at this
              omega
            rw [xsl] at e0 h1
            rw [nsl] at h2
            rw [e0] at h1 h2
            simp at h1 h2
            subst h1 h2
            exact ⟨u, rfl, kp _ _ eu (.inr ⟨_, rfl⟩)⟩
    obtain ⟨p8, xs, ns, e8, nsl, xsl, nb, at8⟩ := h
    rw [Int.toNat_natCast] at nsl xsl
    have t8 := t7.trans p8
    refine ⟨D, xs, rfl, .inl ⟨.inl (.inl e8), fun sp nsp => ?_⟩⟩
    have s9 := same_new (o := .tup xs) nsp
    have e9 : (upd H8 sp (.tup xs)) sp = some (.tup xs) := upd_same
    have al9 := DtAll.same s9 _ _ (spots_all (by omega) at8)
    have t9 := t8.trans (Past.same t8.dice s9)
    have k79 : Keep H7 (upd H8 sp (.tup xs)) := (Keep.past t7.dice p8).trans (Keep.same s9)
    generalize upd H8 sp (.tup xs) = H9 at s9 e9 al9 t9 k79 ⊢
    have kd9 : Dt H9 (.ref sp) (.tuple (spsD ns)) := .tup e9 al9
    have on9 := stS k79 on7
    have oo9 := stP k79 oo7
    have pg9 := pg.keep (keepP_keep k79) _ _
    clear on7 oo7 e8 at8 p8 s9 k79 e9 al9 nD dD
    have nb60 : ∀ i ∈ ns, i.natAbs < 10 ^ 60 := fun i hi => (poolI_ok i (nb i hi)).1
    have shw := spots_shw nb (by omega)
    have fsp := fine_tup (fine_sps nb60)
    -- bad spots; what repr tells
    refine ⟨_, rfl, _, rfl, d, .ref sp, ns, rfl, t9.dice, kd9, by omega, by omega, nb60, fun vb db H10 p10 bb kb => ?_⟩
    have t10 := t9.trans p10
    have k910 := Keep.past t9.dice p10
    have kd10 := Dt.keep (keeps_keep k910) _ _ (fine_parts fsp).2.1 kd9
    have on10 := stS k910 on9
    have oo10 := stP k910 oo9
    have pg10 := pg9.keep (keepP_keep k910) _ _
    clear on9 oo9 pg9 kd9 p10 k910 pg
    refine ⟨_, rfl, .ref sp, .tuple (spsD ns), rfl, kd10.dp _ _ shw.nd, shw.sh, shw.nd, Nat.lt_of_le_of_lt shw.dp (by decide), zl (Nat.le_trans shw.ln (by decide)), ?_⟩
    refine ⟨_, _, rfl, ?_⟩
    have g10 : Go T d H H10 := Go.past hd ht t10
    have wAsc : ∀ {ws : List Str}, (ws.all fun y => y.cps.toList.all (fun c => decide (c < 128))) = true → ∀ y ∈ ws, Asc y := fun h y hy c hc => of_decide_eq_true (List.all_eq_true.mp (List.all_eq_true.mp h y hy) c hc)
    have w3 : ∀ y ∈ [("scheme" : Str), "scheme", "scheme"], Asc y := wAsc (by decide +kernel)
    have wP : ∀ y ∈ [("fine" : Str), "picture", "picture"], Asc y := wAsc (by decide +kernel)
    have wO : ∀ y ∈ [("fine" : Str), "fine", "operation"], Asc y := wAsc (by decide +kernel)
    have wF : ∀ y ∈ [("fine" : Str), "fine", "fine"], Asc y := wAsc (by decide +kernel)
    have wD : ∀ y ∈ [("fine" : Str), "picture", "fine"], Asc y := wAsc (by decide +kernel)
    let F : Hp → Prop := fun H' => OS H' vn ∧ OP H' vo ∧ Dt H' (.ref sp) (.tuple (spsD ns)) ∧ Dt H' vb db ∧ PicAt H' CP (goodP n m) (.ref xg) ∧ SchemeAt H' C CS sc b ts ds
    have mv : ∀ {H' H'' : Hp}, Keep H' H'' → F H' → F H'' := fun k ⟨q1, q2, q3, q4, q5, q6⟩ => ⟨stS k q1, stP k q2, Dt.keep (keeps_keep k) _ _ (fine_parts fsp).2.1 q3, Dt.keep (keeps_keep k) _ _ (fine_parts bb.1).2.1 q4, q5.keep (keepP_keep k) _ _, q6.keep k⟩
    have F10 : F H10 := ⟨on10, oo10, kd10, kb, pg10, SA.keep (Keep.past hd t10)⟩
    clear on10 oo10 kd10 kb pg10
    -- what the pictures are
    obtain ⟨dd, ef⟩ : ∃ dd, formOf ds n = some dd := by
      cases e : formOf ds n with
      | some dd => exact ⟨dd, rfl⟩
      | none => exact (formOf_none e (List.mem_map.mpr ⟨pr.1, dmem, en⟩)).elim
    obtain ⟨ddm, dde⟩ := formOf_mem ef
    have edd : dd = pr.1 := once_name SA.once ddm dmem (by rw [dde, en])
    have ddl : dd.2.2.length = m := by rw [edd]; omega
    have zf : formOf ds [122, 122] = none := by
      cases e : formOf ds [122, 122] with
      | none => rfl
      | some d2 =>
        obtain ⟨m1, m2⟩ := formOf_mem e
        have := F6.named d2 (pm.mem_iff.mp m1)
        rw [m2] at this
        exact absurd this (by decide +kernel)
    have sgood : sound ds (goodP n m) = true := by rw [sound_good ef, ddl, decide_eq_true rfl]
    have gok := good_ok (n := n) (m := m) wn (by omega) (by omega)
    have glv : (goodP n m).lev < 3 := by rw [good_lev]; decide
    have nsm : ns.length = m := nsl
    have hgood : (goodP n m).holes = m := good_holes
    have sbad : spotsD db (goodP n m).holes = false := by rw [hgood, ← nsm]; exact bb.2.2
    have sgd : spotsD (.tuple (spsD ns)) (goodP n m).holes = true := by
      show ((spsD ns).all spotD && decide ((spsD ns).length = (goodP n m).holes)) = true
      have h1 : (spsD ns).all spotD = true := List.all_eq_true.mpr fun x hx => by
        obtain ⟨k, hk, rfl⟩ := List.mem_map.mp hx
        exact spot_sp (nb60 k hk)
      rw [h1, hgood, decide_eq_true (by simp [spsD, nsm])]
      rfl
    -- not a scheme
    show tSeq _ _ _ _ _
    refine or_asked (T := T) (ta := tCons (tVar 3) (tCons (tVar 4) (tCons (tVar 9) tNil))) t10.dice g10.tabs (Ask.no (v := vo) (s := vb) F10.1) (fun Q q => ⟨_, rfl, _, rfl, _, rfl, q⟩) ydw_rep w3 rfl fun H11 g11 => ?_
    have F11 := mv (go_keep t10.dice g11) F10
    have g11' := g10.trans g11
    clear F10 g10 g11 t10
    refine snd_asked (T := T) g11'.dice g11'.tabs (Ask.no (v := .ref xg) (s := .ref sp) F11.1) (fun Q q => ⟨_, rfl, _, rfl, _, rfl, q⟩) ydw_rep w3 rfl fun H12 g12 => iteF ?_
    have F12 := mv (go_keep g11'.dice g12) F11
    have g12' := g11'.trans g12
    clear F11 g11' g12
    -- not a picture
    show tSeq _ _ _ _ _
    refine or_asked (T := T) (ta := tCons (tVar 2) (tCons (tVar 4) (tCons (tVar 9) tNil))) g12'.dice g12'.tabs (Ask.odd (s := vb) F12.2.2.2.2.2 F12.2.1) (fun Q q => ⟨_, rfl, _, rfl, _, rfl, q⟩) ydw_3 wP rfl fun H13 g13 => ?_
    have F13 := mv (go_keep g12'.dice g13) F12
    have g13' := g12'.trans g13
    clear F12 g12' g13
    refine ⟨_, rfl, _, rfl, .ref sc, vo, rfl, .inr ⟨sc, b, ts, ds, rfl, F13.2.2.2.2.2, .inl ⟨F13.2.1.not VR.nP, false, false, rfl, rfl, false, rfl, iteF ?_⟩⟩⟩
    show tSeq _ _ _ _ _
    refine if_asked (T := T) (ta := tCons (tVar 2) (tCons (tVar 7) (tCons (tVar 9) tNil))) g13'.dice g13'.tabs (Ask.pic F13.2.2.2.2.2 F13.2.2.2.2.1 gok glv F13.2.2.2.1 (fine_parts bb.1).1 bb.2.1) (fun Q q => ⟨_, rfl, _, rfl, _, rfl, q⟩) ydw_3 wO (by rw [if_pos sgood, if_neg (by rw [sbad]; decide)]) fun H14 g14 => ?_
    have F14 := mv (go_keep g13'.dice g14) F13
    have g14' := g13'.trans g14
    clear F13 g13' g14
    show tSeq _ _ _ _ _
    refine if_asked (T := T) (ta := tCons (tVar 2) (tCons (tVar 7) (tCons (tVar 8) tNil))) g14'.dice g14'.tabs (Ask.pic F14.2.2.2.2.2 F14.2.2.2.2.1 gok glv F14.2.2.1 (fine_parts fsp).1 (by show (spsD ns).length ≤ 600; simp [spsD]; omega)) (fun Q q => ⟨_, rfl, _, rfl, _, rfl, q⟩) ydw_rep wF (by rw [if_pos sgood, if_pos sgd]) fun H15 g15 => ?_
    have F15 := mv (go_keep g14'.dice g15) F14
    have g15' := g14'.trans g15
    clear F14 g14' g15
    -- wrong pictures
    have ltz : ("(zz(. .)" : Str).length = 8 := by decide +kernel
    have ldp : (".)" : Str).length = 2 := by decide +kernel
    have lm1 : (mulS (" ." : Str) ((m : Int) - 1)).length ≤ 10 := by
      rcases dots m (by omega) (by omega) with e | e | e <;> rw [e] <;> decide +kernel
    have lm2 : (mulS (". " : Str) (5 - (m : Int))).length ≤ 10 := by
      rcases dots m (by omega) (by omega) with e | e | e <;> rw [e] <;> decide +kernel
    dsimp only [tNext]
    refine asg_at ?_
    refine ⟨_, rfl, _, _, rfl, rfl, zl (by omega), _, rfl, _, _, rfl, rfl, " .", (m : Int) - 1, rfl, rfl, by omega, by omega, by decide +kernel, _, _, rfl, rfl, zl (by rw [lcat]; omega), _, _, rfl, rfl, zl (by rw [lcat, lcat]; omega),
      _, rfl, _, _, rfl, rfl, zl (by omega), _, rfl, _, _, rfl, rfl, ". ", 5 - (m : Int), rfl, rfl, by omega, by omega, by decide +kernel, _, _, rfl, rfl, zl (by rw [lcat]; omega), _, _, rfl, rfl, zl (by rw [lcat, lcat]; omega), by show 4 ≤ sizeLine; decide, fun lt nlt => ?_⟩
    have ezz : pr.1.1 ++ ("(zz(. .)" : Str) ++ mulS (" ." : Str) ((m : Int) - 1) ++ (")" : Str) = S (zzIn n m).cs := by
      rw [en]
      exact zzIn_text (by omega) (by omega)
    have emo : pr.1.1 ++ ("(" : Str) ++ mulS (". " : Str) (5 - (m : Int)) ++ (".)" : Str) = S (goodP n (6 - m)).cs := by
      rw [en]
      exact more_text (by omega) (by omega)
    have ldt : lt ≠ d := g15'.dice.ne nlt
    generalize eH16 : upd H15 lt _ = H16
    have slt : Same H15 H16 := by
      rw [← eH16]
      exact same_new nlt
    have elt : H16 lt = some (.lst [.str ".", .str "zz(. .)", .str (pr.1.1 ++ ("(zz(. .)" : Str) ++ mulS (" ." : Str) ((m : Int) - 1) ++ (")" : Str)), .str (pr.1.1 ++ ("(" : Str) ++ mulS (". " : Str) (5 - (m : Int)) ++ (".)" : Str))]) := by
      rw [← eH16]
      exact upd_same
    have g16 := g15'.thenS slt
    have F16 := mv (Keep.same slt) F15
    clear eH16 F15 g15' nlt
    refine asg_at ⟨_, rfl, _, rfl, d, .ref lt, (fun v => ∃ p : Pic, v = .str (S p.cs) ∧ WrongP ds (goodP n m) p), rfl, g16.dice, .inl ⟨lt, _, rfl, ldt, .inl (.inl (.inl elt)), by simp, by show 4 ≤ 1000000; decide, fun v hv => ?_⟩, fun v H17 p17 hv => ?_⟩
    · have W := wrongs (m := m) wn (by omega) (by omega) ef ddl zf
      simp only [List.mem_cons, List.not_mem_nil, or_false] at hv
      rcases hv with rfl | rfl | rfl | rfl
      · exact ⟨.hole, by rw [hole_text], W _ (by simp)⟩
      · exact ⟨zzP, by rw [zz_text], W _ (by simp)⟩
      · exact ⟨zzIn n m, by rw [ezz], W _ (by simp)⟩
      · exact ⟨goodP n (6 - m), by rw [emo], W _ (by simp)⟩
    obtain ⟨pw, rfl, wok, wlv, wor⟩ := hv
    have F17 := mv (Keep.past g16.dice p17) F16
    have g17 := g16.thenP p17
    clear F16 g16 p17 elt slt
    intro xw dxw nxw ndxw new
    refine ⟨xw, dxw, pw, rfl, upd_same, wok, wlv, by omega, fun H18 b18 pw18 => ⟨rfl, ?_⟩⟩
    have s18 := same_made nxw ndxw b18
    have F18 := mv (Keep.same s18) F17
    have g18 := g17.thenS s18
    clear nxw ndxw new b18 F17 g17 s18
    obtain ⟨xw', dxw', ptw, ntw, wsw, exw, hw1, hw2, hw3, hw4⟩ := pw18.ex
    cases exw
    obtain ⟨xg', dxg', ptg, ntg, wsg, exg, hg1, hg2, hg3, hg4⟩ := F18.2.2.2.2.1.ex
    cases exg
    refine asg_at ?_
    refine ⟨_, rfl, _, rfl, xw, xg, _, _, _, _, rfl, rfl, hw1, hg1, .ref xw, .ref xg, pw, goodP n m, rfl, pw18, F18.2.2.2.2.1, _, rfl, _, rfl, ?_⟩
    refine ite_words ydw_rep ydw_3 (decide (pw.cs = (goodP n m).cs)) fun ld H19 s19 e19 => ?_
    have hh1 := holes_pos pw wok
    have hh2 := holes256 wok (by omega)
    have F19 := mv (Keep.same s19) F18
    have g19 := g18.thenS s19
    have pw19 := pw18.keep (KeepP.of s19) _ _
    have hw19 := s19 _ _ hw1
    have z60 : ∀ i ∈ List.replicate pw.holes (0 : Int), i.natAbs < 10 ^ 60 := fun i hi => by
      rw [(List.mem_replicate.mp hi).2]
      decide
    have fz := fine_tup (fine_sps z60)
    have zlen : (spsD (List.replicate pw.holes 0)).length = pw.holes := by simp [spsD]
    have sz : spotsD (.tuple (spsD (List.replicate pw.holes 0))) pw.holes = true := by
      show ((spsD (List.replicate pw.holes 0)).all spotD && decide ((spsD (List.replicate pw.holes 0)).length = pw.holes)) = true
      have h1 : (spsD (List.replicate pw.holes 0)).all spotD = true := List.all_eq_true.mpr fun x hx => by
        obtain ⟨k, hk, rfl⟩ := List.mem_map.mp hx
        exact spot_sp (z60 k hk)
      rw [h1, decide_eq_true zlen]
      rfl
    generalize ews : (if decide (pw.cs = (goodP n m).cs) = true then [("fine" : Str), "fine", "fine"] else ["fine", "picture", "fine"]) = wz at e19
    have wzA : ∀ y ∈ wz, Asc y := by
      rw [← ews]
      split
      · exact wF
      · exact wD
    have wzE : [("fine" : Str), (if sound ds pw = true then "fine" else "picture"), (if spotsD (.tuple (spsD (List.replicate pw.holes 0))) pw.holes = true then "fine" else "operation")] = wz := by
      rw [← ews, if_pos sz]
      rcases wor with ⟨ec, sw⟩ | ⟨ec, sw⟩
      · rw [decide_eq_true ec, if_pos rfl, if_pos sw]
      · rw [decide_eq_false ec, if_neg Bool.false_ne_true, sw, if_neg Bool.false_ne_true]
    clear ews wor F18 g18 hg1 hg2 hg3 hg4 hw2 hw3 hw4
    show tSeq (tIfS _ _ _) _ _ _ _
    refine if_asked2 (T := T) (sd := .tuple (spsD (List.replicate pw.holes 0))) (ws := wz) (ta := tCons (tVar 2) (tCons (tVar 12) (tCons (tOp (rRep1 K) (tTup (tCons (tTup (tCons (tC (.str "t")) (tCons (tC (.int 0)) tNil))) tNil)) (tPrE CP (spFld CP "_holes") (tVar 12))) tNil))) g19.dice g19.tabs
      (fun s0 H20 sm kd => Ask.pic (F19.2.2.2.2.2.same sm) (pw19.keep (KeepP.of sm) _ _) wok wlv kd (fine_parts fz).1 (by show (spsD (List.replicate pw.holes 0)).length ≤ 600; omega)) (fun Q k => ?_) (fun H1 sm => ydw_var rfl (sm _ _ e19)) wzA wzE fun H20 g20 => ?_
    · refine ⟨_, rfl, _, rfl, by show 2 ≤ sizeLine; decide, fun t1 n1 => ⟨by show 1 ≤ sizeLine; decide, fun t2 n2 => ?_⟩⟩
      have sa := same_new (o := .tup [.str "t", .int 0]) n1
      have sb := same_new (o := .tup [.ref t1]) n2
      have ea : (upd (upd H19 t1 (.tup [.str "t", .int 0])) t2 (.tup [.ref t1])) t1 = some (.tup [.str "t", .int 0]) := sb _ _ upd_same
      have eb : (upd (upd H19 t1 (.tup [.str "t", .int 0])) t2 (.tup [.ref t1])) t2 = some (.tup [.ref t1]) := upd_same
      have sab := sa.trans sb
      generalize upd (upd H19 t1 (.tup [.str "t", .int 0])) t2 (.tup [.ref t1]) = Hb at ea eb sab ⊢
      have kdt : Dt Hb (.ref t1) (spD 0) := .tup ea (.cons (.str _) (.cons (.int _) .nil))
      have hwb := sab _ _ hw19
      refine ⟨_, rfl, xw, _, _, rfl, hwb, xw, _, _, .int (pw.holes : Nat), rfl, hwb, by rfl, t2, (pw.holes : Nat), _, rfl, rfl, .inl (.inl eb), by simp, by omega, by omega, by show 1 ≤ 1000; decide, fun e => ?_, fun e p np => ?_⟩
      · have e1 : pw.holes = 1 := by omega
        refine k _ Hb sab ?_
        rw [zeros, e1]
        exact .tup eb (.cons kdt .nil)
      · rw [rep_flat]
        have sc' := same_new (o := .tup (List.replicate pw.holes (.ref t1))) np
        refine k _ _ (sab.trans sc') ?_
        rw [zeros]
        exact .tup upd_same (DtAll.same sc' _ _ (dt_rep kdt _))
    have F20 := mv (go_keep g19.dice g20) F19
    have g20' := g19.trans g20
    dsimp only [tNext]
    refine ⟨_, rfl, .ref sp, .tuple (spsD ns), rfl, F20.2.2.1.dp _ _ shw.nd, shw.sh, shw.nd, Nat.lt_of_le_of_lt shw.dp (by decide), zl (Nat.le_trans shw.ln (by decide)), _, rfl, rfl, true, by simp, iteT ?_⟩
    refine ⟨_, rfl, _, rfl, .ref sc, .ref xg, rfl, .inr ⟨sc, b, ts, ds, rfl, F20.2.2.2.2.2, .inr ⟨goodP n m, F20.2.2.2.2.1, gok, glv, fun H21 s21 => ⟨_, true, rfl, rfl, ?_⟩⟩⟩⟩
    rw [sgood]
    exact q H21 (g20'.thenS s21)
end
end K12
set_option Elab.async false
set_option linter.all false
set_option autoImplicit false
set_option maxRecDepth 100000
set_option maxHeartbeats 4000000
/-! Rt: t[::-1] of a tuple. -/
namespace Rt
open PySem PySem.Spec PyProof.Rows L2 Vb HT
section
variable {prog : Program} {w : World} {A : Around} {E : Value → Shared → Prop} {s : Shared}
theorem places_rev (n : Nat) : Builtin.Slice.slicePlaces ((n : Int) - 1) (-1) (-1) = n := by
  unfold Builtin.Slice.slicePlaces
  rw [if_neg (by decide)]
  split
  · have e : ((n : Int) - 1 - -1 - 1) / (- -1) + 1 = n := by
      rw [show (- -1 : Int) = 1 from rfl, Int.ediv_one]
      omega
    rw [e]
    rfl
  · have : n = 0 := by omega
    rw [this]
    rfl
theorem fm_congr {α β : Type} {f g : α → Option β} : ∀ {l : List α}, (∀ m ∈ l, f m = g m) → l.filterMap f = l.filterMap g
  | [], _ => rfl
  | y :: l, h => by
    rw [List.filterMap_cons, List.filterMap_cons, h y List.mem_cons_self, fm_congr fun m hm => h m (List.mem_cons_of_mem _ hm)]
theorem pick_rev (xs : Array Value) : ((List.range xs.size).filterMap fun (m : Nat) => xs[(((xs.size : Int) - 1) + (m : Int) * (-1)).toNat]?) = xs.toList.reverse := by
  have e : ∀ m ∈ List.range xs.size, xs[(((xs.size : Int) - 1) + (m : Int) * (-1)).toNat]? = xs.toList.reverse[m]? := fun m hm => by
    have hm' : m < xs.size := List.mem_range.mp hm
    have q : (((xs.size : Int) - 1) + (m : Int) * (-1)).toNat = xs.size - 1 - m := by omega
    rw [q, List.getElem?_reverse (by rw [Array.length_toList]; exact hm'), Array.getElem?_toList, Array.length_toList]
  rw [fm_congr e]
  have hl : xs.size = xs.toList.reverse.length := by rw [List.length_reverse, Array.length_toList]
  rw [hl]
  generalize xs.toList.reverse = l
  induction l with
  | nil => rfl
  | cons y l ih =>
    rw [List.length_cons, List.range_succ_eq_map, List.filterMap_cons]
    simp only [List.getElem?_cons_zero]
    rw [List.filterMap_map]
    show y :: List.filterMap (fun m => (y :: l)[m + 1]?) (List.range l.length) = y :: l
    simp only [List.getElem?_cons_succ]
    rw [ih]
theorem applied_rev {sl : Addr} {vl vu vs : Value} {n : Nat} {Q : Int × Int × Nat → Shared → Prop} (hs : s.heap.IsSliceOf sl vl vu vs) (pl : IsPart vl none) (pu : IsPart vu none) (ps : IsPart vs (some (-1)))
    (h : Q ((n : Int) - 1, -1, n) s) : wpAny (model prog w) A (Builtin.Slice.sliceApplied (.ref sl) (pure (n : Int))) Q E s := by
  obtain ⟨os, hos, hcs, hds⟩ := id hs
  unfold Builtin.Slice.sliceApplied Builtin.Slice.sliceFields
  refine wpAny_bind (wpAny_bind (wpAny_field hos hds (x := vl) rfl (wpAny_bind (wpAny_field hos hds (x := vu) rfl (wpAny_bind (wpAny_field hos hds (x := vs) rfl (wpAny_pure ?_)))))))
  refine wpAny_bind (slicePart_ ps ?_)
  show wpAny _ _ (if ((-1 : Int) == 0) = true then _ else _) _ _ s
  rw [if_neg (by decide)]
  refine wpAny_bind (slicePart_ pl (wpAny_bind (slicePart_ pu (wpAny_bind (wpAny_pure ?_)))))
  show wpAny _ _ (pure (((n : Int) - 1), (-1 : Int), Builtin.Slice.slicePlaces ((n : Int) - 1) (-1) (-1))) _ _ s
  rw [places_rev]
  exact wpAny_pure h
theorem getItem_tuple_rev {t sl : Addr} {items : Array Value} {vl vu vs : Value} {Q : Value → Shared → Prop} (ht : IsTup s.heap t items) (hs : s.heap.IsSliceOf sl vl vu vs) (pl : IsPart vl none) (pu : IsPart vu none) (ps : IsPart vs (some (-1)))
    (h : Q (.ref s.heap.objs.size) { s with heap := s.heap.push { cls := .type "tuple", data := .seq items.toList.reverse.toArray } })
    (hsz : items.size ≤ sizeLine) : wpAny (model prog w) A (getItem (.ref t) (.ref sl)) Q E s := by
  have htake : sizeOk (.seq items.toList.reverse.toArray) := by
    show items.toList.reverse.toArray.size ≤ sizeLine
    rw [List.size_toArray, List.length_reverse, Array.length_toList]
    exact hsz
  obtain ⟨os, hos, hcs, hds⟩ := id hs
  have hTs : s.TypeIs (.ref sl) "slice" := ⟨os, hos, hcs⟩
  unfold getItem
  try with_reducible refine wpAny_holding ?_
  first | refine wpAny_bind (wpAny_pure ?_) | skip
  refine wpAny_bind (wpAny_sequenceKey ht.typeIs (by decide) ?_)
  refine wpAny_bind (wpAny_callSpecial?_slot (name := Str.ofString "__getitem__") ht.typeIs PyProof.Rows.slot_tuple_getitem
    (wpAny_call_entry PyProof.Rows.slot_tuple_getitem ht.typeIs entry_tuple_getitem ?_ (args_tuple_getitem _ _)))
  show wpAny _ _ (Builtin.Tuple.tupleItemsOf (.ref t) >>= _) _ _ s
  refine wpAny_bind (tupleItemsOf_ ht ?_)
  refine wpAny_bind (wpAny_typeOf hTs ?_)
  rw [if_pos (by decide)]
  refine wpAny_bind (applied_rev hs pl pu ps ?_)
  have hno : ¬ ((((items.size : Int) - 1 == 0) && ((-1 : Int) == 1) && (items.size == items.size)) = true) := by
    rw [show ((-1 : Int) == 1) = false from rfl, Bool.and_false, Bool.false_and]
    exact Bool.false_ne_true
  show wpAny _ _ (if ((((items.size : Int) - 1 == 0) && ((-1 : Int) == 1) && (items.size == items.size)) = true) then _ else _) _ _ s
  rw [if_neg hno, pick_rev]
  first
    | exact wpAny_bind (m := Builtin.Tuple.tupleExact _) (wpAny_newObj_type (wpAny_pure ⟨_, rfl, wpAny_pure h⟩) htake)
    | exact wpAny_bind (m := Builtin.Tuple.tupleExact _) (wpAny_newObj_type (wpAny_bind (wpAny_pure (wpAny_pure ⟨_, rfl, wpAny_pure h⟩))) htake)
    | exact wpAny_bind (wpAny_bind (m := Builtin.Tuple.tupleExact _) (wpAny_newObj_type (wpAny_pure (wpAny_pure ⟨_, rfl, wpAny_pure h⟩)) htake))
    | exact wpAny_bind (wpAny_bind (m := Builtin.Tuple.tupleExact _) (wpAny_newObj_type (wpAny_pure ⟨_, rfl, wpAny_pure h⟩) htake))
end
section
variable {X : Cx}
/-- t[::-1] -/
def tRevT (K : PySem.W.Frag) (te : TE) : TE := fun σ H Q => te σ H fun x H1 => ∃ a xs, x = .ref a ∧ SqT K H1 a xs ∧ ∀ p, H1 p = none → Q (.ref p) (upd H1 p (.tup xs.reverse))
theorem pe_revT {K : PySem.W.Frag} {e : Expr} {te : TE} {k : Nat} {p1 p2 p3 pos : Pos} (hK : X.K = K) (he : PE X e te) : PE X (.Subscript e (.Slice none none (some (.UnaryOp .USub (.Constant (.int 1) k p1) p2)) p3) pos) (tRevT K te) := by
  subst hK
  refine ⟨fun pins s σ H Q I h => ?_⟩
  refine Subscript_ (thn (he.run pins s σ H _ I h) fun v s1 ⟨x, H1, I1, r1, q1⟩ => ?_)
  obtain ⟨a, xs, ex, hx, q⟩ := q1
  subst ex
  cases r1
  have hst : PO X (some (.UnaryOp .USub (.Constant (.int 1) k p1) p2)) (tPart (tUn (rU fun i => .int (-i)) (tC (.int 1)))) := po_some (pe_un un_neg pe_int)
  refine wpAny_Slice (thn (po_none.run pins s1 σ H1 (fun o H2 => o = none ∧ H2 = H1) I1 ⟨rfl, rfl⟩) fun vl s2 ⟨l, H2, I2, pl, el, e2⟩ => ?_)
  subst el e2
  refine thn (po_none.run pins s2 σ H2 (fun o H3 => o = none ∧ H3 = H2) I2 ⟨rfl, rfl⟩) fun vu s3 ⟨u, H3, I3, pu, eu, e3⟩ => ?_
  subst eu e3
  refine thn (hst.run pins s3 σ H3 (fun o H4 => o = some (-1) ∧ H4 = H3) I3 ⟨1, rfl, -1, rfl, rfl, rfl⟩) fun vs s4 ⟨o, H4, I4, ps, eo, e4⟩ => ?_
  subst eo e4
  have I5 : Inv X pins σ H4 { s4 with heap := s4.heap.push { cls := .type "slice", data := .fields #[vl, vu, vs] } } := I4.kept (t' := s4.toks) fun b ob q => Heap.get?_push_of_some _ q
  obtain ⟨its, r, ht, hz⟩ := I5.tuple hx
  have hlen : its.toArray.size = xs.length := by rw [List.size_toArray]; exact r.length.symm
  show wpAny (model X.prog X.w) X.A (subscriptTail e (.Slice none none (some (.UnaryOp .USub (.Constant (.int 1) k p1) p2)) p3) (.ref a) (.ref s4.heap.objs.size)) (EP X pins σ Q) X.xe { s4 with heap := s4.heap.push { cls := .type "slice", data := .fields #[vl, vu, vs] } }
  refine tail_any (ops := [.ref a, .ref s4.heap.objs.size]) ht.typeIs (PyProof.Rows.slot_tuple_getitem.lookup) ?_ (by with_unfolding_all rfl)
  refine getItem_tuple_rev ht (Heap.IsSliceOf.new _ vl vu vs) pl pu ps ?_ (by rw [hlen]; exact hz)
  refine ⟨.ref _, _, I5.laid (t' := s4.toks) (o := .tup xs.reverse) (fun b ob q => Heap.get?_push_of_some _ q) (Nat.le_refl _) ?_, rfl, q _ (I5.hok.fresh (Nat.le_refl _))⟩
  exact ⟨by rw [List.length_reverse]; exact hz, _, r.reverse, IsTup.new _ _⟩
end
end Rt
set_option Elab.async false
set_option linter.all false
set_option autoImplicit false
set_option maxRecDepth 100000
set_option maxHeartbeats 4000000
namespace K12
open PySem PySem.Spec PyProof.Rows L2 Vb Wd Xd Xo Xi Xm Xr Xv Ts K01 Oq Oi Zt Zk Zs Rl Rd Ed Rt
theorem big300 {n : Nat} (h : n ≤ 300) : n < sizeLine := Nat.lt_of_le_of_lt h (by decide)
theorem big300' {n : Nat} (h : n ≤ 300) : n ≤ sizeLine := Nat.le_of_lt (big300 h)
/-! ### a scheme made of what stands there -/
abbrev TopsF (ys : List Str) : Prop := (∀ y ∈ ys, Fine y) ∧ ys.length ≤ 60 ∧ (ys.all nam && asc ys) = true
theorem mk_scheme {K : PySem.W.Frag} {C CS CI x dx f t : Addr} {b : Str} {ys : List Str} {fs : List Addr} {ds : List FD} {H : Hp} {Q : VK} {E : XK} (nx : H x = none) (ndx : H dx = none) (ne : dx ≠ x) (ht : H t = some (.tup (ys.map V.str))) (hf : H f = some (.tup (fs.map V.ref))) (FF : Forms H C fs ds) (tops : TopsF ys) (few : ds.length ≤ 40) (l64 : (dd (ys ++ said ds)).length < 64)
    (nams : ∀ d ∈ ds, isNam (.str d.1) = true ∧ isNam (.str d.2.1) = true)
    (ok : schB (.str b) (some ys) ds = true → ∀ ds' H', Same H H' → SchemeAt H' C CS x b ys ds' → ds'.Perm ds → Q (.ref x) H') (err : schB (.str b) (some ys) ds = false → ∀ H', Same H H' → E (.ref CI) none H') :
    spInitS K C CS CI [.ref x, .str b, .ref t, .ref f] (upd (upd H dx (.own x)) x (.ins CS dx [])) (fun v H2 => v = .non ∧ Q (.ref x) H2) E := by
  have s5 := (same_new (o := .own x) ndx).trans (same_new (o := .ins CS dx []) (by rw [upd_ne ne.symm]; exact nx))
  obtain ⟨fy, ly, ny⟩ := tops
  have FF5 : Forms (upd (upd H dx (.own x)) x (.ins CS dx [])) C fs ds := ⟨FF.len, fun j x' d' h1 h2 => by
    obtain ⟨ch, ks, FA⟩ := FF.at_ j x' d' h1 h2
    exact ⟨ch, ks, FA.sm s5⟩⟩
  refine ⟨x, dx, f, .str b, .ref t, some ys, fs, ds, dd (ys ++ said ds), rfl, upd_same, ⟨rfl, ⟨t, rfl, s5 _ _ ht, fy, ly, ny⟩, s5 _ _ hf, FF5, by have := FF.len; omega, fun ys' e y hy => ?_, l64, nams⟩, fun b' ys' eb ey e H6 ds' bt SA pm => ⟨rfl, ?_⟩, fun e H' s' => err e H' (s5.trans s')⟩
  · cases e
    exact (mem_dd _ y).mpr hy
  · cases eb
    cases ey
    exact ok e ds' H6 (fun b' o' h' => bt _ _ (ne_of_none h' nx) (s5 _ _ h')) SA pm
theorem SchOk.l64 {b : Str} {ts : List Str} {rows : List FD} (S : SchOk b ts rows) : (dd (ts ++ said rows)).length < 64 := by
  have := S.parts.2.2.1
  omega
/-- .. that is one -/
theorem mk_ok {K : PySem.W.Frag} {C CS CI x dx f t : Addr} {b : Str} {ys : List Str} {fs : List Addr} {ds : List FD} {H : Hp} {Q : VK} {E : XK} (O : SchOk b ys ds) (nx : H x = none) (ndx : H dx = none) (ne : dx ≠ x) (ht : H t = some (.tup (ys.map V.str))) (hf : H f = some (.tup (fs.map V.ref))) (FF : Forms H C fs ds)
    (ok : ∀ ds' H', Same H H' → SchemeAt H' C CS x b ys ds' → ds'.Perm ds → Q (.ref x) H') :
    spInitS K C CS CI [.ref x, .str b, .ref t, .ref f] (upd (upd H dx (.own x)) x (.ins CS dx [])) (fun v H2 => v = .non ∧ Q (.ref x) H2) E :=
  mk_scheme nx ndx ne ht hf FF O.tops (by have := O.parts.2.1.2; omega) O.l64 O.nams (fun _ => ok) fun e => by
    rw [O.sch] at e
    cases e
end K12
set_option Elab.async false
set_option linter.all false
set_option autoImplicit false
set_option maxRecDepth 100000
set_option maxHeartbeats 8000000
namespace K12
open PySem PySem.Spec PyProof.Rows L2 Vb Wd Rd Xd Xe Xl Xu Xg Xo Xv Xq LamX Oe Of Og Oh Ow SX Pc Ms Oy Zt
abbrev s_law : Stmt := topS 59
abbrev nL : List Str := ["_law_script", "_law_spot", "_law_dice_here", "_law_plain", "_law_turn", "_law_texts", "_law_told", "_law_scheme_here", "_law_text"]
theorem sc_law : FnScope nL ["_law_script"] (defScope s_law) := ⟨rfl, rfl, rfl, by decide +kernel, rfl, by decide +kernel, by decide +kernel⟩
def spLaw (K : PySem.W.Frag) (T : List (Addr × Str)) : Sp := fun vs H Q _ => ∃ (a : Addr) (ns : List Int), vs = [.ref a] ∧ SqL K H a (ns.map V.int) ∧ ns.length ≤ 63 ∧ Tabs T H ∧ ∀ H', Q (.bl true) H'
theorem seq_same {K : PySem.W.Frag} {a : Addr} {xs : List V} {H H' : Hp} (s : Same H H') (h : SqL K H a xs) : SqL K H' a xs := by
  rcases h with (h | ⟨ob, h⟩) | h
  · exact .inl (.inl (s _ _ h))
  · exact .inl (.inr ⟨ob, s _ _ h⟩)
  · exact .inr h
/-- what the law's own lambda asks -/
def tL (K : PySem.W.Frag) (C CS CP CI CIP : Addr) : XK → TE := fun E => tCE (spSpotsOf K C CS CP CI CIP 3) E (tCons (tVar 7) (tCons (tMaE CP (spInitP CP 3) (fun _ _ _ => False) (tCons (tVar 8) tNil)) tNil))
def dA : FD := ("a", "t", [("t", 1), ("t", 1)])
def dB : FD := ("b", "u", [("t", 1), ("u", 1)])
def asks : List Pic := [.node [97] [.node [97] [.hole, .hole], .hole], .node [97] [.node [98] [.hole, .hole], .hole], .node [97] [.hole, .hole, .hole], .node [98] [.hole, .hole], .node [98] [.hole, .node [98] [.hole, .hole]], .node [98] [.node [98] [.hole, .hole], .hole], .hole]
def askT : List Str := ["a(a(. .) .)", "a(b(. .) .)", "a(. . .)", "b(. .)", "b(. b(. .))", "b(b(. .) .)", "."]
def askW : List Str := ["fine", "picture", "picture", "fine", "fine", "picture", "picture"]
theorem asks_facts : askT = asks.map (fun p => S p.cs) := by decide +kernel
theorem asks_ok : ∀ p ∈ asks, p.Ok ∧ p.lev < 3 := by
  have wa : word [97] := ⟨by decide, by decide, by decide⟩
  have wb : word [98] := ⟨by decide, by decide, by decide⟩
  have hh : ∀ p ∈ [Pic.hole, Pic.hole], p.Ok := fun p hp => by
    simp at hp
    rw [hp]
    exact trivial
  have oa : (Pic.node [97] [.hole, .hole]).Ok := ok_mk wa (by decide) (by decide) hh
  have ob : (Pic.node [98] [.hole, .hole]).Ok := ok_mk wb (by decide) (by decide) hh
  have two : ∀ {p q : Pic}, p.Ok → q.Ok → ∀ x ∈ [p, q], x.Ok := fun {p q} h1 h2 x hx => by
    rcases List.mem_cons.mp hx with rfl | hx
    · exact h1
    · have : x = q := by simpa using hx
      rw [this]
      exact h2
  intro p hp
  simp only [asks, List.mem_cons, List.not_mem_nil, or_false] at hp
  rcases hp with rfl | rfl | rfl | rfl | rfl | rfl | rfl
  · exact ⟨ok_mk wa (by decide) (by decide) (two oa trivial), by decide⟩
  · exact ⟨ok_mk wa (by decide) (by decide) (two ob trivial), by decide⟩
  · refine ⟨ok_mk wa (by decide) (by decide) fun p hp => ?_, by decide⟩
    simp at hp
    rw [hp]
    exact trivial
  · exact ⟨ob, by decide⟩
  · exact ⟨ok_mk wb (by decide) (by decide) (two trivial ob), by decide⟩
  · exact ⟨ok_mk wb (by decide) (by decide) (two ob trivial), by decide⟩
  · exact ⟨trivial, by decide⟩
theorem asks_words {ds : List FD} (pm : ds.Perm [dA, dB]) : asks.map (fun p => if sound ds p = true then ("fine" : Str) else "picture") = askW := by
  have h : ds = [dA, dB] ∨ ds = [dB, dA] := by
    have l := pm.length_eq
    match ds, l with
    | [x, y], _ =>
      have hx : x = dA ∨ x = dB := by simpa using pm.mem_iff.mp (List.mem_cons_self (a := x) (l := [y]))
      have hA : dA ∈ [x, y] := pm.mem_iff.mpr (by simp)
      have hB : dB ∈ [x, y] := pm.mem_iff.mpr (by simp)
      have ne : dA ≠ dB := by decide +kernel
      rcases hx with rfl | rfl
      · have : y = dB := by
          rcases List.mem_cons.mp hB with e | e
          · exact (ne e.symm).elim
          · exact (by simpa using e : dB = y).symm
        exact .inl (by rw [this])
      · have : y = dA := by
          rcases List.mem_cons.mp hA with e | e
          · exact (ne e).elim
          · exact (by simpa using e : dA = y).symm
        exact .inr (by rw [this])
  rcases h with rfl | rfl <;> decide +kernel
theorem law_schOk : SchOk "t" ["t"] [dA, dB] := by
  refine ⟨by decide +kernel, ?_, ?_⟩
  · intro r hr
    simp only [List.mem_cons, List.not_mem_nil, or_false] at hr
    rcases hr with rfl | rfl <;> exact ⟨by decide +kernel, by decide +kernel⟩
  · refine ⟨fun y hy => ?_, by decide, by decide +kernel⟩
    have : y = "t" := by simpa using hy
    rw [this]
    exact ⟨by decide +kernel, fun c hc => by
      have e : ("t" : Str).cps.toList = [116] := by decide +kernel
      rw [e] at hc
      have : c = 116 := by simpa using hc
      omega⟩
theorem mk_okH {K : PySem.W.Frag} {C CS CI x dx f t : Addr} {b : Str} {ys : List Str} {fs : List Addr} {ds : List FD} {H : Hp} {Q : Hp → Prop} {E : XK} (O : SchOk b ys ds) (nx : H x = none) (ndx : H dx = none) (ne : dx ≠ x) (ht : H t = some (.tup (ys.map V.str))) (hf : H f = some (.tup (fs.map V.ref))) (FF : Forms H C fs ds)
    (ok : ∀ ds' H', Same H H' → SchemeAt H' C CS x b ys ds' → ds'.Perm ds → Q H') :
    spInitS K C CS CI [.ref x, .str b, .ref t, .ref f] (upd (upd H dx (.own x)) x (.ins CS dx [])) (fun v H2 => v = .non ∧ Q H2) E :=
  mk_ok (Q := fun _ H2 => Q H2) O nx ndx ne ht hf FF ok
theorem two_kids {H : Hp} {ch u1 u2 : Addr} {n1 n2 : Str} {s1 s2 : Int} (hc : H ch = some (.tup [.ref u1, .ref u2])) (h1 : H u1 = some (.tup [.str n1, .int s1])) (h2 : H u2 = some (.tup [.str n2, .int s2])) (k1 : isNam (.str n1) = true) (k2 : isNam (.str n2) = true) (b1 : 0 ≤ s1 ∧ s1 ≤ 3) (b2 : 0 ≤ s2 ∧ s2 ≤ 3) : Kids H ch [u1, u2] [(n1, s1), (n2, s2)] := by
  have l1 := (nam_len k1).2.1
  have l2 := (nam_len k2).2.1
  refine ⟨hc, rfl, by show 2 ≤ 2; decide, by show 2 ≤ 4; decide, fun i t c e1 e2 => ?_⟩
  match i, e1, e2 with
  | 0, e1, e2 =>
    cases e1
    cases e2
    exact ⟨h1, k1, ⟨show n1.length ≤ 1000 by omega, nam_asc k1⟩, b1.1, b1.2⟩
  | 1, e1, e2 =>
    cases e1
    cases e2
    exact ⟨h2, k2, ⟨show n2.length ≤ 1000 by omega, nam_asc k2⟩, b2.1, b2.2⟩
  | i + 2, e1, e2 => simp at e1
section
variable {P : Program} {w : World} {K : PySem.W.Frag} {mg : Str → Option Value} {base : Heap} {C CS CP CI CIP CO : Addr}
theorem ok_law {f c Pt : Addr} {fd : FuncData} {T : List (Addr × Str)} (F : FunC K "law" "law" s_law f fd (.ref c)) (V8 : Env8 P w K mg base C CS CP CI CIP CO) (VF : EnvF P w K mg base C) (VS : EnvS P w K mg base C CS CI) (VQ : EnvQ P w K mg base CP) (FP : FnG P w K mg base 10 VQ.fI VQ.fdI ["self", "text"] (spInitP CP 3)) (TB : TabB base mg c Pt) (hmT : (Pt, ("law.<locals>.<lambda>" : Str)) ∈ T) (hu : ∀ p ∈ T, p.1 = Pt → p.2 = "law.<locals>.<lambda>")
    (G_l_dice : Cg P w K mg base 1 "_law_dice" (spDice K)) (G_l_scheme : Cg P w K mg base 4 "_law_scheme" spLS) (G_l_made_scheme : Cg P w K mg base 8 "_law_made_scheme" (spMS C CS)) (G_l_right : Cg P w K mg base 21 "_law_right" (spRight C CS T))
    (z_range : mg "range" = none) (z_max : mg "max" = none) (z_min : mg "min" = none) (z_len : mg "len" = none) : FnG P w K mg base 22 f fd ["_law_script"] (spLaw K T) := by
  refine goes_byC F sc_law (fun vs H Q E h => ?_) (fun A outer s H vs Q E hc hr h => ?_)
  · obtain ⟨a, ns, rfl, _⟩ := h
    rfl
  · obtain ⟨a, ns, rfl, hS, hl, ht, q⟩ := h
    refine ⟨_, (pss_cons (ps_for PassesOwn.never rfl (pi_range1 (by rfl) z_range (pa_cons (pe_callB (call_max2 rfl) (by rfl) z_max (by decide +kernel) (pa_cons pe_int (pa_cons (pe_callB (call_min2 rfl) (by rfl) z_min (by decide +kernel) (pa_cons pe_int (pa_cons (pe_callB call_len_seq (by rfl) z_len PySem.boot_len (pa_cons (pv 0) pa_nil)) pa_nil))) pa_nil))) pa_nil)) (pg_name (i := 1) sc_law.nd rfl (Or.inl rfl))
      (pss_cons (ps_set (i := 2) sc_law.nd rfl (Or.inl rfl) (pe_cg G_l_dice hc hr (by rfl) (pa_cons (pv 0) (pa_cons (pv 1) pa_nil))))
      (pss_cons (ps_set (i := 3) sc_law.nd rfl (Or.inl rfl) (pe_cg G_l_scheme hc hr (by rfl) (pa_cons (pv 2) (pa_cons pe_int (pa_cons pe_int pa_nil)))))
      (pss_cons (ps_set (i := 7) sc_law.nd rfl (Or.inr rfl) (pe_cg G_l_made_scheme hc hr (by rfl) (pa_cons (pv 3) pa_nil)))
      (pss_one (ps_for PassesOwn.never rfl (pi_range1 (by rfl) z_range (pa_cons pe_int pa_nil)) (pg_name (i := 4) sc_law.nd rfl (Or.inl rfl))
      (pss_one (ps_if (pt_not (pt_val (pe_cg G_l_right hc hr (by rfl) (pa_cons (pv 2) (pa_cons (pv 3) (pa_cons (pv 7) pa_nil))))))
      (pss_one (ps_ret pe_bl))
      pss_nil))))))))
      (pss_cons (ps_set (i := 7) sc_law.nd rfl (Or.inr rfl) (pe_makeE (E := fun _ _ _ => False) (W := fun _ _ _ _ => False) VS.M VS.FI hc (hr.mono (by decide)) (by rfl) VS.g VS.bI LamX.takes0 (fun _ _ _ _ z => z) (pa_cons pe_str (pa_cons (pe_tup (pa_cons pe_str pa_nil)) (pa_cons (pe_tup (pa_cons (pe_makeE (E := fun _ _ _ => False) (W := fun _ _ _ _ => False) VF.M (FnE.of VF.FI) hc (hr.mono (by decide)) (by rfl) VF.g VF.bI LamX.takes0 (fun _ _ _ _ z => z) (pa_cons pe_str (pa_cons pe_str (pa_cons (pe_tup (pa_cons (pe_tup (pa_cons pe_str (pa_cons pe_int pa_nil))) (pa_cons (pe_tup (pa_cons pe_str (pa_cons pe_int pa_nil))) pa_nil))) pa_nil)))) (pa_cons (pe_makeE (E := fun _ _ _ => False) (W := fun _ _ _ _ => False) VF.M (FnE.of VF.FI) hc (hr.mono (by decide)) (by rfl) VF.g VF.bI LamX.takes0 (fun _ _ _ _ z => z) (pa_cons pe_str (pa_cons pe_str (pa_cons (pe_tup (pa_cons (pe_tup (pa_cons pe_str (pa_cons pe_int pa_nil))) (pa_cons (pe_tup (pa_cons pe_str (pa_cons pe_int pa_nil))) pa_nil))) pa_nil)))) pa_nil))) pa_nil)))))
      (pss_cons (ps_set (i := 5) sc_law.nd rfl (Or.inl rfl) (pe_lst (pa_cons pe_str (pa_cons pe_str (pa_cons pe_str (pa_cons pe_str (pa_cons pe_str (pa_cons pe_str (pa_cons pe_str pa_nil)))))))))
      (pss_cons (ps_setLc (i := 6) (own := [("_law_text", 8)]) (g := gName 8) (by rfl) sc_law.nd rfl rfl (sw_true rfl rfl rfl (by decide +kernel)) (pi_list (pv 5)) (blkOk_by (own := [("_law_text", 8)]) (N := nL) (sc := defScope s_law) (by decide +kernel)) (fun _ _ _ _ _ => pg_name (i := 8) sc_law.nd rfl (Or.inr rfl)) (fun _ _ _ _ _ => pts_nil) (fun _ _ _ _ _ => (pe_said V8 (T := T) (t := tL K C CS CP CI CIP) hc (hr.mono (by decide)) (by rfl) TB rfl hmT hu (show LamS (relS _ (defScope s_law)) _ from lamS_by (by decide +kernel)) rfl (fun _ _ _ _ _ => rfl)
          (fun A' outer' s' H' E' f' c' hc' hr' => (pe_cgE (E := E') V8.G_spots (hc'.deep _) hr' (by rfl) (takes_of rfl rfl rfl rfl) (fun _ _ _ _ z => z) (pa_cons (pv 7) (pa_cons (pe_makeE (E := fun _ _ _ => False) (W := fun _ _ _ _ => False) VQ.M (FnE.of FP) (hc'.deep _) (hr'.mono (by decide)) (by rfl) VQ.g VQ.bI LamX.takes0 (fun _ _ _ _ z => z) (pa_cons (pv 8) pa_nil)) pa_nil)))))))
      (pss_one (ps_ret (pe_cmpR (op_eqD hr.units) (pv 6) (pe_lst (pa_cons pe_str (pa_cons pe_str (pa_cons pe_str (pa_cons pe_str (pa_cons pe_str (pa_cons pe_str (pa_cons pe_str pa_nil)))))))) (nomark _)))))))), ?_⟩
    refine ⟨_, rfl, a, _, rfl, .inl hS, _, _, rfl, _, _, rfl, _, rfl, ?_, ?_, for_range (lo := 0) (fun i σ H' => (∃ o1 o2 o3 o4 o5 o6 o7 o8, σ = [some (.ref a), o1, o2, o3, o4, o5, o6, o7, o8]) ∧ SqL K H' a (ns.map V.int) ∧ Tabs T H') ⟨⟨none, none, none, none, none, none, none, none, rfl⟩, hS, ht⟩ ?_ ?_⟩
    · rw [List.length_map]
      split <;> split <;> omega
    · rw [List.length_map]
      split <;> split <;> omega
    · rintro i σ H0 hi ⟨⟨o1, o2, o3, o4, o5, o6, o7, o8, rfl⟩, hS', ht'⟩
      refine ⟨_, rfl, _, rfl, a, ns, _, rfl, hS', by omega, fun d g s nd => ?_⟩
      have sn := same_new (o := dz g s 0) nd
      have dd : Dice (upd H0 d (dz g s 0)) d := ⟨g, s, 0, upd_same⟩
      have tn := ht'.ext sn
      have aS : ∀ H', Go T d (upd H0 d (dz g s 0)) H' → SqL K H' a (ns.map V.int) := fun H' gg => by
        rcases hS' with (h | ⟨ob, h⟩) | h
        · exact gg.seq (ne_of_none h nd) (.inl (.inl (sn _ _ h)))
        · exact gg.seq (ne_of_none h nd) (.inl (.inr ⟨ob, sn _ _ h⟩))
        · exact .inr h
      generalize upd H0 d (dz g s 0) = H1 at sn dd tn aS ⊢
      refine ⟨.ref d, rfl, d, 3, 5, rfl, dd, by decide, by decide, by decide, by decide, fun p tl tb b ts ps H2 p2 np pd X F6 few => ?_⟩
      have g2 : Go T d H1 H2 := Go.past dd tn p2
      refine ⟨.ref p, rfl, p, tl, tb, b, ts, ps, rfl, X, F6.ok (by rw [List.length_map]; omega), fun sc ds H3 s3 S pm => ?_⟩
      have g3 := g2.thenS s3
      have X3 := X.same s3
      refine ⟨4, rfl, by decide, by decide, for_range (lo := 0) (n := 4) (fun j σ H' => (∃ o1 o4 o5 o6 o8, σ = [some (.ref a), o1, some (.ref d), some (.ref p), o4, o5, o6, some (.ref sc), o8]) ∧ Go T d H1 H' ∧ Held H' p tl tb b ts ps ∧ SchemeAt H' C CS sc b ts ds) ⟨⟨_, _, _, _, _, rfl⟩, g3, X3, S⟩ ?_ ?_⟩
      · rintro j σ H4 hj ⟨⟨o1, o4, o5, o6, o8, rfl⟩, g4, X4, S4⟩
        refine ⟨.ref d, rfl, .ref p, rfl, .ref sc, rfl, d, p, tl, tb, sc, b, ts, ps, ds, rfl, g4.dice, g4.tabs, X4, F6, by omega, S4, pm, fun H5 g5 => ⟨_, rfl, iteF ?_⟩⟩
        have k5 := go_keep g4.dice g5
        exact ⟨⟨_, _, _, _, _, rfl⟩, g4.trans g5, X4.keep k5, S4.keep k5⟩
      · rintro σ H4 ⟨⟨o1, o4, o5, o6, o8, rfl⟩, g4, X4, S4⟩
        exact ⟨⟨_, _, _, _, _, _, _, _, rfl⟩, aS _ g4, g4.tabs⟩
    · rintro σ H' ⟨⟨o1, o2, o3, o4, o5, o6, o7, o8, rfl⟩, hS', ht'⟩
      clear hS hS' ht hl
      dsimp only
      refine asg_at ?_
      refine ⟨by show 1 ≤ sizeLine; decide, fun tt ntt => ?_⟩
      have st0 := same_new (o := .tup [.str "t"]) ntt
      have et0 : (upd H' tt (.tup [.str "t"])) tt = some (.tup [.str "t"]) := upd_same
      have ht1 := ht'.ext st0
      generalize upd H' tt (.tup [.str "t"]) = H1 at st0 et0 ht1 ⊢
      -- the first form
      refine ⟨by show 2 ≤ sizeLine; decide, fun u1 n1 => ⟨by show 2 ≤ sizeLine; decide, fun u2 n2 => ⟨by show 2 ≤ sizeLine; decide, fun ch nch => ?_⟩⟩⟩
      have sa1 := same_new (o := .tup [.str "t", .int 1]) n1
      have sa2 := same_new (o := .tup [.str "t", .int 1]) n2
      have sa3 := same_new (o := .tup [.ref u1, .ref u2]) nch
      have ka := two_kids (n1 := "t") (n2 := "t") (s1 := 1) (s2 := 1) (H := upd (upd (upd H1 u1 (.tup [.str "t", .int 1])) u2 (.tup [.str "t", .int 1])) ch (.tup [.ref u1, .ref u2])) upd_same (sa3 _ _ (sa2 _ _ upd_same)) (sa3 _ _ upd_same) (by decide +kernel) (by decide +kernel) (by decide) (by decide)
      have s2 := (sa1.trans sa2).trans sa3
      have et2 := s2 _ _ et0
      have ht2 := ht1.ext s2
      generalize upd (upd (upd H1 u1 (.tup [.str "t", .int 1])) u2 (.tup [.str "t", .int 1])) ch (.tup [.ref u1, .ref u2]) = H2 at ka s2 et2 ht2 ⊢
      clear sa1 sa2 sa3 n1 n2 nch s2 et0 ht1 st0 ntt
      intro xa dxa nxa ndxa nea
      refine made_form (n := "a") (so := "t") (by decide +kernel) (by decide +kernel) ka nxa ndxa nea fun H3 s3 FA => ⟨rfl, ?_⟩
      have et3 := s3 _ _ et2
      have ht3 := ht2.ext s3
      clear nxa ndxa nea ka et2 ht2
      -- the second
      refine ⟨by show 2 ≤ sizeLine; decide, fun v1 m1 => ⟨by show 2 ≤ sizeLine; decide, fun v2 m2 => ⟨by show 2 ≤ sizeLine; decide, fun ch2 nch2 => ?_⟩⟩⟩
      have sb1 := same_new (o := .tup [.str "t", .int 1]) m1
      have sb2 := same_new (o := .tup [.str "u", .int 1]) m2
      have sb3 := same_new (o := .tup [.ref v1, .ref v2]) nch2
      have kb := two_kids (n1 := "t") (n2 := "u") (s1 := 1) (s2 := 1) (H := upd (upd (upd H3 v1 (.tup [.str "t", .int 1])) v2 (.tup [.str "u", .int 1])) ch2 (.tup [.ref v1, .ref v2])) upd_same (sb3 _ _ (sb2 _ _ upd_same)) (sb3 _ _ upd_same) (by decide +kernel) (by decide +kernel) (by decide) (by decide)
      have s4 := (sb1.trans sb2).trans sb3
      have et4 := s4 _ _ et3
      have ht4 := ht3.ext s4
      have FA4 := FA.sm s4
      generalize upd (upd (upd H3 v1 (.tup [.str "t", .int 1])) v2 (.tup [.str "u", .int 1])) ch2 (.tup [.ref v1, .ref v2]) = H4 at kb s4 et4 ht4 FA4 ⊢
      clear sb1 sb2 sb3 m1 m2 nch2 s4 et3 ht3 FA
      intro xb dxb nxb ndxb neb
      refine made_form (n := "b") (so := "u") (by decide +kernel) (by decide +kernel) kb nxb ndxb neb fun H5 s5 FB => ⟨rfl, ?_⟩
      have et5 := s5 _ _ et4
      have ht5 := ht4.ext s5
      have FA5 := FA4.sm s5
      clear nxb ndxb neb kb et4 ht4 FA4
      refine ⟨by show 2 ≤ sizeLine; decide, fun ff nff => ?_⟩
      have s6 := same_new (o := .tup [.ref xa, .ref xb]) nff
      have ef6 : (upd H5 ff (.tup [.ref xa, .ref xb])) ff = some (.tup [.ref xa, .ref xb]) := upd_same
      have et6 := s6 _ _ et5
      have ht6 := ht5.ext s6
      have FA6 := FA5.sm s6
      have FB6 := FB.sm s6
      generalize upd H5 ff (.tup [.ref xa, .ref xb]) = H6 at s6 ef6 et6 ht6 FA6 FB6 ⊢
      clear s6 et5 ht5 FA5 FB nff
      intro sc dsc nsc ndsc nesc
      refine mk_okH (fs := [xa, xb]) (ys := ["t"]) (ds := [dA, dB]) law_schOk nsc ndsc nesc et6 ef6 ⟨rfl, fun i x dd e1 e2 => ?_⟩ fun ds H7 s7 S7 pm => ?_
      · match i, e1, e2 with
        | 0, e1, e2 =>
          cases e1
          cases e2
          exact ⟨_, _, FA6⟩
        | 1, e1, e2 =>
          cases e1
          cases e2
          exact ⟨_, _, FB6⟩
        | i + 2, e1, e2 => simp at e1
      have ht7 := ht6.ext s7
      clear nsc ndsc nesc et6 ef6 FA6 FB6 ht6 s7
      refine asg_at ?_
      refine ⟨by show 7 ≤ sizeLine; decide, fun l5 nl5 => ?_⟩
      have s8 := same_new (o := .lst (askT.map V.str)) nl5
      have e8 : (upd H7 l5 (.lst (askT.map V.str))) l5 = some (.lst (askT.map V.str)) := upd_same
      have S8 := S7.same s8
      have ht8 := ht7.ext s8
      show gName 5 (.ref l5) _ (upd H7 l5 (.lst (askT.map V.str))) _
      generalize upd H7 l5 (.lst (askT.map V.str)) = H8 at s8 e8 S8 ht8 ⊢
      clear s8 S7 ht7 nl5
      refine asg_at ?_
      refine ⟨_, rfl, l5, rfl, ⟨_, .inl (.inl e8)⟩, fun D nD => ?_⟩
      have nN : NewN H8 D := .of (ExtN.of (Same.refl H8)) nD
      have wl : (asks.map (fun p => if sound ds p = true then ("fine" : Str) else "picture")).length = 7 := rfl
      refine lc_list (K := K) (a := l5) (xs := askT.map V.str) (fun i H' => ExtN H8 H' ∧ Tabs T H' ∧ H' D = some (.lst (((asks.map (fun p => if sound ds p = true then ("fine" : Str) else "picture")).take i).map V.str))) ⟨ext_put (ExtN.of (Same.refl H8)) nN, ht8.ext (same_new nD), upd_same⟩ (fun i H' _ h => .inl (.inl (h.1 _ _ e8 fun _ z => nomatch z))) (fun i x H9 hx h => ?_) (fun H9 h => ?_)
      · obtain ⟨x9, t9, e9⟩ := h
        rw [asks_facts, List.map_map, List.getElem?_map] at hx
        obtain ⟨p, hp, rfl⟩ := Option.map_eq_some_iff.mp hx
        have pm' := List.mem_of_getElem? hp
        obtain ⟨pok, plv⟩ := asks_ok p pm'
        have il : i < 7 := (List.getElem?_eq_some_iff.mp hp).1
        refine ⟨rfl, t9, fun H10 x10 t10 => ?_⟩
        have x8 := x9.trans x10
        refine ⟨_, rfl, _, rfl, ?_⟩
        intro xw dxw nxw ndxw new
        refine ⟨xw, dxw, p, rfl, upd_same, pok, plv, by omega, fun H11 b11 pa => ⟨rfl, ?_⟩⟩
        have s11 := same_made nxw ndxw b11
        clear nxw ndxw new b11
        have x11 : ExtN H8 H11 := x8.trans (ExtN.of s11)
        have t11 := t10.ext s11
        have S11 := S8.keep (ext_keep x11)
        have fin : ∀ H12, Same H11 H12 → ∃ acc, H12 D = some (.lst acc) ∧ acc.length < sizeLine ∧ ExtN H8 (upd H12 D (.lst (acc ++ [V.str (if sound ds p = true then ("fine" : Str) else "picture")]))) ∧ Tabs T (upd H12 D (.lst (acc ++ [V.str (if sound ds p = true then ("fine" : Str) else "picture")]))) ∧
            (upd H12 D (.lst (acc ++ [V.str (if sound ds p = true then ("fine" : Str) else "picture")]))) D = some (.lst (((asks.map (fun p => if sound ds p = true then ("fine" : Str) else "picture")).take (i + 1)).map V.str)) := fun H12 s12 => by
          have x12 := x11.trans (ExtN.of s12)
          have e12 : H12 D = some (.lst (((asks.map (fun p => if sound ds p = true then ("fine" : Str) else "picture")).take i).map V.str)) := s12 _ _ (s11 _ _ (x10 _ _ e9 fun _ z => nomatch z))
          refine ⟨_, e12, ?_, ext_put x12 nN, tabs_put e12 (t11.ext s12), ?_⟩
          · rw [List.length_map, List.length_take]
            exact Nat.lt_of_le_of_lt (show _ ≤ 7 by omega) (by decide)
          · rw [upd_same, List.take_add_one, List.getElem?_map, hp, List.map_append]
            rfl
        refine ⟨.ref sc, .ref xw, rfl, .inr ⟨sc, "t", ["t"], ds, rfl, S11, .inr ⟨p, pa, pok, plv, by omega, fun e H12 s12 => .inr (.inl ⟨rfl, ?_⟩), fun e tt xs H12 s12 _ => ?_⟩⟩⟩
        · have := fin H12 s12
          rw [e] at this
          exact this
        · have := fin H12 s12
          rw [e] at this
          exact this
      · obtain ⟨x9, t9, e9⟩ := h
        have lx : (askT.map V.str).length = 7 := rfl
        rw [lx, List.take_of_length_le (Nat.le_of_eq wl), asks_words pm] at e9
        refine ⟨_, rfl, by show 7 ≤ sizeLine; decide, fun l9 n9 => ?_⟩
        have s9 := same_new (o := .lst (askW.map V.str)) n9
        have wA : ∀ y ∈ askW, Asc y := fun y hy c hc => by
          have : askW.all (fun y => y.cps.toList.all (fun c => decide (c < 128))) = true := by decide +kernel
          exact of_decide_eq_true (List.all_eq_true.mp (List.all_eq_true.mp this y hy) c hc)
        refine ⟨.list (askW.map PyData.str), .list (askW.map PyData.str),   .lst (.inl (.inl (s9 _ _ e9))) (dp_strs askW), .lst (.inl (.inl upd_same)) (dp_strs askW), shaped_strs wA, shaped_strs wA, ?_⟩
        rw [eqv_strsL, decide_eq_true rfl]
        exact q _
end
end K12
set_option Elab.async false
set_option linter.all false
set_option autoImplicit false
set_option maxRecDepth 100000
set_option maxHeartbeats 8000000
namespace K12
open PySem PySem.Spec PyProof.Rows L2 Vb Wd Rd Xd Xe Xi Xk Xm Xl Xu Xg Xo Xv Xq LamX Oe Of Og Oh Ow SX Pc Ms Oy Zt
abbrev s_iU : Stmt := inB (topS 16) 0
theorem sc_iU : FnScope ["self", "name"] ["self", "name"] (defScope s_iU) := ⟨rfl, rfl, rfl, by decide +kernel, rfl, by decide +kernel, by decide +kernel⟩
section
variable {P : Program} {w : World} {K : PySem.W.Frag} {mg : Str → Option Value} {base : Heap}
theorem ok_iU {f C fI : Addr} {fd : FuncData} (F : Fun K "__init__" "UnknownName.__init__" s_iU f fd) : FnG P w K mg base 1 f fd ["self", "name"] (spSet K C fI "name") := by
  refine goes_by F sc_iU (fun vs H Q E h => ?_) (fun cdv A outer s H vs Q E hc hr h => ?_)
  · obtain ⟨a, y, rfl, _⟩ := h
    rfl
  · obtain ⟨a, y, rfl, T, no, e, q⟩ := h
    exact ⟨_, pss_one (ps_setE (f := "name") (pv 0) (pv 1)), _, rfl, _, rfl, a, C, fI, rfl, T, no, e, fun d nd ne => q d nd ne⟩
end
/-- the def st of a class -/
def Mt (K : PySem.W.Frag) (x qual : Str) (st : Stmt) (f : Addr) (ps : List Str) : Prop := ∃ fd : FuncData, Fun K x qual st f fd ∧ Binds K fd ps []
theorem Mt.mk {K : PySem.W.Frag} {x qual : Str} {st : Stmt} {ps : List Str} {f : Addr} {oc : Value} {od an : Option Addr} {osl : Array (Option Value)} {kV doc pm cdv ct : Value}
    (l : K.lookup f = some ⟨oc, od, .func (PySem.W.fnOf x qual (defArgs st) (defBody st) (defScope st) .none kV doc pm an cdv ct), osl⟩) (c : PySem.W.codeIn K cdv qual = true) (k : PySem.W.keepIn K (.ref f) = true)
    (b : ∀ (kV doc pm : Value) (an : Option Addr) (cdv ct : Value) (us : List Value), us.length = ps.length → bindArgs (PySem.W.fnOf x qual (defArgs st) (defBody st) (defScope st) .none kV doc pm an cdv ct) ⟨us, []⟩ = pure (ps.zip us)) : Mt K x qual st f ps :=
  ⟨_, fun_mk (st := st) l c k, (fun_mk (st := st) l c k).binds b⟩
/-- a property of a class, with its def -/
def Pt (K : PySem.W.Frag) (C : Addr) (n qual : Str) (st : Stmt) : Prop := ∃ (p g : Addr), PropOf K C n p g ∧ Mt K n qual st g ["self"]
/-- the record at p of the kind T begins with the def at g -/
def askR (K : PySem.W.Frag) (p g : Addr) (T : String) : Bool := match PySem.W.recIn K p T with
  | some (.ref g' :: _) => g' == g
  | _ => false
theorem of_askR {K : PySem.W.Frag} {p g : Addr} {T : String} (h : askR K p g T = true) : ∃ rest, PySem.W.recIn K p T = some (.ref g :: rest) := by
  unfold askR at h
  split at h
  · rename_i g' rest e
    have q : g' = g := by simpa using h
    rw [q] at e
    exact ⟨rest, e⟩
  · cases h
/-- a def that makes lambdas: its code object is known -/
def Mc (K : PySem.W.Frag) (mg : Str → Option Value) (x : Str) (st : Stmt) (c : Addr) (ps : List Str) : Prop := ∃ (f : Addr) (fd : FuncData), FunC K x x st f fd (.ref c) ∧ mg x = some (.ref f) ∧ PySem.W.keepIn K (.ref f) = true ∧ Binds K fd ps []
theorem Mc.mk {K : PySem.W.Frag} {mg : Str → Option Value} {x : Str} {st : Stmt} {ps : List Str} {h : Heap} {f c : Addr} {oc : Value} {od an : Option Addr} {osl : Array (Option Value)} {kV doc pm ct : Value} (X : K.In h) (G : h.Ns mainGlobals mg) (a : PySem.W.nsIn K mainGlobals x = some (some (.ref f)))
    (l : K.lookup f = some ⟨oc, od, .func (PySem.W.fnOf x x (defArgs st) (defBody st) (defScope st) .none kV doc pm an (.ref c) ct), osl⟩) (hc : PySem.W.codeIn K (.ref c) x = true) (k : PySem.W.keepIn K (.ref f) = true)
    (b : ∀ (kV doc pm : Value) (an : Option Addr) (cdv ct : Value) (us : List Value), us.length = ps.length → bindArgs (PySem.W.fnOf x x (defArgs st) (defBody st) (defScope st) .none kV doc pm an cdv ct) ⟨us, []⟩ = pure (ps.zip us)) : Mc K mg x st c ps :=
  ⟨f, _, ⟨_, _, _, _, _, _, _, _, rfl, l, hc⟩, PySem.W.mg_of X G a, k, (fun_mk (st := st) l hc k).binds b⟩
/-- the def of the text with all that its frame shows -/
def Tl (K : PySem.W.Frag) (mg : Str → Option Value) : Prop := ∃ (f : Addr) (oc : Value) (od an : Option Addr) (osl : Array (Option Value)) (kV doc pm cdv ct : Value), mg "_law_said" = some (.ref f) ∧ PySem.W.keepIn K (.ref f) = true ∧
  K.lookup f = some ⟨oc, od, .func (PySem.W.fnOf "_law_said" "_law_said" (defArgs s_l_said) (defBody s_l_said) (defScope s_l_said) .none kV doc pm an cdv ct), osl⟩ ∧ PySem.W.codeIn K cdv "_law_said" = true ∧
  Binds K (PySem.W.fnOf "_law_said" "_law_said" (defArgs s_l_said) (defBody s_l_said) (defScope s_l_said) .none kV doc pm an cdv ct) ["_law_call"] []
theorem Tl.mk {K : PySem.W.Frag} {mg : Str → Option Value} {h : Heap} {f : Addr} {oc : Value} {od an : Option Addr} {osl : Array (Option Value)} {kV doc pm cdv ct : Value} (X : K.In h) (G : h.Ns mainGlobals mg) (a : PySem.W.nsIn K mainGlobals "_law_said" = some (some (.ref f)))
    (l : K.lookup f = some ⟨oc, od, .func (PySem.W.fnOf "_law_said" "_law_said" (defArgs s_l_said) (defBody s_l_said) (defScope s_l_said) .none kV doc pm an cdv ct), osl⟩) (hc : PySem.W.codeIn K cdv "_law_said" = true) (k : PySem.W.keepIn K (.ref f) = true)
    (b : ∀ (kV doc pm : Value) (an : Option Addr) (cdv ct : Value) (us : List Value), us.length = (["_law_call"] : List Str).length → bindArgs (PySem.W.fnOf "_law_said" "_law_said" (defArgs s_l_said) (defBody s_l_said) (defScope s_l_said) .none kV doc pm an cdv ct) ⟨us, []⟩ = pure ((["_law_call"] : List Str).zip us)) : Tl K mg :=
  ⟨f, oc, od, an, osl, kV, doc, pm, cdv, ct, PySem.W.mg_of X G a, k, l, hc, (fun_mk (st := s_l_said) l hc k).binds b⟩
/-- what is asked of the class Form -/
def askF (K : PySem.W.Frag) (C : Addr) : Bool :=
  PySem.W.plainGet K C Str.empty && (PySem.W.hasDictIn K C && (PySem.W.plainOver K C && (decide (PySem.W.findIn K (.ref C) "__setattr__" = some (some (.builtin "object.__setattr__"))) &&
  (decide (PySem.W.findIn K (.ref C) "_called" = some none) && (decide (PySem.W.findIn K (.ref C) "_sort_name" = some none) && (decide (PySem.W.findIn K (.ref C) "_children" = some none) &&
  (decide (PySem.W.findIn K (.ref C) "__class__" = some (some (.builtin "object.__class__"))) && (decide (PySem.W.specialIn K (.builtin "object.__class__") "__get__" = some (some (.builtin "getset_descriptor.__get__"))) &&
  (decide (PySem.W.takesIn K (.builtin "object.__class__") = some true) && (decide (PySem.W.mroIn K C (.type "object") = some true) && (decide (PySem.W.kitOne K (.ref C) (.ref C) = some true) &&
  ((["str", "tuple", "list", "NoneType"].all fun t => decide (PySem.W.kitOne K (.type t) (.ref C) = some false)) && (kinds7.all fun t => decide (PySem.W.kitOne K (.type t) (.ref C) = some false))))))))))))))
theorem of_askF {K : PySem.W.Frag} {C : Addr} (h : askF K C = true) : FormC K C ∧ FormI K C ∧ NoK K C := by
  unfold askF at h
  simp only [Bool.and_eq_true, decide_eq_true_eq, List.all_eq_true] at h
  obtain ⟨a1, a2, a3, a4, a5, a6, a7, a8, a9, a10, a11, a12, a13, a14⟩ := h
  exact ⟨⟨⟨a1, a2, a3, a4⟩, a5, a6, a7⟩, ⟨a8, a9, a10, a11, a12, a13⟩, a14⟩
/-- what is asked of the class Scheme -/
def askS (K : PySem.W.Frag) (C : Addr) : Bool :=
  PySem.W.plainGet K C Str.empty && (PySem.W.hasDictIn K C && (PySem.W.plainOver K C && (decide (PySem.W.findIn K (.ref C) "__setattr__" = some (some (.builtin "object.__setattr__"))) &&
  ((["_bare", "_tops", "_by_name", "_names", "_forms", "_sorts"].all fun f : String => decide (PySem.W.findIn K (.ref C) f = some none)) &&
  (decide (PySem.W.findIn K (.ref C) "__class__" = some (some (.builtin "object.__class__"))) && (decide (PySem.W.specialIn K (.builtin "object.__class__") "__get__" = some (some (.builtin "getset_descriptor.__get__"))) &&
  (decide (PySem.W.takesIn K (.builtin "object.__class__") = some true) && (decide (PySem.W.mroIn K C (.type "object") = some true) && (decide (PySem.W.kitOne K (.ref C) (.ref C) = some true) &&
  ((["str", "tuple", "list", "NoneType"].all fun t => decide (PySem.W.kitOne K (.type t) (.ref C) = some false)) &&
  ((kinds7.all fun t => decide (PySem.W.kitOne K (.type t) (.ref C) = some false)))))))))))))
structure OfS (K : PySem.W.Frag) (C : Addr) : Prop where
  c : SchemeC K C
  i : FormI K C
  no : NoK K C
theorem of_askS {K : PySem.W.Frag} {C : Addr} (h : askS K C = true) : OfS K C := by
  unfold askS at h
  simp only [Bool.and_eq_true, decide_eq_true_eq, List.all_eq_true] at h
  obtain ⟨a1, a2, a3, a4, a5, a8, a9, a10, a11, a12, a13, a14⟩ := h
  refine ⟨⟨⟨a1, a2, a3, a4⟩, fun f hf => ?_⟩, ⟨a8, a9, a10, a11, a12, a13⟩, a14⟩
  simp only [List.mem_cons, List.not_mem_nil, or_false] at hf
  rcases hf with rfl | rfl | rfl | rfl | rfl | rfl
  · exact a5 "_bare" (by simp)
  · exact a5 "_tops" (by simp)
  · exact a5 "_by_name" (by simp)
  · exact a5 "_names" (by simp)
  · exact a5 "_forms" (by simp)
  · exact a5 "_sorts" (by simp)
/-- what is asked of the class Picture -/
def askP (K : PySem.W.Frag) (C : Addr) : Bool :=
  PySem.W.plainGet K C Str.empty && (PySem.W.hasDictIn K C && (PySem.W.plainOver K C && (decide (PySem.W.findIn K (.ref C) "__setattr__" = some (some (.builtin "object.__setattr__"))) &&
  ((["_text", "_called", "_parts", "_holes", "_levels", "_names"].all fun f : String => decide (PySem.W.findIn K (.ref C) f = some none)) &&
  (decide (PySem.W.findIn K (.ref C) "__class__" = some (some (.builtin "object.__class__"))) && (decide (PySem.W.specialIn K (.builtin "object.__class__") "__get__" = some (some (.builtin "getset_descriptor.__get__"))) &&
  (decide (PySem.W.takesIn K (.builtin "object.__class__") = some true) && (decide (PySem.W.mroIn K C (.type "object") = some true) && (decide (PySem.W.kitOne K (.ref C) (.ref C) = some true) &&
  ((["str", "tuple", "list", "NoneType"].all fun t => decide (PySem.W.kitOne K (.type t) (.ref C) = some false)) &&
  ((kinds7.all fun t => decide (PySem.W.kitOne K (.type t) (.ref C) = some false)))))))))))))
structure OfP (K : PySem.W.Frag) (C : Addr) : Prop where
  c : PictC K C
  i : FormI K C
  no : NoK K C
theorem of_askP {K : PySem.W.Frag} {C : Addr} (h : askP K C = true) : OfP K C := by
  unfold askP at h
  simp only [Bool.and_eq_true, decide_eq_true_eq, List.all_eq_true] at h
  obtain ⟨a1, a2, a3, a4, a5, a8, a9, a10, a11, a12, a13, a14⟩ := h
  refine ⟨⟨⟨a1, a2, a3, a4⟩, fun f hf => ?_⟩, ⟨a8, a9, a10, a11, a12, a13⟩, a14⟩
  simp only [List.mem_cons, List.not_mem_nil, or_false] at hf
  rcases hf with rfl | rfl | rfl | rfl | rfl | rfl
  · exact a5 "_text" (by simp)
  · exact a5 "_called" (by simp)
  · exact a5 "_parts" (by simp)
  · exact a5 "_holes" (by simp)
  · exact a5 "_levels" (by simp)
  · exact a5 "_names" (by simp)
/-- what is asked of the errors' kinds -/
def askT' (K : PySem.W.Frag) (CI CIP CO : Addr) : Bool := (decide (PySem.W.exmOne K (.ref CI) (.ref CI) = some true) && (decide (PySem.W.exmOne K (.ref CIP) (.ref CI) = some false) && (decide (PySem.W.exmOne K (.ref CIP) (.ref CIP) = some true) && (decide (PySem.W.exmOne K (.ref CO) (.ref CI) = some false) && (decide (PySem.W.exmOne K (.ref CO) (.ref CIP) = some false) && decide (PySem.W.exmOne K (.ref CO) (.ref CO) = some true))))))
theorem of_askT {K : PySem.W.Frag} {CI CIP CO : Addr} (h : askT' K CI CIP CO = true) : SaidT K CI CIP CO := by
  unfold askT' at h
  simp only [Bool.and_eq_true, decide_eq_true_eq] at h
  obtain ⟨mII, mPI, mPP, mOI, mOP, mOO⟩ := h
  exact ⟨mII, mPI, mPP, mOI, mOP, mOO⟩
/-- what is asked of two classes -/
def askK (K : PySem.W.Frag) (C CS CP : Addr) : Bool := decide (PySem.W.kitOne K (.ref CS) (.ref CP) = some false) && (decide (PySem.W.kitOne K (.ref CP) (.ref CS) = some false) && decide (PySem.W.kitOne K (.ref C) (.ref CS) = some false))
theorem of_askK {K : PySem.W.Frag} {C CS CP : Addr} (h : askK K C CS CP = true) : PySem.W.kitOne K (.ref CS) (.ref CP) = some false ∧ PySem.W.kitOne K (.ref CP) (.ref CS) = some false ∧ PySem.W.kitOne K (.ref C) (.ref CS) = some false := by
  unfold askK at h
  simp only [Bool.and_eq_true, decide_eq_true_eq] at h
  exact h
theorem NoK.two {K : PySem.W.Frag} {C : Addr} (n : NoK K C) : ∀ t ∈ ["int", "bool"], PySem.W.kitOne K (.type t) (.ref C) = some false := fun t ht => by
  simp only [List.mem_cons, List.not_mem_nil, or_false] at ht
  rcases ht with rfl | rfl
  · exact n "int" (by simp [kinds7])
  · exact n "bool" (by simp [kinds7])
/-- the law's own def, its code object known -/
theorem law_defC {st : Stmt} {x : Str} {K : PySem.W.Frag} {mg : Str → Option Value} {h : Heap} {f fa c : Addr} {oc : Value} {od an : Option Addr} {osl : Array (Option Value)} {kV doc pm ct : Value} (X : K.In h) (G : h.Ns mainGlobals mg) (hfa : mg "law" = some (.ref fa))
    (hb : ∀ (kV doc pm : Value) (an : Option Addr) (cdv ct : Value) (s : Shared) (v : Value), BindsTo s (PySem.W.fnOf "law" "law" (defArgs st) (defBody st) (defScope st) .none kV doc pm an cdv ct) ⟨[v], []⟩ [(x, v)]) (a : PySem.W.nsIn K mainGlobals "law" = some (some (.ref f)))
    (l : K.lookup f = some ⟨oc, od, .func (PySem.W.fnOf "law" "law" (defArgs st) (defBody st) (defScope st) .none kV doc pm an (.ref c) ct), osl⟩) (hc : PySem.W.codeIn K (.ref c) "law" = true) :
    ∃ fd : FuncData, (∀ (s : Shared) (v : Value), BindsTo s fd ⟨[v], []⟩ [(x, v)]) ∧ FunC K "law" "law" st fa fd (.ref c) := by
  cases hfa.symm.trans (PySem.W.mg_of X G a)
  exact ⟨_, hb kV doc pm an (.ref c) ct, ⟨oc, od, kV, doc, pm, an, ct, osl, rfl, l, hc⟩⟩
/-- a part of a sound picture: none of the levels -/
theorem ok_part_zero {P : Program} {w : World} {K : PySem.W.Frag} {mg : Str → Option Value} {base : Heap} {C CS CP : Addr} {k : Nat} (D : Df K mg "_is_sound_part" s_is_sound_part ["scheme", "part", "sort"]) : CgE P w K mg base k "_is_sound_part" (spPartS C CS CP 0) := by
  obtain ⟨f, fd, F, m, b⟩ := D
  exact ⟨f, fd, _, ⟨fun vs H Q E h => by obtain ⟨_, _, _, _, p, _, _, _, _, _, _, l, _⟩ := h; omega, fun A outer s H args us vs Q E hc hr e0 hb r h => by obtain ⟨_, _, _, _, p, _, _, _, _, _, _, l, _⟩ := h; omega⟩, m, F.kp, b⟩
/-- an error with nothing of its own -/
def askC (K : PySem.W.Frag) (C : Addr) : Bool := PySem.W.excIn K C [.type "ValueError", .type "Exception", .type "BaseException", .type "object"] "ValueError.__new__" && (PySem.W.keepIn K (.ref C) && (decide (PySem.W.subIn K (.ref C) (.type "BaseException") = some true) && decide (PySem.W.typeIn K (.ref C) = some (.type "type"))))
theorem of_askC {K : PySem.W.Frag} {mg : Str → Option Value} {x : Str} {C : Addr} (g : mg x = some (.ref C)) (h : askC K C = true) : ErrC K mg x C := by
  unfold askC at h
  simp only [Bool.and_eq_true, decide_eq_true_eq] at h
  obtain ⟨a, b, c, d⟩ := h
  exact ⟨a, g, b, c, d⟩
/-- the two errors with a field -/
def askU (K : PySem.W.Frag) (CU fU : Addr) : Bool := eiB K CU fU keTail "LookupError.__new__"
theorem of_askU {K : PySem.W.Frag} {CU fU : Addr} (h : askU K CU fU = true) : EI K CU fU := ei_of storeKE PySem.F.excBase_LookupError ⟨by decide +kernel, by decide +kernel, by decide +kernel⟩ h
end K12
set_option Elab.async false
set_option linter.all false
set_option autoImplicit false
set_option maxRecDepth 100000
set_option maxHeartbeats 4000000
namespace Vu
open PySem PySem.Spec PyProof.Rows L2 Vb Xl Xg LamX
/-- the end with tables, where nothing is being written out -/
theorem walk_calmT {l : PySem.W.OpenLaw} {n k : Nat} {q : Program} {loose : List Str} {XP : (Str → Option Value) → Heap → Prop} {YP : World → Heap → Prop} {d : DefRec} {K : Params → PySem.W.Frag} {cs : List (Addr × Addr)} {sp : PySem.W.Frag → Sp} {x : Str}
    (hn : l.most = some n) (hn2 : n ≤ sizeLine) (hdf : d.params.defaults = []) (hr : Room k callerA) (hY : ∀ (w : World) (h : Heap), YP w h → (K w.params).In h)
    (hT : ∀ (w : World) (h : Heap), YP w h → ∀ p ∈ cs, h.get? p.2 = some { cls := .none, data := .fields #[] }) (nT : ∀ (w : World), ∀ p ∈ cs, (K w.params).lookup p.2 = none) (C : ∀ (w : World) (h : Heap), (K w.params).In h → ∀ p ∈ cs, PySem.W.CodeHd h p.1 p.2)
    (F : ∀ (w : World) (mg : Str → Option Value) (fa : Addr) (h : Heap), (K w.params).In h → h.Ns mainGlobals mg → XP mg h → mg d.name = some (.ref fa) →
      ∃ fd : FuncData, (∀ (s : Shared) (u : Value), BindsTo s fd ⟨[u], []⟩ [(x, u)]) ∧ ∀ base : Heap, (K w.params).In base → base.Ns mainGlobals mg → (∀ p ∈ cs, TabB base mg p.1 p.2) → FnG l.prog w (K w.params) mg base k fa fd [x] (sp (K w.params)))
    (hsp : ∀ (K : PySem.W.Frag) (H : Hp) (a : Addr) (ns : List Int), ns.length ≤ n → (∀ p ∈ cs, H p.2 = some (.tbl #[])) → SqL K H a (ns.map V.int) → sp K [.ref a] H (fun v _ => v = .bl true) fun _ _ _ => False) :
    PySem.W.WalkO q loose XP YP l.row.toRowW d [] (fun f vs => PySem.call f vs) := by
  refine Att.attach_callB hn hdf fun w s₀ s₁ mg mb fa o pm cd doc a vs ns G Y ho hd hcd hmg hobj hints hlen hbits hg => ?_
  have KX := hY w _ Y
  obtain ⟨fd, hb, hF⟩ := F w mg fa _ KX G.T.g G.X hmg
  exact Vt.law_goesT KX G.T.g G.T.b G.T.builtins G.T.nolimit hg (hT w _ Y) (nT w) (C w _ KX) G.T.bmain hobj hints (Nat.le_trans hlen hn2) hr hF hb fun H hH hS => hsp _ H a ns hlen hH hS
end Vu
set_option Elab.async false
set_option linter.all false
set_option autoImplicit false
set_option maxRecDepth 100000
set_option maxHeartbeats 8000000
namespace K12
open PySem PySem.Spec PyProof.Rows L2 Vb Wd Rd Xd Xe Xi Xk Xm Xl Xu Xg Xo Xv Xq LamX Oe Of Og Oh Ow SX Pc Ms Oy Zt
theorem fin {l : PySem.W.OpenLaw} {w : World} {K : PySem.W.Frag} {mg : Str → Option Value} {fa C CS CP CI CIP CO CU fUI fFI fFL fFE fFS fSI fSX fSC fPI fPE c1 P1 c2 P2 : Addr} {t0 t1 t2 t3 t4 t5 t6 t7 : Tok}
    (L : ∃ fd : FuncData, (∀ (s : Shared) (v : Value), BindsTo s fd ⟨[v], []⟩ [("_law_script", v)]) ∧ FunC K "law" "law" s_law fa fd (.ref c2))
    (D1 : Df K mg "is_integer" s_is_integer ["value"])
    (D2 : Df K mg "is_count" s_is_count ["value"])
    (D3 : Df K mg "is_name" s_is_name ["value"])
    (D4 : Df K mg "is_names" s_is_names ["value"])
    (D5 : Df K mg "_is_step" s_is_step ["value"])
    (D6 : Df K mg "_is_child" s_is_child ["value"])
    (D7 : Df K mg "_is_children" s_is_children ["value"])
    (D8 : Df K mg "_is_scheme" s_is_scheme ["bare", "tops", "forms"])
    (D9 : Df K mg "_sorts_of" s_sorts_of ["tops", "forms"])
    (D10 : Df K mg "split_text" s_split_text ["text"])
    (D11 : Df K mg "_split_blanks" s_split_blanks ["text"])
    (D12 : Df K mg "_depth" s_depth ["text"])
    (D13 : Df K mg "_top_of" s_top_of ["text"])
    (D14 : Df K mg "_is_formed" s_is_formed ["scheme", "picture"])
    (D15 : Df K mg "_is_sound_part" s_is_sound_part ["scheme", "part", "sort"])
    (D16 : Df K mg "is_sound_picture" s_is_sound_picture ["scheme", "value"])
    (D17 : Df K mg "_is_spot" s_is_spot ["value"])
    (D18 : Df K mg "_spots_below" s_spots_below ["scheme", "picture", "level"])
    (D19 : Df K mg "_spot_held" s_spot_held ["scheme", "picture", "spots"])
    (D20 : Df K mg "spots_of" s_spots_of ["scheme", "picture"])
    (D21 : Df K mg "spot_over" s_spot_over ["scheme", "picture", "spots"])
    (D22 : Df K mg "_law_dice" s_l_dice ["_law_script", "_law_spot"])
    (D23 : Df K mg "_law_roll" s_l_roll ["_law_dice_here", "_law_total"])
    (D24 : Df K mg "_law_pick" s_l_pick ["_law_dice_here", "_law_items"])
    (D25 : Df K mg "_law_mixed" s_l_mixed ["_law_dice_here", "_law_items"])
    (D26 : Df K mg "_law_names" s_l_names ["_law_dice_here", "_law_many"])
    (D27 : Df K mg "_law_scheme" s_l_scheme ["_law_dice_here", "_law_sorts", "_law_forms"])
    (D28 : Df K mg "_law_made_scheme" s_l_made_scheme ["_law_plain"])
    (D29 : Df K mg "_law_bad_spots" s_l_bad_spots ["_law_dice_here", "_law_spots"])
    (D30 : Df K mg "_law_right" s_l_right ["_law_dice_here", "_law_plain", "_law_scheme_here"])
    (MT : Tl K mg)
    (MC1 : Mc K mg "_law_asked" s_l_asked c1 ["_law_scheme_here", "_law_picture", "_law_spots"])
    (nP : P1 ≠ P2)
    (gC : mg "Form" = some (.ref C))
    (gCS : mg "Scheme" = some (.ref CS))
    (gCP : mg "Picture" = some (.ref CP))
    (gCI : mg "InvalidScheme" = some (.ref CI))
    (gCIP : mg "InvalidPicture" = some (.ref CIP))
    (gCO : mg "InvalidOperation" = some (.ref CO))
    (gCU : mg "UnknownName" = some (.ref CU))
    (k0 : mg "MAX_LETTERS" = some (.int 8 t0))
    (k1 : mg "_TOO_LONG" = some (.int (10 ^ 60) t1))
    (k2 : mg "MAX_CHILDREN" = some (.int 4 t2))
    (k3 : mg "MAX_STEP" = some (.int 3 t3))
    (k4 : mg "MAX_FORMS" = some (.int 24 t4))
    (k5 : mg "MAX_SORTS" = some (.int 8 t5))
    (k6 : mg "MAX_LEVELS" = some (.int 4 t6))
    (k7 : mg "HOLE" = some (.str "." t7))
    (jmC : PySem.W.makesIn K C = true) (jkC : PySem.W.keepIn K (.ref C) = true)
    (jmCS : PySem.W.makesIn K CS = true) (jkCS : PySem.W.keepIn K (.ref CS) = true)
    (jmCP : PySem.W.makesIn K CP = true) (jkCP : PySem.W.keepIn K (.ref CP) = true)
    (eFI : PySem.W.findIn K (.ref C) "__init__" = some (some (.ref fFI))) (tFI : PySem.W.isFn K (.ref fFI) = true)
    (eFL : PySem.W.findIn K (.ref C) "__len__" = some (some (.ref fFL))) (tFL : PySem.W.isFn K (.ref fFL) = true)
    (eFE : PySem.W.findIn K (.ref C) "__eq__" = some (some (.ref fFE))) (tFE : PySem.W.isFn K (.ref fFE) = true)
    (eFS : PySem.W.findIn K (.ref C) "__str__" = some (some (.ref fFS))) (tFS : PySem.W.isFn K (.ref fFS) = true)
    (eSI : PySem.W.findIn K (.ref CS) "__init__" = some (some (.ref fSI))) (tSI : PySem.W.isFn K (.ref fSI) = true)
    (eSX : PySem.W.findIn K (.ref CS) "__getitem__" = some (some (.ref fSX))) (tSX : PySem.W.isFn K (.ref fSX) = true)
    (eSC : PySem.W.findIn K (.ref CS) "__contains__" = some (some (.ref fSC))) (tSC : PySem.W.isFn K (.ref fSC) = true)
    (ePI : PySem.W.findIn K (.ref CP) "__init__" = some (some (.ref fPI))) (tPI : PySem.W.isFn K (.ref fPI) = true)
    (ePE : PySem.W.findIn K (.ref CP) "__eq__" = some (some (.ref fPE))) (tPE : PySem.W.isFn K (.ref fPE) = true)
    (nSX : PySem.W.fnIn K fSX = true) (nU : PySem.W.findIn K (.ref CU) "name" = some none)
    (mFI : Mt K "__init__" "Form.__init__" s_init fFI ["self", "called", "sort", "children"])
    (mFL : Mt K "__len__" "Form.__len__" s_len fFL ["self"])
    (mFE : Mt K "__eq__" "Form.__eq__" s_eq fFE ["self", "other"])
    (mFS : Mt K "__str__" "Form.__str__" s_str fFS ["self"])
    (mSI : Mt K "__init__" "Scheme.__init__" s_S_init fSI ["self", "bare", "tops", "forms"])
    (mSX : Mt K "__getitem__" "Scheme.__getitem__" s_S_getitem fSX ["self", "name"])
    (mSC : Mt K "__contains__" "Scheme.__contains__" s_S_contains fSC ["self", "value"])
    (mPI : Mt K "__init__" "Picture.__init__" s_P_init fPI ["self", "text"])
    (mPE : Mt K "__eq__" "Picture.__eq__" s_P_eq fPE ["self", "other"])
    (mUI : Mt K "__init__" "UnknownName.__init__" s_iU fUI ["self", "name"])
    (p1 : Pt K C "called" "Form.called" s_called)
    (p2 : Pt K C "sort_name" "Form.sort_name" s_sort_name)
    (p3 : Pt K C "children" "Form.children" s_children)
    (p4 : Pt K CS "bare" "Scheme.bare" s_S_bare)
    (p5 : Pt K CS "tops" "Scheme.tops" s_S_tops)
    (p6 : Pt K CS "forms" "Scheme.forms" s_S_forms)
    (p7 : Pt K CS "names" "Scheme.names" s_S_names)
    (p8 : Pt K CS "sorts" "Scheme.sorts" s_S_sorts)
    (p9 : Pt K CS "lines" "Scheme.lines" s_S_lines)
    (p10 : Pt K CP "text" "Picture.text" s_P_text)
    (p11 : Pt K CP "called" "Picture.called" s_P_called)
    (p12 : Pt K CP "parts" "Picture.parts" s_P_parts)
    (p13 : Pt K CP "holes" "Picture.holes" s_P_holes)
    (p14 : Pt K CP "levels" "Picture.levels" s_P_levels)
    (p15 : Pt K CP "names" "Picture.names" s_P_names)
    (aF : askF K C = true) (aS : askS K CS = true) (aP : askP K CP = true) (aT : askT' K CI CIP CO = true) (aK : askK K C CS CP = true) (aI : askC K CI = true) (aIP : askC K CIP = true) (aO : askC K CO = true) (aU : askU K CU fUI = true)
    (z_int : mg "int" = none) (z_bool : mg "bool" = none) (z_str : mg "str" = none) (z_len : mg "len" = none) (z_abs : mg "abs" = none) (z_max : mg "max" = none) (z_min : mg "min" = none) (z_range : mg "range" = none) (z_isinstance : mg "isinstance" = none) (z_repr : mg "repr" = none) (z_tuple : mg "tuple" = none) (z_all : mg "all" = none) (z_list : mg "list" = none) (z_sorted : mg "sorted" = none) (z_set : mg "set" = none) (z_zip : mg "zip" = none) (z_sum : mg "sum" = none) (z_enumerate : mg "enumerate" = none) :
    ∃ fd : FuncData, (∀ (s : Shared) (v : Value), BindsTo s fd ⟨[v], []⟩ [("_law_script", v)]) ∧ ∀ base : Heap, K.In base → base.Ns mainGlobals mg → (∀ p ∈ [(c1, P1), (c2, P2)], TabB base mg p.1 p.2) → FnG l.prog w K mg base 22 fa fd ["_law_script"] (spLaw K [(P1, "_law_asked.<locals>.<lambda>"), (P2, "law.<locals>.<lambda>")]) := by
  obtain ⟨fd, b, F⟩ := L
  refine ⟨fd, b, fun base _ _ TB => ?_⟩
  have TB1 : TabB base mg c1 P1 := TB (c1, P1) (by simp)
  have TB2 : TabB base mg c2 P2 := TB (c2, P2) (by simp)
  obtain ⟨TF, TI, noF⟩ := of_askF aF
  obtain ⟨TS, TIS, noS⟩ := of_askS aS
  obtain ⟨TP, TIP, noP⟩ := of_askP aP
  have TT := of_askT aT
  obtain ⟨noSP, noPS, noFS⟩ := of_askK aK
  have EI' : ErrC K mg "InvalidScheme" CI := of_askC gCI aI
  have EIP : ErrC K mg "InvalidPicture" CIP := of_askC gCIP aIP
  have EO : ErrC K mg "InvalidOperation" CO := of_askC gCO aO
  have EU := of_askU aU
  obtain ⟨fdFI, FFI, bFI⟩ := mFI
  obtain ⟨fdFL, FFL, bFL⟩ := mFL
  obtain ⟨fdFE, FFE, bFE⟩ := mFE
  obtain ⟨fdFS, FFS, bFS⟩ := mFS
  obtain ⟨fdSI, FSI, bSI⟩ := mSI
  obtain ⟨fdSX, FSX, bSX⟩ := mSX
  obtain ⟨fdSC, FSC, bSC⟩ := mSC
  obtain ⟨fdPI, FPI, bPI⟩ := mPI
  obtain ⟨fdPE, FPE, bPE⟩ := mPE
  obtain ⟨fdUI, FUI, bUI⟩ := mUI
  obtain ⟨q1, h1, o1, fd1, G1, b1⟩ := p1
  obtain ⟨q2, h2, o2, fd2, G2, b2⟩ := p2
  obtain ⟨q3, h3, o3, fd3, G3, b3⟩ := p3
  obtain ⟨q4, h4, o4, fd4, G4, b4⟩ := p4
  obtain ⟨q5, h5, o5, fd5, G5, b5⟩ := p5
  obtain ⟨q6, h6, o6, fd6, G6, b6⟩ := p6
  obtain ⟨q7, h7, o7, fd7, G7, b7⟩ := p7
  obtain ⟨q8, h8, o8, fd8, G8, b8⟩ := p8
  obtain ⟨q9, h9, o9, fd9, G9, b9⟩ := p9
  obtain ⟨q10, h10, o10, fd10, G10, b10⟩ := p10
  obtain ⟨q11, h11, o11, fd11, G11, b11⟩ := p11
  obtain ⟨q12, h12, o12, fd12, G12, b12⟩ := p12
  obtain ⟨q13, h13, o13, fd13, G13, b13⟩ := p13
  obtain ⟨q14, h14, o14, fd14, G14, b14⟩ := p14
  obtain ⟨q15, h15, o15, fd15, G15, b15⟩ := p15
  obtain ⟨gT, ocT, odT, anT, oslT, kVT, docT, pmT, cdT, ctT, mT, kT, lT, hT, bT⟩ := MT
  obtain ⟨fc1, fdc1, FC1, mc1, kpc1, bc1⟩ := MC1
  have PF : FormP l.prog w K mg base C := ⟨fun x hx => by
    simp only [List.mem_cons, List.not_mem_nil, or_false] at hx
    rcases hx with rfl | rfl | rfl
    · exact ⟨q1, h1, fd1, o1, ok_called G1 TF, b1⟩
    · exact ⟨q2, h2, fd2, o2, ok_sort_name G2 TF, b2⟩
    · exact ⟨q3, h3, fd3, o3, ok_children G3 TF, b3⟩⟩
  have PS : SchemeP l.prog w K mg base CS := ⟨fun x hx => by
    simp only [List.mem_cons, List.not_mem_nil, or_false] at hx
    rcases hx with rfl | rfl | rfl | rfl | rfl
    · exact ⟨q4, h4, fd4, o4, ok_S_bare G4 TS, b4⟩
    · exact ⟨q5, h5, fd5, o5, ok_S_tops G5 TS, b5⟩
    · exact ⟨q6, h6, fd6, o6, ok_S_forms G6 TS, b6⟩
    · exact ⟨q7, h7, fd7, o7, ok_S_names G7 TS, b7⟩
    · exact ⟨q8, h8, fd8, o8, ok_S_sorts G8 TS, b8⟩⟩
  have PP : PictP l.prog w K mg base CP := ⟨fun x hx => by
    simp only [List.mem_cons, List.not_mem_nil, or_false] at hx
    rcases hx with rfl | rfl | rfl | rfl | rfl | rfl
    · exact ⟨q10, h10, fd10, o10, ok_P_text G10 TP, b10⟩
    · exact ⟨q11, h11, fd11, o11, ok_P_called G11 TP, b11⟩
    · exact ⟨q12, h12, fd12, o12, ok_P_parts G12 TP, b12⟩
    · exact ⟨q13, h13, fd13, o13, ok_P_holes G13 TP, b13⟩
    · exact ⟨q14, h14, fd14, o14, ok_P_levels G14 TP, b14⟩
    · exact ⟨q15, h15, fd15, o15, ok_P_names G15 TP, b15⟩⟩
  have gRoll : Cg l.prog w K mg base 1 "_law_roll" spRoll := ok_roll D23 z_int
  have gPick : Cg l.prog w K mg base 2 "_law_pick" (spPick K) := ok_pick D24 gRoll z_len
  have gInt := ok_is_integer (P := l.prog) (w := w) (base := base) D1 z_isinstance z_int z_bool z_abs k1
  have gCount := ok_is_count D2 gInt
  have gName := ok_is_name (P := l.prog) (w := w) (base := base) D3 z_isinstance z_str z_len k0
  have gNames := ok_is_names D4 gName z_isinstance z_tuple z_all z_list z_sorted z_set
  have gStep := ok_is_step D5 gCount k3
  have gChild := ok_is_child D6 gName gStep z_isinstance z_tuple z_len
  have gChildren := ok_is_children D7 gChild z_isinstance z_tuple z_len z_all k2
  have gSorts := ok_sorts_of D9 TF PF z_list z_tuple z_sorted z_set
  have gIsS := ok_is_scheme D8 TF TI PF gC gNames gSorts z_isinstance z_tuple z_all z_len z_set k4 k5
  have HFI := ok_init FFI TF gName gChildren
  have HU := ok_iU (P := l.prog) (w := w) (mg := mg) (base := base) (C := CU) (fI := fUI) FUI
  have HSI := ok_S_init FSI TF TS PF EI' gIsS gSorts z_tuple z_sorted
  let VF : EnvF l.prog w K mg base C := { T := TF, TI := TI, TP := PF, g := gC, fI := fFI, fdI := fdFI, M := ⟨jmC, eFI, tFI, jkC⟩, FI := HFI, bI := bFI }
  let VS : EnvS l.prog w K mg base C CS CI := { T := TS, g := gCS, fI := fSI, fdI := fdSI, M := ⟨jmCS, eSI, tSI, jkCS⟩, FI := HSI, bI := bSI }
  let VQ : EnvQ l.prog w K mg base CP := { T := TP, TP := PP, g := gCP, fI := fPI, fdI := fdPI, M := ⟨jmCP, ePI, tPI, jkCP⟩, bI := bPI }
  have HSX := ok_S_getitem (C := C) FSX TS EU nU HU bUI gCU
  have HFE := ok_eq FFE TF TI PF gC z_isinstance
  have WQ : FormQ l.prog w K mg base C := ⟨fFE, fdFE, HFE, eFE, tFE, bFE⟩
  have HSC := ok_S_contains FSC TS TF TI noF.two WQ gC z_isinstance
  have HFL := ok_len (P := l.prog) (w := w) (base := base) FFL TF z_len
  have W : EnvW l.prog w K mg base C CS CU := { T := TS, TF := TF, TP := PF, item := ⟨fSX, fdSX, HSX, eSX, nSX, tSX, bSX⟩, inn := ⟨fSC, fdSC, HSC, eSC, tSC, bSC⟩, lenF := ⟨fFL, fdFL, HFL, eFL, tFL, bFL⟩ }
  have HFS := ok_str (P := l.prog) (w := w) (mg := mg) (base := base) FFS TF
  have HSL := ok_S_lines G9 TS HFS eFS tFS bFS z_str
  have gDepth := ok_depth (P := l.prog) (w := w) (base := base) D12 z_max
  have gBlanks := ok_split_blanks (P := l.prog) (w := w) (base := base) D11 z_enumerate
  have gSplit := ok_split_text D10 gBlanks
  have gTop := ok_top_of D13 gSplit gName k7 k2 z_len
  have FP : FnG l.prog w K mg base 10 VQ.fI VQ.fdI ["self", "text"] (spInitP CP 3) := ok_P_init VQ FPI gDepth gTop k6 z_isinstance z_str z_tuple z_sum z_max 3
  have HPE := ok_P_eq FPE VQ TIP z_isinstance
  have gFormed := ok_is_formed D14 W VQ z_len
  have s1 := ok_sound_of (n := 0) D16 W VQ TIS TIP gCS EI' gFormed (ok_part_zero (k := 9) D15) (by decide) z_isinstance z_all z_zip
  have r1 := ok_part_of D15 W VQ s1 (by decide)
  have s2 := ok_sound_of D16 W VQ TIS TIP gCS EI' gFormed r1 (by decide) z_isinstance z_all z_zip
  have r2 := ok_part_of D15 W VQ s2 (by decide)
  have s3 := ok_sound_of D16 W VQ TIS TIP gCS EI' gFormed r2 (by decide) z_isinstance z_all z_zip
  have gBelow := ok_below D18 W VQ z_zip 3
  have gSpots := ok_spots_of D20 EIP s3 gBelow (by decide) z_tuple
  have gHeld := ok_held D19 W VQ gFormed z_zip z_min z_max 3
  have gSpot := ok_is_spot (P := l.prog) (w := w) (base := base) D17 gName gInt z_isinstance z_tuple z_len
  have gOver := ok_spot_over D21 TS VQ TIS TIP gCS EI' EIP EO gSpot gHeld (by decide) z_isinstance z_tuple z_all z_len
  have V8 : Env8 l.prog w K mg base C CS CP CI CIP CO := { TT := TT, gI := gCI, gP := gCIP, gO := gCO, G_sound := s3, G_spots := gSpots, G_over := gOver, gT := gT, ocT := ocT, odT := odT, oslT := oslT, kVT := kVT, docT := docT, pmT := pmT, anT := anT, cdT := cdT, ctT := ctT, mT := mT, kT := kT, lT := lT, hT := hT, bT := bT }
  let T : List (Addr × Str) := [(P1, "_law_asked.<locals>.<lambda>"), (P2, "law.<locals>.<lambda>")]
  have VR : EnvR l.prog w K mg base T C CS CP CI := { VQ := VQ, FP := FP, TS := TS, TF := TF, TIS := TIS, TIF := TI, TIP := TIP, nS := noS, nP := noP, noSP := noSP, noPS := noPS, noFS := noFS, TPS := PS, lines := ⟨q9, h9, fd9, o9, HSL, b9⟩, eq := ⟨fPE, fdPE, HPE, ePE, tPE, bPE⟩, G_sound := s3 }
  have gMixed := ok_l_mixed D25 gRoll z_len z_list
  have gLNames := ok_l_names D26 gMixed
  have gScheme := ok_l_scheme D27 gRoll gPick gLNames z_sorted z_range z_tuple
  have gMade := ok_l_made_scheme D28 VF VS z_tuple
  have gBad := ok_l_bad_spots D29 gPick z_list
  have u1 : ∀ p ∈ T, p.1 = P1 → p.2 = "_law_asked.<locals>.<lambda>" := fun p hp e => by
    simp only [T, List.mem_cons, List.not_mem_nil, or_false] at hp
    rcases hp with rfl | rfl <;> first | rfl | (exact absurd e nP) | (exact absurd e nP.symm)
  have u2 : ∀ p ∈ T, p.1 = P2 → p.2 = "law.<locals>.<lambda>" := fun p hp e => by
    simp only [T, List.mem_cons, List.not_mem_nil, or_false] at hp
    rcases hp with rfl | rfl <;> first | rfl | (exact absurd e nP) | (exact absurd e nP.symm)
  have H1 := ok_l_asked (T := T) FC1 V8 noS noP TB1 (by simp [T]) u1
  have gAsked : Cg l.prog w K mg base 20 "_law_asked" (spAsked K C CS CP T) := ⟨fc1, fdc1, _, H1, mc1, kpc1, bc1⟩
  have gRight := ok_l_right D30 VR gPick gBad gAsked z_sorted z_len z_tuple z_range z_repr
  exact ok_law (T := T) F V8 VF VS VQ FP TB2 (by simp [T]) u2 (ok_dice D22 z_int z_len z_abs z_max) gScheme gMade gRight z_range z_max z_min z_len
end K12
set_option Elab.async false
set_option linter.all false
open PySem PySem.W PyProof.Rows
set_option maxRecDepth 100000 in
set_option maxHeartbeats 0 in
theorem PySem.Challenge.cw_mendbooks_k12_errors_of_spots_holds : PySem.Challenge.rw_mendbooks_k12_errors_of_spots.Holds := by
  w_on; o_law; k_head; (case hw => w_witness2)
  k_fill
  refine Vu.walk_calmT (l := PySem.Challenge.rw_mendbooks_k12_errors_of_spots) (n := 63) (k := 22) (x := "_law_script") (cs := [(716, 712), (733, 731)]) (sp := fun K => K12.spLaw K [(712, "_law_asked.<locals>.<lambda>"), (731, "law.<locals>.<lambda>")]) rfl (by decide) rfl ⟨rfl, by decide, by decide⟩ (fun w h Y => PySem.W.km_in_of Y) ?hT ?hN ?hC ?F ?hS
  case hT =>
    intro w h Y p hp
    simp only [List.mem_cons, List.not_mem_nil, or_false] at hp
    rcases hp with rfl | rfl
    · exact PySem.W.km_tabs_of Y 712 (by simp)
    · exact PySem.W.km_tabs_of Y 731 (by simp)
  case hN =>
    intro w p hp
    simp only [List.mem_cons, List.not_mem_nil, or_false] at hp
    rcases hp with rfl | rfl <;> kernel_rfl
  case hC =>
    intro w h KX p hp
    simp only [List.mem_cons, List.not_mem_nil, or_false] at hp
    rcases hp with rfl | rfl
    · exact PySem.W.codeHd_of_K (c := 716) (P := 712) KX (by kernel_rfl)
    · exact PySem.W.codeHd_of_K (c := 733) (P := 731) KX (by kernel_rfl)
  case hS =>
    intro K H a ns hl hH hS
    refine ⟨a, ns, rfl, hS, hl, fun p hp => ?_, fun _ => rfl⟩
    simp only [List.mem_cons, List.not_mem_nil, or_false] at hp
    rcases hp with rfl | rfl
    · exact LamX.TabS.nil (hH (716, 712) (by simp))
    · exact LamX.TabS.nil (hH (733, 731) (by simp))
  case F =>
    intro w mg fa h KX G XQ hmg
    refine' K12.fin (fUI := 141) (c1 := 716) (P1 := 712) (c2 := 733) (P2 := 731) (K12.law_defC KX G hmg ?lb ?la ?ll ?lc) (Vb.Df.mk KX G ?a1 ?l1 ?c1 ?k1 ?b1) (Vb.Df.mk KX G ?a2 ?l2 ?c2 ?k2 ?b2) (Vb.Df.mk KX G ?a3 ?l3 ?c3 ?k3 ?b3) (Vb.Df.mk KX G ?a4 ?l4 ?c4 ?k4 ?b4) (Vb.Df.mk KX G ?a5 ?l5 ?c5 ?k5 ?b5) (Vb.Df.mk KX G ?a6 ?l6 ?c6 ?k6 ?b6) (Vb.Df.mk KX G ?a7 ?l7 ?c7 ?k7 ?b7) (Vb.Df.mk KX G ?a8 ?l8 ?c8 ?k8 ?b8) (Vb.Df.mk KX G ?a9 ?l9 ?c9 ?k9 ?b9) (Vb.Df.mk KX G ?a10 ?l10 ?c10 ?k10 ?b10) (Vb.Df.mk KX G ?a11 ?l11 ?c11 ?k11 ?b11) (Vb.Df.mk KX G ?a12 ?l12 ?c12 ?k12 ?b12) (Vb.Df.mk KX G ?a13 ?l13 ?c13 ?k13 ?b13) (Vb.Df.mk KX G ?a14 ?l14 ?c14 ?k14 ?b14) (Vb.Df.mk KX G ?a15 ?l15 ?c15 ?k15 ?b15) (Vb.Df.mk KX G ?a16 ?l16 ?c16 ?k16 ?b16) (Vb.Df.mk KX G ?a17 ?l17 ?c17 ?k17 ?b17) (Vb.Df.mk KX G ?a18 ?l18 ?c18 ?k18 ?b18) (Vb.Df.mk KX G ?a19 ?l19 ?c19 ?k19 ?b19) (Vb.Df.mk KX G ?a20 ?l20 ?c20 ?k20 ?b20) (Vb.Df.mk KX G ?a21 ?l21 ?c21 ?k21 ?b21) (Vb.Df.mk KX G ?a22 ?l22 ?c22 ?k22 ?b22) (Vb.Df.mk KX G ?a23 ?l23 ?c23 ?k23 ?b23) (Vb.Df.mk KX G ?a24 ?l24 ?c24 ?k24 ?b24) (Vb.Df.mk KX G ?a25 ?l25 ?c25 ?k25 ?b25) (Vb.Df.mk KX G ?a26 ?l26 ?c26 ?k26 ?b26) (Vb.Df.mk KX G ?a27 ?l27 ?c27 ?k27 ?b27) (Vb.Df.mk KX G ?a28 ?l28 ?c28 ?k28 ?b28) (Vb.Df.mk KX G ?a29 ?l29 ?c29 ?k29 ?b29) (Vb.Df.mk KX G ?a30 ?l30 ?c30 ?k30 ?b30) (K12.Tl.mk KX G ?ta ?tl ?tc ?tk ?tb) (K12.Mc.mk KX G ?xa1 ?xl1 ?xc1 ?xk1 ?xb1) (by decide) (PySem.W.mg_of KX G ?gg1) (PySem.W.mg_of KX G ?gg2) (PySem.W.mg_of KX G ?gg3) (PySem.W.mg_of KX G ?gg4) (PySem.W.mg_of KX G ?gg5) (PySem.W.mg_of KX G ?gg6) (PySem.W.mg_of KX G ?gg7) (PySem.W.mg_of KX G ?n0) (PySem.W.mg_of KX G ?n1) (PySem.W.mg_of KX G ?n2) (PySem.W.mg_of KX G ?n3) (PySem.W.mg_of KX G ?n4) (PySem.W.mg_of KX G ?n5) (PySem.W.mg_of KX G ?n6) (PySem.W.mg_of KX G ?n7) ?jmC ?jkC ?jmCS ?jkCS ?jmCP ?jkCP ?eFI ?tFI ?eFL ?tFL ?eFE ?tFE ?eFS ?tFS ?eSI ?tSI ?eSX ?tSX ?eSC ?tSC ?ePI ?tPI ?ePE ?tPE ?nSX ?nU (K12.Mt.mk ?mlFI ?mcFI ?mkFI ?mbFI) (K12.Mt.mk ?mlFL ?mcFL ?mkFL ?mbFL) (K12.Mt.mk ?mlFE ?mcFE ?mkFE ?mbFE) (K12.Mt.mk ?mlFS ?mcFS ?mkFS ?mbFS) (K12.Mt.mk ?mlSI ?mcSI ?mkSI ?mbSI) (K12.Mt.mk ?mlSX ?mcSX ?mkSX ?mbSX) (K12.Mt.mk ?mlSC ?mcSC ?mkSC ?mbSC) (K12.Mt.mk ?mlPI ?mcPI ?mkPI ?mbPI) (K12.Mt.mk ?mlPE ?mcPE ?mkPE ?mbPE) (K12.Mt.mk ?mlUI ?mcUI ?mkUI ?mbUI) ⟨_, _, ⟨?pa1, ?pb1, ?pc1, K12.of_askR (g := 218) ?pd1⟩, K12.Mt.mk ?pl1 ?pe1 ?pk1 ?pf1⟩ ⟨_, _, ⟨?pa2, ?pb2, ?pc2, K12.of_askR (g := 226) ?pd2⟩, K12.Mt.mk ?pl2 ?pe2 ?pk2 ?pf2⟩ ⟨_, _, ⟨?pa3, ?pb3, ?pc3, K12.of_askR (g := 234) ?pd3⟩, K12.Mt.mk ?pl3 ?pe3 ?pk3 ?pf3⟩ ⟨_, _, ⟨?pa4, ?pb4, ?pc4, K12.of_askR (g := 304) ?pd4⟩, K12.Mt.mk ?pl4 ?pe4 ?pk4 ?pf4⟩ ⟨_, _, ⟨?pa5, ?pb5, ?pc5, K12.of_askR (g := 312) ?pd5⟩, K12.Mt.mk ?pl5 ?pe5 ?pk5 ?pf5⟩ ⟨_, _, ⟨?pa6, ?pb6, ?pc6, K12.of_askR (g := 320) ?pd6⟩, K12.Mt.mk ?pl6 ?pe6 ?pk6 ?pf6⟩ ⟨_, _, ⟨?pa7, ?pb7, ?pc7, K12.of_askR (g := 328) ?pd7⟩, K12.Mt.mk ?pl7 ?pe7 ?pk7 ?pf7⟩ ⟨_, _, ⟨?pa8, ?pb8, ?pc8, K12.of_askR (g := 336) ?pd8⟩, K12.Mt.mk ?pl8 ?pe8 ?pk8 ?pf8⟩ ⟨_, _, ⟨?pa9, ?pb9, ?pc9, K12.of_askR (g := 342) ?pd9⟩, K12.Mt.mk ?pl9 ?pe9 ?pk9 ?pf9⟩ ⟨_, _, ⟨?pa10, ?pb10, ?pc10, K12.of_askR (g := 474) ?pd10⟩, K12.Mt.mk ?pl10 ?pe10 ?pk10 ?pf10⟩ ⟨_, _, ⟨?pa11, ?pb11, ?pc11, K12.of_askR (g := 482) ?pd11⟩, K12.Mt.mk ?pl11 ?pe11 ?pk11 ?pf11⟩ ⟨_, _, ⟨?pa12, ?pb12, ?pc12, K12.of_askR (g := 490) ?pd12⟩, K12.Mt.mk ?pl12 ?pe12 ?pk12 ?pf12⟩ ⟨_, _, ⟨?pa13, ?pb13, ?pc13, K12.of_askR (g := 498) ?pd13⟩, K12.Mt.mk ?pl13 ?pe13 ?pk13 ?pf13⟩ ⟨_, _, ⟨?pa14, ?pb14, ?pc14, K12.of_askR (g := 506) ?pd14⟩, K12.Mt.mk ?pl14 ?pe14 ?pk14 ?pf14⟩ ⟨_, _, ⟨?pa15, ?pb15, ?pc15, K12.of_askR (g := 514) ?pd15⟩, K12.Mt.mk ?pl15 ?pe15 ?pk15 ?pf15⟩ ?aF ?aS ?aP ?aT ?aK ?aI ?aIP ?aO ?aU (PySem.W.mg_none_of KX G ?z1) (PySem.W.mg_none_of KX G ?z2) (PySem.W.mg_none_of KX G ?z3) (PySem.W.mg_none_of KX G ?z4) (PySem.W.mg_none_of KX G ?z5) (PySem.W.mg_none_of KX G ?z6) (PySem.W.mg_none_of KX G ?z7) (PySem.W.mg_none_of KX G ?z8) (PySem.W.mg_none_of KX G ?z9) (PySem.W.mg_none_of KX G ?z10) (PySem.W.mg_none_of KX G ?z11) (PySem.W.mg_none_of KX G ?z12) (PySem.W.mg_none_of KX G ?z13) (PySem.W.mg_none_of KX G ?z14) (PySem.W.mg_none_of KX G ?z15) (PySem.W.mg_none_of KX G ?z16) (PySem.W.mg_none_of KX G ?z17) (PySem.W.mg_none_of KX G ?z18)
    (case lb => exact fun _ _ _ _ _ _ _ _ => .of_eq rfl); (case la => k_is); (case ll => k_is); (case lc => k_is)
    (case a1 => k_is); (case l1 => k_is); (case c1 => k_is); (case k1 => k_is); (case b1 => exact fun _ _ _ _ _ _ us hl => match us, hl with | [_], _ => rfl)
    (case a2 => k_is); (case l2 => k_is); (case c2 => k_is); (case k2 => k_is); (case b2 => exact fun _ _ _ _ _ _ us hl => match us, hl with | [_], _ => rfl)
    (case a3 => k_is); (case l3 => k_is); (case c3 => k_is); (case k3 => k_is); (case b3 => exact fun _ _ _ _ _ _ us hl => match us, hl with | [_], _ => rfl)
    (case a4 => k_is); (case l4 => k_is); (case c4 => k_is); (case k4 => k_is); (case b4 => exact fun _ _ _ _ _ _ us hl => match us, hl with | [_], _ => rfl)
    (case a5 => k_is); (case l5 => k_is); (case c5 => k_is); (case k5 => k_is); (case b5 => exact fun _ _ _ _ _ _ us hl => match us, hl with | [_], _ => rfl)
    (case a6 => k_is); (case l6 => k_is); (case c6 => k_is); (case k6 => k_is); (case b6 => exact fun _ _ _ _ _ _ us hl => match us, hl with | [_], _ => rfl)
    (case a7 => k_is); (case l7 => k_is); (case c7 => k_is); (case k7 => k_is); (case b7 => exact fun _ _ _ _ _ _ us hl => match us, hl with | [_], _ => rfl)
    (case a8 => k_is); (case l8 => k_is); (case c8 => k_is); (case k8 => k_is); (case b8 => exact fun _ _ _ _ _ _ us hl => match us, hl with | [_, _, _], _ => rfl)
    (case a9 => k_is); (case l9 => k_is); (case c9 => k_is); (case k9 => k_is); (case b9 => exact fun _ _ _ _ _ _ us hl => match us, hl with | [_, _], _ => rfl)
    (case a10 => k_is); (case l10 => k_is); (case c10 => k_is); (case k10 => k_is); (case b10 => exact fun _ _ _ _ _ _ us hl => match us, hl with | [_], _ => rfl)
    (case a11 => k_is); (case l11 => k_is); (case c11 => k_is); (case k11 => k_is); (case b11 => exact fun _ _ _ _ _ _ us hl => match us, hl with | [_], _ => rfl)
    (case a12 => k_is); (case l12 => k_is); (case c12 => k_is); (case k12 => k_is); (case b12 => exact fun _ _ _ _ _ _ us hl => match us, hl with | [_], _ => rfl)
    (case a13 => k_is); (case l13 => k_is); (case c13 => k_is); (case k13 => k_is); (case b13 => exact fun _ _ _ _ _ _ us hl => match us, hl with | [_], _ => rfl)
    (case a14 => k_is); (case l14 => k_is); (case c14 => k_is); (case k14 => k_is); (case b14 => exact fun _ _ _ _ _ _ us hl => match us, hl with | [_, _], _ => rfl)
    (case a15 => k_is); (case l15 => k_is); (case c15 => k_is); (case k15 => k_is); (case b15 => exact fun _ _ _ _ _ _ us hl => match us, hl with | [_, _, _], _ => rfl)
    (case a16 => k_is); (case l16 => k_is); (case c16 => k_is); (case k16 => k_is); (case b16 => exact fun _ _ _ _ _ _ us hl => match us, hl with | [_, _], _ => rfl)
    (case a17 => k_is); (case l17 => k_is); (case c17 => k_is); (case k17 => k_is); (case b17 => exact fun _ _ _ _ _ _ us hl => match us, hl with | [_], _ => rfl)
    (case a18 => k_is); (case l18 => k_is); (case c18 => k_is); (case k18 => k_is); (case b18 => exact fun _ _ _ _ _ _ us hl => match us, hl with | [_, _, _], _ => rfl)
    (case a19 => k_is); (case l19 => k_is); (case c19 => k_is); (case k19 => k_is); (case b19 => exact fun _ _ _ _ _ _ us hl => match us, hl with | [_, _, _], _ => rfl)
    (case a20 => k_is); (case l20 => k_is); (case c20 => k_is); (case k20 => k_is); (case b20 => exact fun _ _ _ _ _ _ us hl => match us, hl with | [_, _], _ => rfl)
    (case a21 => k_is); (case l21 => k_is); (case c21 => k_is); (case k21 => k_is); (case b21 => exact fun _ _ _ _ _ _ us hl => match us, hl with | [_, _, _], _ => rfl)
    (case a22 => k_is); (case l22 => k_is); (case c22 => k_is); (case k22 => k_is); (case b22 => exact fun _ _ _ _ _ _ us hl => match us, hl with | [_, _], _ => rfl)
    (case a23 => k_is); (case l23 => k_is); (case c23 => k_is); (case k23 => k_is); (case b23 => exact fun _ _ _ _ _ _ us hl => match us, hl with | [_, _], _ => rfl)
    (case a24 => k_is); (case l24 => k_is); (case c24 => k_is); (case k24 => k_is); (case b24 => exact fun _ _ _ _ _ _ us hl => match us, hl with | [_, _], _ => rfl)
    (case a25 => k_is); (case l25 => k_is); (case c25 => k_is); (case k25 => k_is); (case b25 => exact fun _ _ _ _ _ _ us hl => match us, hl with | [_, _], _ => rfl)
    (case a26 => k_is); (case l26 => k_is); (case c26 => k_is); (case k26 => k_is); (case b26 => exact fun _ _ _ _ _ _ us hl => match us, hl with | [_, _], _ => rfl)
    (case a27 => k_is); (case l27 => k_is); (case c27 => k_is); (case k27 => k_is); (case b27 => exact fun _ _ _ _ _ _ us hl => match us, hl with | [_, _, _], _ => rfl)
    (case a28 => k_is); (case l28 => k_is); (case c28 => k_is); (case k28 => k_is); (case b28 => exact fun _ _ _ _ _ _ us hl => match us, hl with | [_], _ => rfl)
    (case a29 => k_is); (case l29 => k_is); (case c29 => k_is); (case k29 => k_is); (case b29 => exact fun _ _ _ _ _ _ us hl => match us, hl with | [_, _], _ => rfl)
    (case a30 => k_is); (case l30 => k_is); (case c30 => k_is); (case k30 => k_is); (case b30 => exact fun _ _ _ _ _ _ us hl => match us, hl with | [_, _, _], _ => rfl)
    (case ta => k_is); (case tl => k_is); (case tc => k_is); (case tk => k_is); (case tb => exact fun _ _ _ _ _ _ us hl => match us, hl with | [_], _ => rfl)
    (case xa1 => k_is); (case xl1 => k_is); (case xc1 => k_is); (case xk1 => k_is); (case xb1 => exact fun _ _ _ _ _ _ us hl => match us, hl with | [_, _, _], _ => rfl)
    (case gg1 => k_is); (case gg2 => k_is); (case gg3 => k_is); (case gg4 => k_is); (case gg5 => k_is); (case gg6 => k_is); (case gg7 => k_is)
    (case n0 => k_is); (case n1 => k_is); (case n2 => k_is); (case n3 => k_is); (case n4 => k_is); (case n5 => k_is); (case n6 => k_is); (case n7 => k_is)
    (case jmC => k_is); (case jkC => k_is); (case jmCS => k_is); (case jkCS => k_is); (case jmCP => k_is); (case jkCP => k_is); (case eFI => k_is); (case tFI => k_is); (case eFL => k_is); (case tFL => k_is); (case eFE => k_is); (case tFE => k_is); (case eFS => k_is); (case tFS => k_is); (case eSI => k_is); (case tSI => k_is); (case eSX => k_is); (case tSX => k_is); (case eSC => k_is); (case tSC => k_is); (case ePI => k_is); (case tPI => k_is); (case ePE => k_is); (case tPE => k_is); (case nSX => k_is); (case nU => k_is)
    (case mlFI => k_is); (case mcFI => k_is); (case mkFI => k_is); (case mbFI => exact fun _ _ _ _ _ _ us hl => match us, hl with | [_, _, _, _], _ => rfl)
    (case mlFL => k_is); (case mcFL => k_is); (case mkFL => k_is); (case mbFL => exact fun _ _ _ _ _ _ us hl => match us, hl with | [_], _ => rfl)
    (case mlFE => k_is); (case mcFE => k_is); (case mkFE => k_is); (case mbFE => exact fun _ _ _ _ _ _ us hl => match us, hl with | [_, _], _ => rfl)
    (case mlFS => k_is); (case mcFS => k_is); (case mkFS => k_is); (case mbFS => exact fun _ _ _ _ _ _ us hl => match us, hl with | [_], _ => rfl)
    (case mlSI => k_is); (case mcSI => k_is); (case mkSI => k_is); (case mbSI => exact fun _ _ _ _ _ _ us hl => match us, hl with | [_, _, _, _], _ => rfl)
    (case mlSX => k_is); (case mcSX => k_is); (case mkSX => k_is); (case mbSX => exact fun _ _ _ _ _ _ us hl => match us, hl with | [_, _], _ => rfl)
    (case mlSC => k_is); (case mcSC => k_is); (case mkSC => k_is); (case mbSC => exact fun _ _ _ _ _ _ us hl => match us, hl with | [_, _], _ => rfl)
    (case mlPI => k_is); (case mcPI => k_is); (case mkPI => k_is); (case mbPI => exact fun _ _ _ _ _ _ us hl => match us, hl with | [_, _], _ => rfl)
    (case mlPE => k_is); (case mcPE => k_is); (case mkPE => k_is); (case mbPE => exact fun _ _ _ _ _ _ us hl => match us, hl with | [_, _], _ => rfl)
    (case mlUI => k_is); (case mcUI => k_is); (case mkUI => k_is); (case mbUI => exact fun _ _ _ _ _ _ us hl => match us, hl with | [_, _], _ => rfl)
    (case pa1 => k_is); (case pb1 => k_is); (case pc1 => k_is); (case pd1 => kernel_rfl); (case pl1 => k_is); (case pe1 => k_is); (case pk1 => k_is); (case pf1 => exact fun _ _ _ _ _ _ us hl => match us, hl with | [_], _ => rfl)
    (case pa2 => k_is); (case pb2 => k_is); (case pc2 => k_is); (case pd2 => kernel_rfl); (case pl2 => k_is); (case pe2 => k_is); (case pk2 => k_is); (case pf2 => exact fun _ _ _ _ _ _ us hl => match us, hl with | [_], _ => rfl)
    (case pa3 => k_is); (case pb3 => k_is); (case pc3 => k_is); (case pd3 => kernel_rfl); (case pl3 => k_is); (case pe3 => k_is); (case pk3 => k_is); (case pf3 => exact fun _ _ _ _ _ _ us hl => match us, hl with | [_], _ => rfl)
    (case pa4 => k_is); (case pb4 => k_is); (case pc4 => k_is); (case pd4 => kernel_rfl); (case pl4 => k_is); (case pe4 => k_is); (case pk4 => k_is); (case pf4 => exact fun _ _ _ _ _ _ us hl => match us, hl with | [_], _ => rfl)
    (case pa5 => k_is); (case pb5 => k_is); (case pc5 => k_is); (case pd5 => kernel_rfl); (case pl5 => k_is); (case pe5 => k_is); (case pk5 => k_is); (case pf5 => exact fun _ _ _ _ _ _ us hl => match us, hl with | [_], _ => rfl)
    (case pa6 => k_is); (case pb6 => k_is); (case pc6 => k_is); (case pd6 => kernel_rfl); (case pl6 => k_is); (case pe6 => k_is); (case pk6 => k_is); (case pf6 => exact fun _ _ _ _ _ _ us hl => match us, hl with | [_], _ => rfl)
    (case pa7 => k_is); (case pb7 => k_is); (case pc7 => k_is); (case pd7 => kernel_rfl); (case pl7 => k_is); (case pe7 => k_is); (case pk7 => k_is); (case pf7 => exact fun _ _ _ _ _ _ us hl => match us, hl with | [_], _ => rfl)
    (case pa8 => k_is); (case pb8 => k_is); (case pc8 => k_is); (case pd8 => kernel_rfl); (case pl8 => k_is); (case pe8 => k_is); (case pk8 => k_is); (case pf8 => exact fun _ _ _ _ _ _ us hl => match us, hl with | [_], _ => rfl)
    (case pa9 => k_is); (case pb9 => k_is); (case pc9 => k_is); (case pd9 => kernel_rfl); (case pl9 => k_is); (case pe9 => k_is); (case pk9 => k_is); (case pf9 => exact fun _ _ _ _ _ _ us hl => match us, hl with | [_], _ => rfl)
    (case pa10 => k_is); (case pb10 => k_is); (case pc10 => k_is); (case pd10 => kernel_rfl); (case pl10 => k_is); (case pe10 => k_is); (case pk10 => k_is); (case pf10 => exact fun _ _ _ _ _ _ us hl => match us, hl with | [_], _ => rfl)
    (case pa11 => k_is); (case pb11 => k_is); (case pc11 => k_is); (case pd11 => kernel_rfl); (case pl11 => k_is); (case pe11 => k_is); (case pk11 => k_is); (case pf11 => exact fun _ _ _ _ _ _ us hl => match us, hl with | [_], _ => rfl)
    (case pa12 => k_is); (case pb12 => k_is); (case pc12 => k_is); (case pd12 => kernel_rfl); (case pl12 => k_is); (case pe12 => k_is); (case pk12 => k_is); (case pf12 => exact fun _ _ _ _ _ _ us hl => match us, hl with | [_], _ => rfl)
    (case pa13 => k_is); (case pb13 => k_is); (case pc13 => k_is); (case pd13 => kernel_rfl); (case pl13 => k_is); (case pe13 => k_is); (case pk13 => k_is); (case pf13 => exact fun _ _ _ _ _ _ us hl => match us, hl with | [_], _ => rfl)
    (case pa14 => k_is); (case pb14 => k_is); (case pc14 => k_is); (case pd14 => kernel_rfl); (case pl14 => k_is); (case pe14 => k_is); (case pk14 => k_is); (case pf14 => exact fun _ _ _ _ _ _ us hl => match us, hl with | [_], _ => rfl)
    (case pa15 => k_is); (case pb15 => k_is); (case pc15 => k_is); (case pd15 => kernel_rfl); (case pl15 => k_is); (case pe15 => k_is); (case pk15 => k_is); (case pf15 => exact fun _ _ _ _ _ _ us hl => match us, hl with | [_], _ => rfl)
    (case aF => kernel_rfl); (case aS => kernel_rfl); (case aP => kernel_rfl); (case aT => kernel_rfl); (case aK => kernel_rfl); (case aI => kernel_rfl); (case aIP => kernel_rfl); (case aO => kernel_rfl); (case aU => kernel_rfl)
    (case z1 => k_is); (case z2 => k_is); (case z3 => k_is); (case z4 => k_is); (case z5 => k_is); (case z6 => k_is); (case z7 => k_is); (case z8 => k_is); (case z9 => k_is); (case z10 => k_is); (case z11 => k_is); (case z12 => k_is); (case z13 => k_is); (case z14 => k_is); (case z15 => k_is); (case z16 => k_is); (case z17 => k_is); (case z18 => k_is)
