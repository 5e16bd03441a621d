import PyProof.Rows.All
import Wide.All
import OpenK.AllK
import Wide.FinOn
import HandS.ForMost
import HandS.IsInst
import HandS.Wide
import HandS.WideMore
import HandS.Flow
import HandS.Style
import HandS.StrMore
import HandS.RaiseMore
import HandS.FStr
import KE.KxText
import HandS.Walk
import KE.KExcIs
import KE.KExcInit
import HandS.ExcInit
import HandS.ExcValue
import HandS.ExcField
import HandS.TryMany
import HandS.HotCalls
import HandS.Property
import HandS.OwnEq
import HandS.Lambda
import HandS.ClsMeth
import KE.KCallOwn
import HandS.TupSets
import HandS.Replace
import HandS.Star
import HandS.TupAny
import KE.KeyNested
import HandS.DictComp
import HandS.ExcOwn
import HandS.Deep
import HandS.Iter
import HandS.DictTup
import HandS.WordsExc
import KE.GoesEnum
import HandS.Comp
import HandS.Sort
import HandS.Conv
import PyProof.NeKinds
import KE.SortData
import KE.DatumOrd
import PyProof.ReprText
import PyProof.StrLawsRepr
import HandS.EndTab
import PySem.Challenge.RW_mendbooks_k04_whole_lines_of_schemes
set_option Elab.async false
set_option linter.all false
set_option autoImplicit false
set_option maxRecDepth 100000
set_option maxHeartbeats 4000000
/-! Vb: the layer below all laws: defs that are entered where no container is being written out (calm room), repr of data, powers. -/
namespace Vb
open PySem PySem.Spec PyProof.Rows L2

/-- nothing is being written out by repr around here -/
def Calm (A : Around) : Prop := A.guards = some []
theorem Calm.deep {A : Around} (h : Calm A) (env : Env) : Calm (A.deeper env) := h
theorem calm_caller : Calm callerA := rfl

/-- a promise that is kept where nothing is being written out -/
structure FnG (P : Program) (w : World) (K : PySem.W.Frag) (mg : Str → Option Value) (base : Heap) (k : Nat) (f : Addr) (fd : FuncData) (ps : List Str) (sp : Sp) : Prop where
  count : ∀ vs H Q E, sp vs H Q E → vs.length = ps.length
  goes : ∀ (A : Around) (outer : List Env) (s : Shared) (H : Hp) (args : Args) (us : List Value) (vs : List V) (Q : VK) (E : XK), Calm A → Room k A →
    Env0 P w K mg base A outer s H → BindsTo s fd args (ps.zip us) → Vals vs us → sp vs H Q E → codeAny (model P w) A (.call (.ref f) args) (CR CX0 outer P w H s Q E) s

section
variable {P : Program} {w : World} {K : PySem.W.Frag} {mg : Str → Option Value} {base : Heap}
theorem FnG.of {k : Nat} {f : Addr} {fd : FuncData} {ps : List Str} {sp : Sp} (F : FnOk P w K mg base CX0 k f fd ps sp) : FnG P w K mg base k f fd ps sp :=
  ⟨F.len, fun A outer s H args us vs Q E _ hr => F.run A outer s H args us vs Q E hr⟩

/-- a def's promise by its body, entered in calm room -/
theorem goes_by {x qual : Str} {st : Stmt} {f : Addr} {fd : FuncData} {N ps : List Str} {k : Nat} {sp : Sp} (F : Fun K x qual st f fd) (S : FnScope N ps (defScope st)) (len : ∀ vs H Q E, sp vs H Q E → vs.length = ps.length)
    (body : ∀ (cdv : Value) (A : Around) (outer : List Env) (s : Shared) (H : Hp) (vs : List V) (Q : VK) (E : XK), Calm (A.deeper (envOfC qual (defScope st) s.heap.objs.size f cdv)) → Room k (A.deeper (envOfC qual (defScope st) s.heap.objs.size f cdv)) → sp vs H Q E →
      ∃ t, PSs (cxOf CX0 P w K mg base N qual (defScope st) f cdv A outer s H E).nox (defBody st) t ∧ t { nx := fun _ H' => Q .non H', rt := Q } (start N vs) H) : FnG P w K mg base (k + 1) f fd ps sp := by
  obtain ⟨oc, od, kV, doc, pm, an, cdv, ct, osl, rfl, lk, hcd⟩ := F.ex
  refine ⟨len, fun A outer s H args us vs Q E hc hr e0 hb r hsp => ?_⟩
  have hl := len _ _ _ _ hsp
  have KX : K.In s.heap := e0.mod.kin.keeps fun b o e => (e0.bs b o e).1
  have lim : s.heap.NoLimit := e0.mod.nolimit.keeps fun b o e => (e0.bs b o e).1
  have kinds : ∀ y ∈ ps.zip us, (defScope st).names.lookup y.1 = some .local ∨ ((defScope st).names.lookup y.1 = some .cell ∧ ((cellsFrom (s.heap.objs.size + 1) (defScope st).names []).lookup y.1).isSome = true) := by
    intro y hy
    obtain ⟨n, v⟩ := y
    exact (S.par n (List.of_mem_zip hy).1).imp id fun q => ⟨q, PySem.W.cellsFrom_some _ _ _ (Or.inl q)⟩
  refine codeAny_call_function hr.depth (KX _ _ lk) rfl S.co S.gen rfl (PySem.W.codeRec_of KX hcd) (hb _ _ _ _ ?_)
  refine wpAny_newFunctionEnv_cells S.kind kinds fun env he s1 x => ?_
  cases he
  refine ⟨lim.keeps x.toInCall.keep, codeAny_func ?_⟩
  obtain ⟨t, ht, hq⟩ := body cdv A outer s H vs Q E (hc.deep _) (hr.deeper _) hsp
  have I := inv_start (CX := CX0) (E := E) S hr.hd e0 hl r x
  refine wpAny_mono (ht.nox.run [] s1 (start N vs) H _ I hq) (fun fl s' hs => ?_) (fun _ _ z => z)
  cases fl with
  | brk => exact hs.elim fun _ z => z.elim fun _ z => z.2.elim
  | cont => exact hs.elim fun _ z => z.elim fun _ z => z.2.elim
  | ret u =>
    obtain ⟨v, σ', H', J, rv, q⟩ := hs
    exact ⟨v, H', J.os, J.bare, J.base, J.hok, rv, q⟩
  | next =>
    obtain ⟨σ', H', J, q⟩ := hs
    exact ⟨V.non, H', J.os, J.bare, J.base, J.hok, rfl, q⟩
end

section
variable {X : Cx} {k : Nat} {f : Addr} {fd : FuncData} {ps : List Str} {sp : Sp} {dvs : List V} {ds : List Value} {E : XK} {x : Str} {p pos : Pos} {e : Expr} {es : List Expr} {t : TA}
theorem goes_in {pins : List (Addr × Obj)} {σ : L2.St} {H : Hp} {s : Shared} {Q : VK} {us : List Value} {vs : List V} (F : FnG X.prog X.w X.K X.mg X.base k f fd ps sp) (hc : Calm X.A) (hr : Room k X.A) (hb : Binds X.K fd ps ds) (hd : Vals dvs ds) (hx : Passes CX0 X E)
    (I : Inv X pins σ H s) (r : Vals vs us) (h : sp (vs ++ dvs) H Q E) : wpAny (model X.prog X.w) X.A (call (.ref f) us) (EP X pins σ Q) X.xe s := by
  have both : Vals (vs ++ dvs) (us ++ ds) := r.append hd
  have hl : (us ++ ds).length = ps.length := both.length ▸ F.count _ _ _ _ h
  have go := F.goes X.A X.stack s H ⟨us, []⟩ (us ++ ds) (vs ++ dvs) Q E hc hr I.env0 (hb s us I.kIn hl) both h
  refine wpAny_call (codeAny_mono go fun r s' hq => ?_)
  match r, hq with
  | .error e, hq => exact hx pins σ H s e s' I hq
  | .ok (.ret u), hq => exact I.after hq
  | .ok .next, hq => exact hq.elim
  | .ok .brk, hq => exact hq.elim
  | .ok .cont, hq => exact hq.elim
/-- f(e, ..), f entered in calm room -/
theorem pe_callG (F : FnG X.prog X.w X.K X.mg X.base k f fd ps sp) (hc : Calm X.A) (hr : Room k X.A) (hg : Gl X x) (hm : X.mg x = some (.ref f)) (hk : PySem.W.keepIn X.K (.ref f) = true) (hb : Binds X.K fd ps ds) (hd : Vals dvs ds) (hx : Passes CX0 X E)
    (ha : PA X (e :: es) t) (hdb : (x == ("__debug__" : Str)) = false := by decide) (he : starEach (e :: es) X.env = (false, eval e X.env) :: starEach es X.env := by rfl) (hpl : (backTo pos (starEach es X.env)).any (·.1) = false := by rfl) :
    PE X (.Call (.Name x p) (e :: es) [] pos) (tCall sp dvs E t) :=
  ⟨fun pins s σ H Q I h => wpAny_Call_Name_kw (ld_glob I hg hm
    (PySem.W.callWith_K (h₀ := X.base) I.ok.mod.kin hk (thn (ha.run pos pins s σ H _ I h) fun us s1 ⟨vs, H1, I1, r, q⟩ => ⟨I1.kIn, goes_in F hc hr hb hd hx I1 r q⟩) he hpl) hdb)⟩
/-- f() -/
theorem pe_callG0 (F : FnG X.prog X.w X.K X.mg X.base k f fd ps sp) (hc : Calm X.A) (hr : Room k X.A) (hg : Gl X x) (hm : X.mg x = some (.ref f)) (hk : PySem.W.keepIn X.K (.ref f) = true) (hb : Binds X.K fd ps ds) (hd : Vals dvs ds) (hx : Passes CX0 X E)
    (hdb : (x == ("__debug__" : Str)) = false := by decide) : PE X (.Call (.Name x p) [] [] pos) (tCall sp dvs E tNil) :=
  ⟨fun pins s σ H Q I h => wpAny_Call_Name_kw (ld_glob I hg hm (PySem.W.callWith_K0 I.kIn hk (goes_in (us := []) F hc hr hb hd hx I .nil h)) hdb)⟩
end
/-! ### the law's own end, in calm room -/
section
variable {P : Program} {w : World} {K : PySem.W.Frag} {mg mb : Str → Option Value} {s₁ : Shared} {H : Hp} {a : Addr}
/-- what is seen behind the top once the script alone may be tracked -/
structure Lone (K : PySem.W.Frag) (s₁ : Shared) (H : Hp) (a : Addr) : Prop where
  only : Only H
  at_a : ∀ b, H b ≠ none → b = a
  noK : H a ≠ none → K.lookup a = none
  noD : ∀ o, s₁.heap.get? a = some o → ∀ es ep, o.data ≠ .dict es ep
theorem Lone.bare (L : Lone K s₁ H a) {b : Addr} {o : Obj} (e : s₁.heap.get? b = some o) (h : (∃ es ep, o.data = .dict es ep) ∨ K.lookup b = some o) : H b = none := by
  refine Classical.byContradiction fun n => ?_
  have eb := L.at_a b n
  subst eb
  rcases h with ⟨es, ep, d⟩ | h
  · exact L.noD o e es ep d
  · exact nomatch (L.noK n).symm.trans h
theorem Lone.env (L : Lone K s₁ H a) (KX : K.In s₁.heap) (hns : s₁.heap.Ns mainGlobals mg) (hb : s₁.heap.Ns builtinsNs mb) (hbb : ∀ x : Str, x ≠ "__name__" → mb x = bootBuiltins x) (hlim : s₁.heap.NoLimit) (hg : s₁.gens = #[])
    (hok : HOk P w H s₁.heap) : K.In (hidT s₁.heap H) ∧ (hidT s₁.heap H).Ns mainGlobals mg ∧ Env0 P w K mg (hidT s₁.heap H) callerA [] s₁ H := by
  have ns : ∀ {b : Addr} {m : Str → Option Value}, s₁.heap.Ns b m → (hidT s₁.heap H).Ns b m := fun ⟨o, es, ep, e, d, r⟩ => ⟨o, es, ep, hidT_get e (L.bare e (.inl ⟨es, ep, d⟩)), d, r⟩
  have kin : K.In (hidT s₁.heap H) := fun b o e => hidT_get (KX b o e) (L.bare (KX b o e) (.inr e))
  obtain ⟨mc, c1, c2⟩ := hlim
  exact ⟨kin, ns hns, rfl, ⟨kin, ns hns, ⟨mb, ns hb, hbb⟩, ⟨mc, ns c1, c2⟩⟩, fun b o e => of_hidT e, Nat.le_of_eq (hidT_size _ _), trivial, fun b z => (List.not_mem_nil z).elim, hok, .of_eq hg⟩
theorem Lone.kept (L : Lone K s₁ H a) {s' : Shared} (hok : HOk P w H s₁.heap) {u : Value} (c : CE [] P w H s₁ (fun v _ => v = .bl true) u s') : Flow.ret u = .ret (.bool true) ∧ OldK s₁.heap s'.heap ∧ s'.os = s₁.os ∧ AllBare s'.gens := by
  obtain ⟨v, H', os, bare, un, hok', r', q⟩ := c
  cases (show v = .bl true from q)
  cases (show u = Value.bool true from r')
  refine ⟨rfl, OldK.of_keep fun b o e => ?_, os, bare⟩
  cases q : H b with
  | none => exact un.keep b o e q (fun z => (List.not_mem_nil z).elim) (fun z => (List.not_mem_nil z).elim)
  | some u =>
    rcases L.only b with z | ⟨ob, xs, z⟩
    · exact nomatch q.symm.trans z
    · have before := (hok b _ z).1
      have after := (hok' b _ (un.frzs b ob _ z)).1
      cases before.symm.trans e
      exact after
variable {k : Nat} {fa : Addr} {fd : FuncData} {x : Str} {sp : Sp} {vs : List Value} {ns : List Int}
theorem law_goes (KX : K.In s₁.heap) (hns : s₁.heap.Ns mainGlobals mg) (hb : s₁.heap.Ns builtinsNs mb) (hbb : ∀ x : Str, x ≠ "__name__" → mb x = bootBuiltins x) (hlim : s₁.heap.NoLimit) (hg : s₁.gens = #[])
    (ha : s₁.heap.get? a = some { cls := .type "list", data := .seq vs.toArray }) (hi : IntsAre vs ns) (hl : ns.length ≤ sizeLine) (hr : Room k callerA)
    (F : ∀ base : Heap, K.In base → base.Ns mainGlobals mg → FnG P w K mg base k fa fd [x] sp) (bind : ∀ (s : Shared) (u : Value), BindsTo s fd ⟨[u], []⟩ [(x, u)])
    (hsp : ∀ H : Hp, Only H → SqL K H a (ns.map V.int) → sp [.ref a] H (fun v _ => v = .bl true) fun _ _ _ => False) :
    codeAny (model P w) callerA (.call (.ref fa) ⟨[.ref a], []⟩) (fun r s' => r = .ok (.ret (.bool true)) ∧ OldK s₁.heap s'.heap ∧ s'.os = s₁.os ∧ AllBare s'.gens) s₁ := by
  have rv := vals_ints hi
  have core : ∀ H : Hp, Lone K s₁ H a → SqL K H a (ns.map V.int) → HOk P w H s₁.heap → codeAny (model P w) callerA (.call (.ref fa) ⟨[.ref a], []⟩) (fun r s' => r = .ok (.ret (.bool true)) ∧ OldK s₁.heap s'.heap ∧ s'.os = s₁.os ∧ AllBare s'.gens) s₁ := by
    intro H L hS hok
    obtain ⟨kin, kns, e0⟩ := L.env (P := P) (w := w) KX hns hb hbb hlim hg hok
    refine codeAny_mono ((F _ kin kns).goes callerA [] s₁ H ⟨[.ref a], []⟩ [.ref a] [.ref a] _ _ calm_caller hr e0 (bind s₁ (.ref a)) (.cons rfl .nil) (hsp H L.only hS)) fun r s' h => ?_
    match r, h with
    | .error _, h => exact h.elim
    | .ok .next, h => exact h.elim
    | .ok .brk, h => exact h.elim
    | .ok .cont, h => exact h.elim
    | .ok (.ret u), h =>
      obtain ⟨e, rest⟩ := L.kept hok h
      exact ⟨congrArg Except.ok e, rest⟩
  have noD : ∀ o, s₁.heap.get? a = some o → ∀ es ep, o.data ≠ .dict es ep := fun o e es ep d => by
    cases ha.symm.trans e
    cases (show Data.seq vs.toArray _ = Data.dict es ep from d)
  cases hk : K.lookup a with
  | some o =>
    cases ha.symm.trans (KX a o hk)
    exact core (fun _ => none) ⟨fun _ => .inl rfl, fun b z => (z rfl).elim, fun z => (z rfl).elim, noD⟩ (.inr ⟨_, vs.toArray, _, hk, rfl, rfl, rfl, by rw [List.size_toArray, hi.length]; exact hl, by simpa using rv⟩) (fun b u z => nomatch (show (none : Option HO) = some u from z))
  | none =>
    let T : HO := .frz { cls := .type "list", data := .seq vs.toArray } (.lst (ns.map V.int))
    have tA : ∀ b u, (if b = a then some T else none : Option HO) = some u → b = a ∧ u = T := fun b u z => by
      by_cases q : b = a
      · rw [if_pos q] at z
        exact ⟨q, (Option.some.inj z).symm⟩
      · rw [if_neg q] at z
        cases z
    refine core (fun b => if b = a then some T else none) ⟨fun b => ?_, fun b z => ?_, fun _ => hk, noD⟩ (.inl (.inr ⟨{ cls := .type "list", data := .seq vs.toArray }, if_pos rfl⟩)) (fun b u z => ?_)
    · by_cases q : b = a
      · exact .inr ⟨_, _, if_pos q⟩
      · exact .inl (if_neg q)
    · exact Classical.byContradiction fun q => z (if_neg q)
    · obtain ⟨e1, e2⟩ := tA b u z
      subst e1
      subst e2
      exact ⟨ha, by rw [List.length_map]; exact hl, vs, _, rv, ha⟩
end
/-- the goal that the head leaves, from the law's promise in calm room -/
theorem walk_calm {l : PySem.W.OpenLaw} {n k : Nat} {q : Program} {loose : List Str} {XP : (Str → Option Value) → Heap → Prop} {YP : World → Heap → Prop} {d : DefRec} {K : Params → PySem.W.Frag} {sp : PySem.W.Frag → Sp} {x : Str}
    (hn : l.most = some n) (hn2 : n ≤ sizeLine) (hdf : d.params.defaults = []) (hr : Room k callerA) (hY : ∀ (w : World) (h : Heap), YP w h → (K w.params).In h)
    (F : ∀ (w : World) (mg : Str → Option Value) (fa : Addr) (h : Heap), (K w.params).In h → h.Ns mainGlobals mg → mg d.name = some (.ref fa) →
      ∃ fd : FuncData, (∀ (s : Shared) (u : Value), BindsTo s fd ⟨[u], []⟩ [(x, u)]) ∧ ∀ base : Heap, (K w.params).In base → base.Ns mainGlobals mg → FnG l.prog w (K w.params) mg base k fa fd [x] (sp (K w.params)))
    (hsp : ∀ (K : PySem.W.Frag) (H : Hp) (a : Addr) (ns : List Int), ns.length ≤ n → Only H → SqL K H a (ns.map V.int) → sp K [.ref a] H (fun v _ => v = .bl true) fun _ _ _ => False) :
    PySem.W.WalkO q loose XP YP l.row.toRowW d [] (fun f vs => PySem.call f vs) :=
  Att.attach_call hn hdf fun w s₀ s₁ mg mb fa o pm cd doc a vs ns G Y ho hd hcd hmg hobj hints hlen hg => by
    obtain ⟨fd, hb, hF⟩ := F w mg fa _ (hY w _ Y) G.T.g hmg
    exact law_goes (hY w _ Y) G.T.g G.T.b G.T.builtins G.T.nolimit hg hobj hints (Nat.le_trans hlen hn2) hr hF hb fun H hO hS => hsp _ H a ns hlen hO hS

/-! ### repr of data, in calm room -/
section
variable {X : Cx}
/-- repr(x) of data: its text is the data's -/
def rRepr (K : PySem.W.Frag) : List V → Hp → VK → Prop := fun xs H Q => ∃ (a : Addr) (d : PyData), xs = [.ref a] ∧ Dp K H (.ref a) d ∧ d.showable = true ∧ d.hasDict = false ∧ d.depth < 64 ∧ d.shown.length ≤ sizeLine ∧ Q (.str d.shown) H
theorem call_repr_data (hc : Calm X.A) (hu : X.A.units + 64 < cLine) : CallR X (.builtin "repr") (rRepr X.K) := by
  intro pins s σ H xs us Q I r h
  obtain ⟨a, d, rfl, hd, hs, hn, hz, hl, q⟩ := h
  obtain ⟨u, rfl, r1⟩ := vals1 r
  cases (show u = Value.ref a from r1)
  obtain ⟨as, hr⟩ := Dp.reads I d _ _ hd r1
  refine repr_of_reads' (h₀ := s.heap) hr hs (fun z => ?_) hc (by omega) (fun _ _ e => e) (fun h' u tk hk => ?_) hl
  · rw [hn] at z
    cases z
  · exact ⟨.str _, H, I.kept hk, ⟨_, rfl⟩, q⟩
/-- a power of any two written numbers that is not too long -/
def CPowW (i j : Int) : Prop := 0 ≤ j ∧ (Builtin.Int.intBits i : Int) * j ≤ 2 ^ 27
theorem op_powW : OpR X (binaryOp .Pow) (rI CPowW fun i j => .int (i ^ j.toNat)) := opI fun _ _ _ _ _ _ _ hc q => pow_int hc.1 hc.2 q
end

/-! ### names that stand for defs -/
/-- the name x stands for a def that keeps the promise sp in calm room, by at most level k -/
def Cg (P : Program) (w : World) (K : PySem.W.Frag) (mg : Str → Option Value) (base : Heap) (k : Nat) (x : Str) (sp : Sp) : Prop :=
  ∃ (f : Addr) (fd : FuncData) (ps : List Str), FnG P w K mg base k f fd ps sp ∧ mg x = some (.ref f) ∧ PySem.W.keepIn K (.ref f) = true ∧ Binds K fd ps []
/-- the def st of the text stands at the name x -/
def Df (K : PySem.W.Frag) (mg : Str → Option Value) (x : Str) (st : Stmt) (ps : List Str) : Prop :=
  ∃ (f : Addr) (fd : FuncData), Fun K x x st f fd ∧ mg x = some (.ref f) ∧ Binds K fd ps []
section
variable {P : Program} {w : World} {K : PySem.W.Frag} {mg : Str → Option Value} {base : Heap}
theorem FnG.mono {j k : Nat} {f : Addr} {fd : FuncData} {ps : List Str} {sp : Sp} (F : FnG P w K mg base j f fd ps sp) (h : j ≤ k) : FnG P w K mg base k f fd ps sp :=
  ⟨F.count, fun A outer s H args us vs Q E hc hr => F.goes A outer s H args us vs Q E hc (hr.mono h)⟩
theorem Cg.mono {j k : Nat} {x : Str} {sp : Sp} (G : Cg P w K mg base j x sp) (h : j ≤ k) : Cg P w K mg base k x sp := by
  obtain ⟨f, fd, ps, F, m, kp, b⟩ := G
  exact ⟨f, fd, ps, F.mono h, m, kp, b⟩
/-- a name's promise by its def's body -/
theorem Df.ok {x : Str} {st : Stmt} {N ps : List Str} {k : Nat} {sp : Sp} (D : Df K mg x st ps) (S : FnScope N ps (defScope st)) (len : ∀ vs H Q E, sp vs H Q E → vs.length = ps.length)
    (body : ∀ (cdv : Value) (A : Around) (outer : List Env) (s : Shared) (H : Hp) (vs : List V) (Q : VK) (E : XK) (f : Addr), Calm (A.deeper (envOfC x (defScope st) s.heap.objs.size f cdv)) → Room k (A.deeper (envOfC x (defScope st) s.heap.objs.size f cdv)) → sp vs H Q E →
      ∃ t, PSs (cxOf CX0 P w K mg base N x (defScope st) f cdv A outer s H E).nox (defBody st) t ∧ t { nx := fun _ H' => Q .non H', rt := Q } (start N vs) H) : Cg P w K mg base (k + 1) x sp := by
  obtain ⟨f, fd, F, m, b⟩ := D
  exact ⟨f, fd, ps, goes_by F S len fun cdv A outer s H vs Q E hc hr h => body cdv A outer s H vs Q E f hc hr h, m, F.kp, b⟩
/-- .. where what runs around does not matter -/
theorem Df.mk {x : Str} {st : Stmt} {ps : List Str} {h : Heap} {f : Addr} {oc : Value} {od an : Option Addr} {osl : Array (Option Value)} {kV doc pm cdv ct : Value} (X : K.In h) (G : h.Ns mainGlobals mg) (a : PySem.W.nsIn K mainGlobals x = some (some (.ref f)))
    (l : K.lookup f = some ⟨oc, od, .func (PySem.W.fnOf x x (defArgs st) (defBody st) (defScope st) .none kV doc pm an cdv ct), osl⟩) (c : PySem.W.codeIn K cdv x = true) (k : PySem.W.keepIn K (.ref f) = true)
    (b : ∀ (kV doc pm : Value) (an : Option Addr) (cdv ct : Value) (us : List Value), us.length = ps.length → bindArgs (PySem.W.fnOf x x (defArgs st) (defBody st) (defScope st) .none kV doc pm an cdv ct) ⟨us, []⟩ = pure (ps.zip us)) : Df K mg x st ps :=
  ⟨f, _, fun_mk (st := st) l c k, PySem.W.mg_of X G a, (fun_mk (st := st) l c k).binds b⟩
end
section
variable {X : Cx} {j k : Nat} {sp : Sp} {E : XK} {x : Str} {p pos : Pos} {e : Expr} {es : List Expr} {t : TA}
theorem pe_cg (G : Cg X.prog X.w X.K X.mg X.base j x sp) (hc : Calm X.A) (hr : Room k X.A) (hg : Gl X x) (ha : PA X (e :: es) t) (hj : j ≤ k := by decide) (hx : Passes CX0 X E := by exact pass0) (hdb : (x == ("__debug__" : Str)) = false := by decide)
    (he : starEach (e :: es) X.env = (false, eval e X.env) :: starEach es X.env := by rfl) (hpl : (backTo pos (starEach es X.env)).any (·.1) = false := by rfl) : PE X (.Call (.Name x p) (e :: es) [] pos) (tCall sp [] E t) := by
  obtain ⟨f, fd, ps, F, m, kp, b⟩ := G
  exact pe_callG F hc (hr.mono hj) hg m kp b .nil hx ha hdb he hpl
theorem pe_cg0 (G : Cg X.prog X.w X.K X.mg X.base j x sp) (hc : Calm X.A) (hr : Room k X.A) (hg : Gl X x) (hj : j ≤ k := by decide) (hx : Passes CX0 X E := by exact pass0) (hdb : (x == ("__debug__" : Str)) = false := by decide) :
    PE X (.Call (.Name x p) [] [] pos) (tCall sp [] E tNil) := by
  obtain ⟨f, fd, ps, F, m, kp, b⟩ := G
  exact pe_callG0 F hc (hr.mono hj) hg m kp b .nil hx hdb
end

/-! ### the dice of all laws: a list of three ints, at an address of its own -/
def dz (g s c : Int) : HO := .lst [.int g, .int s, .int c]
def Dice (H : Hp) (d : Addr) : Prop := ∃ g s c, H d = some (dz g s c)
/-- all but the dice stays, more may stand -/
def Past (d : Addr) (H H' : Hp) : Prop := (∀ b o, b ≠ d → H b = some o → H' b = some o) ∧ Dice H' d
theorem Past.dice {d : Addr} {H H' : Hp} (h : Past d H H') : Dice H' d := h.2
theorem Past.trans {d : Addr} {H H1 H2 : Hp} (a : Past d H H1) (b : Past d H1 H2) : Past d H H2 := ⟨fun x o n e => b.1 x o n (a.1 x o n e), b.2⟩
theorem Past.refl {d : Addr} {H : Hp} (h : Dice H d) : Past d H H := ⟨fun _ _ _ e => e, h⟩
theorem Past.upd {d : Addr} {H : Hp} (g s c : Int) : Past d H (L2.upd H d (dz g s c)) := ⟨fun x o n e => by rw [upd_ne n]; exact e, g, s, c, upd_same⟩
theorem Past.same {d : Addr} {H H' : Hp} (hd : Dice H d) (h : Same H H') : Past d H H' := by
  obtain ⟨g, s, c, e⟩ := hd
  exact ⟨fun x o _ q => h x o q, g, s, c, h _ _ e⟩
theorem Past.new {d p : Addr} {H : Hp} {o : HO} (hd : Dice H d) (h : H p = none) : Past d H (L2.upd H p o) := Past.same hd fun b x e => by
  rw [upd_ne (ne_of_none e h)]
  exact e
/-- what is kept: anything of another kind than the dice, or at another place -/
theorem Past.keep {d b : Addr} {H H' : Hp} {o : HO} (h : Past d H H') (n : b ≠ d) (e : H b = some o) : H' b = some o := h.1 b o n e
theorem Dice.ne {H : Hp} {d p : Addr} (h : Dice H d) (n : H p = none) : p ≠ d := by
  obtain ⟨g, s, c, e⟩ := h
  exact (ne_of_none e n).symm
theorem Past.seq {K : PySem.W.Frag} {d a : Addr} {xs : List V} {H H' : Hp} (h : Past d H H') (n : a ≠ d) (s : SqL K H a xs) : SqL K H' a xs := by
  rcases s with (s | ⟨o, s⟩) | s
  · exact .inl (.inl (h.1 _ _ n s))
  · exact .inl (.inr ⟨o, h.1 _ _ n s⟩)
  · exact .inr s

/-- the law's own def, by its address -/
theorem law_def {st : Stmt} {x : Str} {K : PySem.W.Frag} {mg : Str → Option Value} {h : Heap} {f fa : Addr} {oc : Value} {od an : Option Addr} {osl : Array (Option Value)} {kV doc pm cdv ct : Value} (X : K.In h) (G : h.Ns mainGlobals mg) (hfa : mg "law" = some (.ref fa))
    (hb : ∀ (kV doc pm : Value) (an : Option Addr) (cdv ct : Value) (s : Shared) (v : Value), BindsTo s (PySem.W.fnOf "law" "law" (defArgs st) (defBody st) (defScope st) .none kV doc pm an cdv ct) ⟨[v], []⟩ [(x, v)]) (a : PySem.W.nsIn K mainGlobals "law" = some (some (.ref f)))
    (l : K.lookup f = some ⟨oc, od, .func (PySem.W.fnOf "law" "law" (defArgs st) (defBody st) (defScope st) .none kV doc pm an cdv ct), osl⟩) (c : PySem.W.codeIn K cdv "law" = true) (k : PySem.W.keepIn K (.ref f) = true) :
    ∃ fd : FuncData, (∀ (s : Shared) (v : Value), BindsTo s fd ⟨[v], []⟩ [(x, v)]) ∧ Fun K "law" "law" st fa fd := by
  cases hfa.symm.trans (PySem.W.mg_of X G a)
  exact ⟨_, hb kV doc pm an cdv ct, fun_mk (st := st) l c k⟩
end Vb
set_option Elab.async false
set_option linter.all false
set_option autoImplicit false
set_option maxRecDepth 100000
set_option maxHeartbeats 4000000
/-! Wd: texts of plain signs, the values that judges are asked of, names. -/
namespace Wd
open PySem PySem.Spec PyProof.Rows L2 Vb
/-! ### texts of plain signs -/
def Asc (z : Str) : Prop := ∀ c ∈ z.cps.toList, c < 128
theorem asc_app {x y : Str} (a : Asc x) (b : Asc y) : Asc (x ++ y) := fun c hc => by
  have e : (x ++ y).cps.toList = x.cps.toList ++ y.cps.toList := by
    show (x.cps ++ y.cps).toList = _
    exact Array.toList_append
  rw [e] at hc
  exact (List.mem_append.mp hc).elim (a c) (b c)
theorem asc_cut {z : Str} (a : Asc z) (lo hi : Option Int) : Asc (cutS z lo hi) := fun c hc => by
  unfold cutS at hc
  exact a c (List.mem_of_mem_drop (List.mem_of_mem_take hc))
theorem mem_joinL : ∀ {parts : List (List Nat)} {c : Nat}, c ∈ TL.joinL [] parts → ∃ p ∈ parts, c ∈ p
  | [], _, h => nomatch h
  | [p], c, h => ⟨p, List.mem_cons_self, h⟩
  | p :: q :: r, c, h => by
    rcases List.mem_append.mp (show c ∈ p ++ ([] ++ TL.joinL [] (q :: r)) from h) with h | h
    · exact ⟨p, List.mem_cons_self, h⟩
    · obtain ⟨p', hp, hc⟩ := mem_joinL (parts := q :: r) h
      exact ⟨p', List.mem_cons_of_mem _ hp, hc⟩
theorem asc_join {ys : List Str} (a : ∀ y ∈ ys, Asc y) : Asc (Txt.join (Str.ofString "") ys) := fun c hc => by
  rw [TL.join_eq] at hc
  have e : (Str.join (Str.ofString "") ys).cps.toList = TL.joinL [] (ys.map TL.tl) := TL.tl_join (Str.ofString "") ys
  rw [e] at hc
  obtain ⟨p, hp, hc⟩ := mem_joinL hc
  obtain ⟨y, hy, rfl⟩ := List.mem_map.mp hp
  exact a y hy c hc
theorem asc_one {z : Str} (a : Asc z) {c : Nat} (h : c ∈ z.cps.toList) : Asc ⟨#[c]⟩ := fun x hx => by
  have e : x = c := by simpa using hx
  rw [e]
  exact a c h
/-- what the three judges are asked of -/
def Judged (H : Hp) : V → Prop
  | .int i => i.natAbs < 10 ^ 100
  | .str z => z.length ≤ 1000 ∧ Asc z
  | .non => True
  | .bl _ => True
  | .ref a => (∃ xs, H a = some (.lst xs)) ∨ (∃ xs, H a = some (.tup xs)) ∨ ∃ kvs, H a = some (.dK kvs)
  | _ => False
theorem Judged.same {H H' : Hp} (h : Same H H') : ∀ {v : V}, Judged H v → Judged H' v
  | .int _, j => j
  | .str _, j => j
  | .non, j => j
  | .bl _, j => j
  | .ref _, j => j.imp (fun ⟨xs, e⟩ => ⟨xs, h _ _ e⟩) fun j => j.imp (fun ⟨xs, e⟩ => ⟨xs, h _ _ e⟩) fun ⟨xs, e⟩ => ⟨xs, h _ _ e⟩
  | .byt _, j => j
  | .flt _, j => j
  | .ty _, j => j
theorem Past.judged {d : Addr} {H H' : Hp} (h : Past d H H') {v : V} (j : Judged H v) (n : v ≠ .ref d) : Judged H' v := by
  cases v with
  | ref a =>
    have ad : a ≠ d := fun e => n (by rw [e])
    exact j.imp (fun ⟨xs, e⟩ => ⟨xs, h.1 _ _ ad e⟩) fun j => j.imp (fun ⟨xs, e⟩ => ⟨xs, h.1 _ _ ad e⟩) fun ⟨xs, e⟩ => ⟨xs, h.1 _ _ ad e⟩
  | _ => exact j
theorem sum_ones : ∀ {l : List Str}, (∀ y ∈ l, y.length = 1) → (l.map (·.length)).sum = l.length
  | [], _ => rfl
  | y :: l, h => by
    rw [List.map_cons, List.sum_cons, sum_ones (l := l) (fun z hz => h z (List.mem_cons_of_mem _ hz)), h y List.mem_cons_self, List.length_cons]
    omega
theorem same_new {H : Hp} {p : Addr} {o : HO} (n : H p = none) : Same H (upd H p o) := fun b x e => by
  rw [upd_ne (ne_of_none e n)]
  exact e
theorem same_new2 {H : Hp} {p : Addr} {o o' : HO} (n : H p = none) : Same H (upd (upd H p o) p o') := by
  rw [upd_upd]
  exact same_new n
def low (c : Nat) : Bool := 97 ≤ c && c ≤ 122
def isNam : V → Bool
  | .str z => decide (1 ≤ z.length) && decide (z.length ≤ 8) && z.cps.toList.all low
  | _ => false
def isInt : V → Bool
  | .int i => decide (i.natAbs < 10 ^ 60)
  | _ => false
def notNeg : V → Bool
  | .int i => decide (0 ≤ i)
  | _ => false
def spOf (g : V → Bool) : Sp := fun vs H Q _ => ∃ v, vs = [v] ∧ Judged H v ∧ ∀ H', Same H H' → Q (.bl (g v)) H'
/-- the kinds of judged values -/
theorem kinds {K : PySem.W.Frag} {H : Hp} {v : V} (j : Judged H v) : (∃ i, v = .int i ∧ i.natAbs < 10 ^ 100) ∨ (∃ b, v = .bl b) ∨ (∃ z, v = .str z ∧ z.length ≤ 1000 ∧ Asc z) ∨
    (∃ T, TyX K H v (.type T) ∧ kitB T "int" = some false ∧ kitB T "bool" = some false ∧ kitB T "str" = some false ∧ isInt v = false ∧ notNeg v = false ∧ isNam v = false) := by
  cases v with
  | int i => exact .inl ⟨i, rfl, j⟩
  | bl b => exact .inr (.inl ⟨b, rfl⟩)
  | str z => exact .inr (.inr (.inl ⟨z, rfl, j⟩))
  | non => exact .inr (.inr (.inr ⟨"NoneType", .base .non, by decide +kernel, by decide +kernel, by decide +kernel, rfl, rfl, rfl⟩))
  | byt _ => exact False.elim j
  | flt _ => exact False.elim j
  | ty _ => exact False.elim j
  | ref a =>
    rcases j with ⟨xs, e⟩ | ⟨xs, e⟩ | ⟨xs, e⟩
    · exact .inr (.inr (.inr ⟨"list", .base (.lst e), by decide +kernel, by decide +kernel, by decide +kernel, rfl, rfl, rfl⟩))
    · exact .inr (.inr (.inr ⟨"tuple", .base (.tup e), by decide +kernel, by decide +kernel, by decide +kernel, rfl, rfl, rfl⟩))
    · exact .inr (.inr (.inr ⟨"dict", .base (.dK e), by decide +kernel, by decide +kernel, by decide +kernel, rfl, rfl, rfl⟩))
theorem ki_ii : kitB "int" "int" = some true := by decide +kernel
theorem ki_ib : kitB "int" "bool" = some false := by decide +kernel
theorem ki_is : kitB "int" "str" = some false := by decide +kernel
theorem ki_bi : kitB "bool" "int" = some true := by decide +kernel
theorem ki_bb : kitB "bool" "bool" = some true := by decide +kernel
theorem ki_bs : kitB "bool" "str" = some false := by decide +kernel
theorem ki_si : kitB "str" "int" = some false := by decide +kernel
theorem ki_sb : kitB "str" "bool" = some false := by decide +kernel
theorem ki_ss : kitB "str" "str" = some true := by decide +kernel
theorem digits_60 (n : Nat) (h : n < 10 ^ 100) : (decide ((Nat.toDigits 10 n).length ≤ 60)) = decide (n < 10 ^ 60) := by
  apply decide_eq_decide.mpr
  constructor
  · intro hl
    refine Classical.byContradiction fun hn => ?_
    have := digitsCore10_ge 60 (n + 1) n [] (by have : 60 < 10 ^ 60 := by decide +kernel
                                                omega) (by omega)
    have e : Nat.toDigits 10 n = Nat.toDigitsCore 10 (n + 1) n [] := rfl
    rw [e] at hl
    simp only [List.length_nil] at this
    omega
  · exact digits10_le (by decide)
theorem num_len (n : Nat) : (Str.ofString (toString ((n : Nat) : Int))).length = (Nat.toDigits 10 n).length := by
  have e := congrArg List.length (PySem.W.KIN.signs_num n)
  rw [List.length_map] at e
  rw [← e]
  simp [Str.length]
/-! ### plain signs -/
def upp (c : Nat) : Bool := 65 ≤ c && c ≤ 90
theorem cl_alpha : ∀ c, c < 128 → Unicode.isAlpha c = (upp c || low c) := by decide +kernel
theorem cl_lower : ∀ c, c < 128 → Unicode.isLower c = low c := by decide +kernel
theorem cl_upper : ∀ c, c < 128 → (Unicode.isUpper c || Unicode.isTitle c) = upp c := by decide +kernel
theorem cl_not : ∀ c, c < 128 → low c = false → upp c = true ∨ (upp c || low c) = false := by decide +kernel
theorem cl_both : ∀ c, c < 128 → low c = true → upp c = false := by decide +kernel
theorem name_signs {z : Str} (a : Asc z) (h : 1 ≤ z.length) : (Txt.isascii z && (Txt.isalpha z && Txt.islower z)) = z.cps.toList.all low := by
  have hl : z.cps.toList.length = z.length := by simp [Str.length]
  have e1 : Txt.isascii z = true := by
    unfold Txt.isascii
    rw [← Array.all_toList, List.all_eq_true]
    exact fun c hc => decide_eq_true (a c hc)
  have e2 : Txt.isalpha z = z.cps.toList.all Unicode.isAlpha := by
    unfold Txt.isalpha
    rw [decide_eq_true (show z.length > 0 by omega), Bool.true_and, ← Array.all_toList]
  have e3 : Txt.islower z = (z.cps.toList.any Unicode.isLower && !z.cps.toList.any fun c => Unicode.isUpper c || Unicode.isTitle c) := by
    unfold Txt.islower
    rw [← Array.any_toList, ← Array.any_toList]
  rw [e1, e2, e3, Bool.true_and]
  have a' : ∀ c ∈ z.cps.toList, c < 128 := a
  cases hL : z.cps.toList.all low with
  | true =>
    have hl' := List.all_eq_true.mp hL
    have k1 : z.cps.toList.all Unicode.isAlpha = true := List.all_eq_true.mpr fun c hc => by
      rw [cl_alpha c (a' c hc), hl' c hc, Bool.or_true]
    have k2 : z.cps.toList.any Unicode.isLower = true := by
      cases e : z.cps.toList with
      | nil =>
        rw [e] at hl
        simp at hl
        omega
      | cons c r =>
        have hc : c ∈ z.cps.toList := by rw [e]; exact List.mem_cons_self
        rw [List.any_cons, cl_lower c (a' c hc), hl' c hc, Bool.true_or]
    have k3 : (z.cps.toList.any fun c => Unicode.isUpper c || Unicode.isTitle c) = false := List.any_eq_false.mpr fun c hc => by
      rw [cl_upper c (a' c hc), cl_both c (a' c hc) (hl' c hc)]
      exact Bool.false_ne_true
    rw [k1, k2, k3]
    rfl
  | false =>
    obtain ⟨c, hc, hn⟩ := List.all_eq_false.mp hL
    have hn' : low c = false := by simpa using hn
    rcases cl_not c (a' c hc) hn' with u | u
    · have k3 : (z.cps.toList.any fun c => Unicode.isUpper c || Unicode.isTitle c) = true := List.any_eq_true.mpr ⟨c, hc, by rw [cl_upper c (a' c hc)]; exact u⟩
      rw [k3]
      simp
    · have k1 : z.cps.toList.all Unicode.isAlpha = false := List.all_eq_false.mpr ⟨c, hc, by rw [cl_alpha c (a' c hc), u]; exact Bool.false_ne_true⟩
      rw [k1]
      rfl
theorem one_lt (a b : Nat) : decide ([a] < [b]) = decide (a < b) := by
  apply decide_eq_decide.mpr
  constructor
  · intro h
    cases h with
    | rel h => exact h
    | cons h => exact nomatch h
  · exact fun h => .rel h
theorem isNam_str (z : Str) : isNam (.str z) = (decide (1 ≤ z.length) && decide (z.length ≤ 8) && z.cps.toList.all low) := rfl
/-- the signs that are no small letters, as texts -/
def odd1 (L : List Nat) : List V := (L.filter (fun c => !low c)).map fun c => V.str ⟨#[c]⟩
theorem odd1_snoc (L : List Nat) (c : Nat) : odd1 (L ++ [c]) = odd1 L ++ (if low c = true then [] else [V.str ⟨#[c]⟩]) := by
  unfold odd1
  rw [List.filter_append, List.map_append]
  congr 1
  cases h : low c <;> simp [h]
theorem odd1_nil (L : List Nat) : (odd1 L).isEmpty = L.all low := by
  unfold odd1
  induction L with
  | nil => rfl
  | cons c r ih =>
    cases h : low c with
    | true => simpa [h] using ih
    | false => simp [h]
theorem odd1_len (L : List Nat) : (odd1 L).length ≤ L.length := by
  unfold odd1
  rw [List.length_map]
  exact List.length_filter_le _ _
/-- such a list as data -/
theorem dp_strs {K : PySem.W.Frag} {H : Hp} : ∀ l : List Str, DpAll K H (l.map V.str) (l.map PyData.str)
  | [] => .nil
  | y :: l => .cons (.str y) (dp_strs l)
theorem lay_strs : ∀ l : List Str, (∀ y ∈ l, Asc y) → PyData.canLayAll0 (l.map PyData.str) = true ∧ PyData.depthAll (l.map PyData.str) = 0
  | [], _ => ⟨rfl, rfl⟩
  | y :: l, h => by
    obtain ⟨h1, h2⟩ := lay_strs l fun z hz => h z (List.mem_cons_of_mem _ hz)
    constructor
    · show (PyData.canLay0 (.str y) && PyData.canLayAll0 (l.map PyData.str)) = true
      rw [h1, Bool.and_true]
      show y.cps.all (· < 0x110000) = true
      rw [← Array.all_toList, List.all_eq_true]
      exact fun c hc => decide_eq_true (Nat.lt_trans (h y List.mem_cons_self c hc) (by decide))
    · show max (PyData.depth (.str y)) (PyData.depthAll (l.map PyData.str)) = 0
      rw [h2]
      rfl
theorem shaped_strs {l : List Str} (h : ∀ y ∈ l, Asc y) : SeqAt.shaped (.list (l.map PyData.str)) = true := by
  obtain ⟨h1, h2⟩ := lay_strs l h
  show (PyData.canLay0 (.list (l.map PyData.str)) && decide (PyData.depth (.list (l.map PyData.str)) ≤ 64)) = true
  rw [show PyData.canLay0 (.list (l.map PyData.str)) = true from h1, Bool.true_and]
  exact decide_eq_true (by show PyData.depthAll _ + 1 ≤ 64; rw [h2]; decide)
theorem small8000 {n : Nat} (h : n ≤ 1000000) : ((n : Int)).natAbs < 2 ^ 8000 := by
  have : (1000000 : Nat) < 2 ^ 8000 := by decide +kernel
  omega
theorem fits_million {n : Nat} (h : n ≤ 1000000) : n ≤ sizeLine := Nat.le_trans h (by decide)
theorem same_past {d : Addr} {o : HO} {H H' : Hp} (nd : H d = none) (p : Past d (upd H d o) H') : Same H H' := fun b x e => by
  have bd : b ≠ d := ne_of_none e nd
  exact p.1 b x bd (by rw [upd_ne bd]; exact e)
theorem asc_lit {z : Str} (h : z.cps.toList.all (· < 128) = true) : Asc z := fun c hc => of_decide_eq_true (List.all_eq_true.mp h c hc)
end Wd
set_option Elab.async false
set_option linter.all false
set_option autoImplicit false
set_option maxRecDepth 100000
set_option maxHeartbeats 4000000
namespace K04
open PySem PySem.Spec PyProof.Rows L2 Vb Wd
def topS (i : Nat) : Stmt := PySem.Challenge.pw_mendbooks_k04_whole_lines_of_schemes.main.body.getD i (.Pass ⟨0, 0, 0, 0⟩)
abbrev s_is_integer : Stmt := topS 4
theorem sc_is_integer : FnScope ["value"] ["value"] (defScope s_is_integer) := ⟨rfl, rfl, rfl, by decide +kernel, rfl, by decide +kernel, by decide +kernel⟩
abbrev s_is_count : Stmt := topS 5
theorem sc_is_count : FnScope ["value"] ["value"] (defScope s_is_count) := ⟨rfl, rfl, rfl, by decide +kernel, rfl, by decide +kernel, by decide +kernel⟩
abbrev s_is_index : Stmt := topS 6
theorem sc_is_index : FnScope ["value", "many"] ["value", "many"] (defScope s_is_index) := ⟨rfl, rfl, rfl, by decide +kernel, rfl, by decide +kernel, by decide +kernel⟩
abbrev s_is_name : Stmt := topS 7
theorem sc_is_name : FnScope ["value"] ["value"] (defScope s_is_name) := ⟨rfl, rfl, rfl, by decide +kernel, rfl, by decide +kernel, by decide +kernel⟩
abbrev s_words_of : Stmt := topS 9
theorem sc_words_of : FnScope ["value"] ["value"] (defScope s_words_of) := ⟨rfl, rfl, rfl, by decide +kernel, rfl, by decide +kernel, by decide +kernel⟩
abbrev s_is_step : Stmt := topS 25
theorem sc_is_step : FnScope ["value"] ["value"] (defScope s_is_step) := ⟨rfl, rfl, rfl, by decide +kernel, rfl, by decide +kernel, by decide +kernel⟩
abbrev s_is_child : Stmt := topS 26
theorem sc_is_child : FnScope ["value"] ["value"] (defScope s_is_child) := ⟨rfl, rfl, rfl, by decide +kernel, rfl, by decide +kernel, by decide +kernel⟩
abbrev s_is_children : Stmt := topS 27
theorem sc_is_children : FnScope ["value", "child"] ["value"] (defScope s_is_children) := ⟨rfl, rfl, rfl, by decide +kernel, rfl, by decide +kernel, by decide +kernel⟩
abbrev s_is_form_line : Stmt := topS 32
theorem sc_is_form_line : FnScope ["words", "word"] ["words"] (defScope s_is_form_line) := ⟨rfl, rfl, rfl, by decide +kernel, rfl, by decide +kernel, by decide +kernel⟩
abbrev s_is_child_word : Stmt := topS 33
theorem sc_is_child_word : FnScope ["word"] ["word"] (defScope s_is_child_word) := ⟨rfl, rfl, rfl, by decide +kernel, rfl, by decide +kernel, by decide +kernel⟩
abbrev s_l_dice : Stmt := topS 35
theorem sc_l_dice : FnScope ["_law_script", "_law_spot", "_law_cell", "_law_great", "_law_seed"] ["_law_script", "_law_spot"] (defScope s_l_dice) := ⟨rfl, rfl, rfl, by decide +kernel, rfl, by decide +kernel, by decide +kernel⟩
abbrev s_l_roll : Stmt := topS 36
theorem sc_l_roll : FnScope ["_law_dice_here", "_law_total", "_law_found", "_law_one", "_law_two"] ["_law_dice_here", "_law_total"] (defScope s_l_roll) := ⟨rfl, rfl, rfl, by decide +kernel, rfl, by decide +kernel, by decide +kernel⟩
abbrev s_l_pick : Stmt := topS 37
theorem sc_l_pick : FnScope ["_law_dice_here", "_law_items"] ["_law_dice_here", "_law_items"] (defScope s_l_pick) := ⟨rfl, rfl, rfl, by decide +kernel, rfl, by decide +kernel, by decide +kernel⟩
abbrev s_l_is_name : Stmt := topS 43
theorem sc_l_is_name : FnScope ["_law_word", "_law_sign"] ["_law_word"] (defScope s_l_is_name) := ⟨rfl, rfl, rfl, by decide +kernel, rfl, by decide +kernel, by decide +kernel⟩
/-- dice(script, spot): new dice -/
def spDice (K : PySem.W.Frag) : Sp := fun vs H Q _ => ∃ (a : Addr) (ns : List Int) (i : Int), vs = [.ref a, .int i] ∧ SqL K H a (ns.map V.int) ∧ 0 ≤ i ∧ ∀ d g s, H d = none → Q (.ref d) (upd H d (dz g s 0))
/-- roll(dice, total): an int from 0 on and below total -/
def spRoll : Sp := fun vs H Q _ => ∃ (d : Addr) (n : Int), vs = [.ref d, .int n] ∧ Dice H d ∧ 0 < n ∧ n.natAbs < 2 ^ 8000 ∧ ∀ r H', Past d H H' → 0 ≤ r → r < n → Q (.int r) H'
section
variable {P : Program} {w : World} {K : PySem.W.Frag} {mg : Str → Option Value} {base : Heap}
theorem ok_roll (D : Df K mg "_law_roll" s_l_roll ["_law_dice_here", "_law_total"]) (z_int : mg "int" = none) : Cg P w K mg base 1 "_law_roll" spRoll := by
  refine D.ok sc_l_roll (fun vs H Q E h => ?_) (fun cdv A outer s H vs Q E f hc hr h => ?_)
  · obtain ⟨d, n, rfl, _⟩ := h
    rfl
  · obtain ⟨d, n, rfl, ⟨g, s, c, hd⟩, n0, nz, q⟩ := h
    refine ⟨_, (pss_cons (ps_if (pt_cmpR op_gt (pe_ix ix_list (pv 0) pe_int (fun _ _ => rfl)) pe_int (nomark _))
      (pss_cons (ps_set (i := 2) sc_l_roll.nd rfl (Or.inl rfl) (pe_op op_mod (pe_callTy call_int1 (by rfl) z_int (by decide +kernel) (pa_cons (pe_ix ix_list (pv 0) pe_int (fun _ _ => rfl)) pa_nil)) (pv 1)))
      (pss_cons (ps_asg (pe_op op_fdivW (pe_ix ix_list (pv 0) pe_int (fun _ _ => rfl)) (pv 1)) (pg_sub (pv 0) pe_int set_list))
      (pss_one (ps_ret (pv 2)))))
      pss_nil)
      (pss_cons (ps_asg (pe_op op_add (pe_ix ix_list (pv 0) pe_int (fun _ _ => rfl)) pe_int) (pg_sub (pv 0) pe_int set_list))
      (pss_cons (ps_set (i := 3) sc_l_roll.nd rfl (Or.inl rfl) (pe_op op_mod (pe_callTy call_int1 (by rfl) z_int (by decide +kernel) (pa_cons (pe_op op_add (pe_ix ix_list (pv 0) pe_int (fun _ _ => rfl)) (pe_op op_mul pe_int (pe_ix ix_list (pv 0) pe_int (fun _ _ => rfl)))) pa_nil)) pe_int))
      (pss_cons (ps_set (i := 4) sc_l_roll.nd rfl (Or.inl rfl) (pe_op op_add (pe_op op_mul (pe_op op_mod (pe_callTy call_int1 (by rfl) z_int (by decide +kernel) (pa_cons (pe_op op_mul (pv 3) (pv 3)) pa_nil)) pe_int) (pv 3)) (pe_op op_mul pe_int (pe_ix ix_list (pv 0) pe_int (fun _ _ => rfl)))))
      (pss_one (ps_ret (pe_op op_mod (pe_callTy call_int1 (by rfl) z_int (by decide +kernel) (pa_cons (pe_op op_fdiv (pe_op op_mod (pe_callTy call_int1 (by rfl) z_int (by decide +kernel) (pa_cons (pe_op op_add (pv 4) (pe_op op_mul pe_int (pe_ix ix_list (pv 0) pe_int (fun _ _ => rfl)))) pa_nil)) pe_int) pe_int) pa_nil)) (pv 1)))))))), ?_⟩
    have a0 : ∀ x y z : Int, atI [V.int x, V.int y, V.int z] 0 = some (V.int x) := fun _ _ _ => rfl
    have a1 : ∀ x y z : Int, atI [V.int x, V.int y, V.int z] 1 = some (V.int y) := fun _ _ _ => rfl
    have a2 : ∀ x y z : Int, atI [V.int x, V.int y, V.int z] 2 = some (V.int z) := fun _ _ _ => rfl
    have hS : SqL K H d [.int g, .int s, .int c] := .inl (.inl hd)
    refine ⟨_, rfl, d, _, 0, .int g, rfl, rfl, hS, a0 _ _ _, _, _, rfl, rfl, _, rfl, ite2 (fun _ => ?_) (fun _ => ?_)⟩
    · refine ⟨_, rfl, d, _, 0, .int g, rfl, rfl, hS, a0 _ _ _, .inl ⟨_, rfl, _, rfl, _, _, rfl, rfl, n0, ?_⟩⟩
      refine ⟨_, rfl, d, _, 0, .int g, rfl, rfl, hS, a0 _ _ _, _, rfl, _, _, rfl, rfl, wide_div n0 nz (by decide) (by decide), ?_⟩
      refine ⟨_, rfl, d, _, 0, 0, rfl, rfl, hd, rfl, ?_⟩
      refine ⟨_, rfl, ?_⟩
      exact q _ _ (Past.upd (g / n) s c) (Int.emod_nonneg _ (by omega)) (Int.emod_lt_of_pos _ n0)
    · refine ⟨_, rfl, d, _, 2, .int c, rfl, rfl, hS, a2 _ _ _, _, _, rfl, rfl, ?_⟩
      refine ⟨_, rfl, d, _, 2, 2, rfl, rfl, hd, rfl, ?_⟩
      have hT : SqL K (upd H d (dz g s (c + 1))) d [.int g, .int s, .int (c + 1)] := .inl (.inl upd_same)
      have m0 : ∀ x y : Int, 0 < y → 0 ≤ x % y ∧ x % y < y := fun x y h => ⟨Int.emod_nonneg _ (by omega), Int.emod_lt_of_pos _ h⟩
      have hone := m0 (s + 715827883 * (c + 1)) 2305843009213693951 (by decide)
      refine ⟨_, rfl, d, _, 1, .int s, rfl, rfl, hT, a1 _ _ _, _, rfl, d, _, 2, .int (c + 1), rfl, rfl, hT, a2 _ _ _, _, _, rfl, rfl, by constructor <;> decide, _, _, rfl, rfl, .inl ⟨_, rfl, _, _, rfl, rfl, (by show (0 : Int) < _; decide), ?_⟩⟩
      generalize (s + 715827883 * (c + 1)) % 2305843009213693951 = one at hone ⊢
      refine ⟨_, rfl, _, rfl, _, _, rfl, rfl, (.inl ⟨by omega, by omega⟩), .inl ⟨_, rfl, _, _, rfl, rfl, (by show (0 : Int) < _; decide), ?_⟩⟩
      have htwo := m0 (one * one) 1152921504606846869 (by decide)
      generalize one * one % 1152921504606846869 = two at htwo ⊢
      refine ⟨_, rfl, _, _, rfl, rfl, (.inl ⟨by omega, by omega⟩), _, rfl, d, _, 2, .int (c + 1), rfl, rfl, hT, a2 _ _ _, _, _, rfl, rfl, by constructor <;> decide, _, _, rfl, rfl, ?_⟩
      refine ⟨_, rfl, _, rfl, d, _, 1, .int s, rfl, rfl, hT, a1 _ _ _, _, _, rfl, rfl, by constructor <;> decide, _, _, rfl, rfl, .inl ⟨_, rfl, _, _, rfl, rfl, (by show (0 : Int) < _; decide), _, _, rfl, rfl, ⟨by decide, by decide⟩, .inl ⟨_, rfl, _, rfl, _, _, rfl, rfl, n0, ?_⟩⟩⟩
      exact q _ _ (Past.upd g s (c + 1)) (m0 _ n n0).1 (m0 _ n n0).2

theorem pow_10_58 : CPowW 10 58 := ⟨by decide, by decide +kernel⟩
theorem pow_10_580 : CPowW ((10 : Int) ^ (58 : Int).toNat) 10 := ⟨by decide, by decide +kernel⟩
theorem pos_10_580 : (0 : Int) < ((10 : Int) ^ (58 : Int).toNat) ^ (10 : Int).toNat := by decide +kernel
theorem pow_10_18 : CPowW 10 18 := ⟨by decide, by decide +kernel⟩
theorem ok_dice (D : Df K mg "_law_dice" s_l_dice ["_law_script", "_law_spot"]) (z_int : mg "int" = none) (z_len : mg "len" = none) (z_abs : mg "abs" = none) (z_max : mg "max" = none) : Cg P w K mg base 1 "_law_dice" (spDice K) := by
  refine D.ok sc_l_dice (fun vs H Q E h => ?_) (fun cdv A outer s H vs Q E f hc hr h => ?_)
  · obtain ⟨a, ns, i, rfl, _⟩ := h
    rfl
  · obtain ⟨a, ns, i, rfl, hS, i0, q⟩ := h
    refine ⟨_, (pss_cons (ps_set (i := 2) sc_l_dice.nd rfl (Or.inl rfl) (pe_ifExp (pt_cmpR op_lt (pv 1) (pe_callB call_len_seq (by rfl) z_len PySem.boot_len (pa_cons (pv 0) pa_nil)) (nomark _)) (pe_ix ix_list (pv 0) (pv 1) (fun _ _ => rfl)) (pe_op op_add (pe_op op_mul pe_int (pv 1)) pe_int)))
      (pss_cons (ps_set (i := 3) sc_l_dice.nd rfl (Or.inl rfl) (pe_op op_mod (pe_callTy call_int1 (by rfl) z_int (by decide +kernel) (pa_cons (pe_callB call_abs (by rfl) z_abs (by decide +kernel) (pa_cons (pv 2) pa_nil)) pa_nil)) (pe_op op_powW (pe_op op_powW pe_int pe_int) pe_int)))
      (pss_cons (ps_set (i := 4) sc_l_dice.nd rfl (Or.inl rfl) (pe_op op_add (pe_op op_add (pe_op op_add (pe_op op_mul (pe_op op_mod (pe_callTy call_int1 (by rfl) z_int (by decide +kernel) (pa_cons (pv 3) pa_nil)) pe_int) pe_int) (pe_op op_mul pe_int (pv 1))) (pe_op op_mul pe_int (pe_callTy call_int1 (by rfl) z_int (by decide +kernel) (pa_cons (pe_cmpR op_lt (pv 2) pe_int (nomark _)) pa_nil)))) pe_int))
      (pss_one (ps_ret (pe_lst (pa_cons (pe_callB (call_max2 rfl) (by rfl) z_max (by decide +kernel) (pa_cons pe_int (pa_cons (pe_op op_sub (pv 3) (pe_op op_powW pe_int pe_int)) pa_nil))) (pa_cons (pe_op op_mod (pe_callTy call_int1 (by rfl) z_int (by decide +kernel) (pa_cons (pv 4) pa_nil)) pe_int) (pa_cons pe_int pa_nil))))))))), ?_⟩
    refine ⟨_, rfl, _, rfl, a, ns.map V.int, rfl, .inl hS, _, _, rfl, rfl, _, rfl, ite2 (fun e => ?_) (fun _ => ?_)⟩
    case' refine_2.refine_1 =>
      have lt : i < ((ns.map V.int).length : Int) := of_decide_eq_true e
      have il : i.toNat < ns.length := by
        rw [List.length_map] at lt
        omega
      have at_i : atI (ns.map V.int) i = some (.int ns[i.toNat]) := by
        refine at_of (j := i.toNat) (by omega) ?_
        rw [List.getElem?_map, List.getElem?_eq_getElem il]
        rfl
      refine ⟨_, rfl, _, rfl, a, _, i, _, rfl, rfl, hS, at_i, ?_⟩
      generalize ns[i.toNat] = cell
    case' refine_2.refine_2 =>
      refine ⟨_, rfl, _, _, rfl, rfl, by constructor <;> decide, _, _, rfl, rfl, ?_⟩
      generalize 71 * i + 37 = cell
    all_goals
      refine ⟨_, rfl, _, rfl, .inl ⟨_, rfl, _, _, rfl, rfl, pow_10_58, _, _, rfl, rfl, pow_10_580, _, _, rfl, rfl, pos_10_580, ?_⟩⟩
      refine ⟨_, rfl, .inl ⟨_, rfl, _, _, rfl, rfl, (by show (0 : Int) < _; decide), _, _, rfl, rfl, .inr (by constructor <;> decide), _, rfl, _, _, rfl, rfl, by constructor <;> decide, _, _, rfl, rfl, _, rfl, _, _, rfl, rfl, .inr ⟨_, rfl, ?_⟩⟩⟩
      refine ⟨_, _, rfl, rfl, by constructor <;> decide, _, _, rfl, rfl, _, _, rfl, rfl, ?_⟩
      refine ⟨_, rfl, _, _, rfl, rfl, pow_10_18, _, _, rfl, rfl, _, _, rfl, _, rfl, .inl ⟨_, rfl, _, _, rfl, rfl, (by show (0 : Int) < _; decide), ?_⟩⟩
      exact ⟨by show 3 ≤ sizeLine; decide, fun p hp => q p _ _ hp⟩

end
theorem at_of' {α : Type} {xs : List α} {z : Int} {j : Nat} {v : α} (e : z = (j : Int)) (h : xs[j]? = some v) : atI xs z = some v := by
  rw [e]
  exact atI_nat h
/-- what pick draws from: a list, a tuple or a text that is not empty; what may come of it -/
def Some1 (K : PySem.W.Frag) (H : Hp) (d : Addr) : V → (V → Prop) → Prop := fun x p =>
  (∃ l xs, x = .ref l ∧ l ≠ d ∧ (SqL K H l xs ∨ SqT K H l xs) ∧ xs ≠ [] ∧ xs.length ≤ 1000000 ∧ ∀ v ∈ xs, p v) ∨
  (∃ z : Str, x = .str z ∧ 0 < z.length ∧ z.length ≤ 1000000 ∧ ∀ c ∈ z.cps.toList, p (.str ⟨#[c]⟩))
/-- pick(dice, items): one of them -/
def spPick (K : PySem.W.Frag) : Sp := fun vs H Q _ => ∃ (d : Addr) (x : V) (p : V → Prop), vs = [.ref d, x] ∧ Dice H d ∧ Some1 K H d x p ∧ ∀ v H', Past d H H' → p v → Q v H'
theorem tup_past {K : PySem.W.Frag} {d a : Addr} {xs : List V} {H H' : Hp} (h : Past d H H') (n : a ≠ d) (s : SqT K H a xs) : SqT K H' a xs := by
  rcases s with (s | ⟨o, s⟩) | s
  · exact .inl (.inl (h.1 _ _ n s))
  · exact .inl (.inr ⟨o, h.1 _ _ n s⟩)
  · exact .inr s
section
variable {P : Program} {w : World} {K : PySem.W.Frag} {mg : Str → Option Value} {base : Heap}
theorem ok_pick (D : Df K mg "_law_pick" s_l_pick ["_law_dice_here", "_law_items"]) (G_l_roll : Cg P w K mg base 1 "_law_roll" spRoll) (z_len : mg "len" = none) : Cg P w K mg base 2 "_law_pick" (spPick K) := by
  refine D.ok sc_l_pick (fun vs H Q E h => ?_) (fun cdv A outer s H vs Q E f hc hr h => ?_)
  · obtain ⟨d, x, p, rfl, _⟩ := h
    rfl
  · obtain ⟨d, x, p, rfl, hd, hx, q⟩ := h
    refine ⟨_, (pss_one (ps_ret (pe_ix ix_seq (pv 1) (pe_cg G_l_roll hc hr (by rfl) (pa_cons (pv 0) (pa_cons (pe_callB call_len (by rfl) z_len (by decide +kernel) (pa_cons (pv 1) pa_nil)) pa_nil))) (fun _ _ => rfl)))), ?_⟩
    rcases hx with ⟨l, xs, rfl, ld, hs, ne, hl, hp⟩ | ⟨z, rfl, z0, hl, hp⟩
    · have x0 : 0 < xs.length := List.length_pos_iff.mpr ne
      refine ⟨_, rfl, _, rfl, _, rfl, _, xs.length, rfl, ?_, d, _, rfl, hd, by omega, small8000 hl, fun r H' pa r0 rn => ?_⟩
      · exact hs.elim (fun h => .inl ⟨_, h, rfl⟩) (fun h => .inr ⟨_, h, rfl⟩)
      · have rl : r.toNat < xs.length := by omega
        have at_r : atI xs r = some xs[r.toNat] := at_of (j := r.toNat) (by omega) (List.getElem?_eq_getElem rl)
        rcases hs with hs | hs
        · exact .inl ⟨l, xs, r, _, rfl, rfl, pa.seq ld hs, at_r, q _ _ pa (hp _ (List.getElem_mem rl))⟩
        · exact .inr (.inl ⟨l, xs, r, _, rfl, rfl, tup_past pa ld hs, at_r, q _ _ pa (hp _ (List.getElem_mem rl))⟩)
    · refine ⟨_, rfl, _, rfl, _, rfl, _, z.length, rfl, ⟨fits_million hl, rfl⟩, d, _, rfl, hd, by omega, small8000 hl, fun r H' pa r0 rn => ?_⟩
      have el : z.cps.toList.length = z.length := by simp [Str.length]
      have rl : r.toNat < z.cps.toList.length := by omega
      exact .inr (.inr ⟨z, r, _, rfl, rfl, fits_million hl, at_of' (j := r.toNat) (by omega) (List.getElem?_eq_getElem rl), q _ _ pa (hp _ (List.getElem_mem rl))⟩)

theorem ok_is_integer {t : Tok} (D : Df K mg "is_integer" s_is_integer ["value"]) (z_isinstance : mg "isinstance" = none) (z_int : mg "int" = none) (z_bool : mg "bool" = none) (z_abs : mg "abs" = none) (c_TOO_LONG : mg "_TOO_LONG" = some (.int (10 ^ 60) t)) :
    Cg P w K mg base 1 "is_integer" (spOf isInt) := by
  refine D.ok sc_is_integer (fun vs H Q E h => ?_) (fun cdv A outer s H vs Q E f hc hr h => ?_)
  · obtain ⟨v, rfl, _⟩ := h
    rfl
  · obtain ⟨v, rfl, j, q⟩ := h
    refine ⟨_, (pss_one (ps_ret (pe_and (pe_callB call_isi (by rfl) z_isinstance (by decide +kernel) (pa_cons (pv 0) (pa_cons (pe_bltn (v := .ty "int") (by rfl) z_int (by decide +kernel) rfl) pa_nil))) (pe_and (pe_not (pe_callB call_isi (by rfl) z_isinstance (by decide +kernel) (pa_cons (pv 0) (pa_cons (pe_bltn (v := .ty "bool") (by rfl) z_bool (by decide +kernel) rfl) pa_nil)))) (pe_one (pe_cmpR op_lt (pe_callB call_abs (by rfl) z_abs (by decide +kernel) (pa_cons (pv 0) pa_nil)) (pe_glob (v := .int (10 ^ 60)) rfl c_TOO_LONG ⟨_, rfl⟩) (nomark _))))))), ?_⟩
    have q' := q H (Same.refl H)
    rcases kinds (K := K) j with ⟨i, rfl, hi⟩ | ⟨b, rfl⟩ | ⟨z, rfl, hz⟩ | ⟨T, ty, k1, k2, k3, e1, e2, e3⟩
    · refine ⟨_, rfl, _, _, _, _, true, rfl, .ty _, .base (.int i), kit_ty ki_ii, _, rfl, iteT ?_⟩
      refine ⟨_, rfl, _, _, _, _, false, rfl, .ty _, .base (.int i), kit_ty ki_ib, _, rfl, _, rfl, iteT ?_⟩
      refine ⟨_, rfl, _, rfl, _, _, rfl, rfl, ?_⟩
      have e : decide ((if i < 0 then -i else i) < 10 ^ 60) = decide (i.natAbs < 10 ^ 60) := by
        apply decide_eq_decide.mpr
        split <;> omega
      show Q (V.bl (decide ((if i < 0 then -i else i) < 10 ^ 60))) H
      rw [e]
      exact q'
    · exact ⟨_, rfl, _, _, _, _, true, rfl, .ty _, .base (.bl b), kit_ty ki_bi, _, rfl, iteT ⟨_, rfl, _, _, _, _, true, rfl, .ty _, .base (.bl b), kit_ty ki_bb, _, rfl, _, rfl, iteF q'⟩⟩
    · exact ⟨_, rfl, _, _, _, _, false, rfl, .ty _, .base (.str z), kit_ty ki_si, _, rfl, iteF q'⟩
    · rw [e1] at q'
      exact ⟨_, rfl, _, _, _, _, false, rfl, .ty _, ty, kit_ty k1, _, rfl, iteF q'⟩
theorem ok_is_count (D : Df K mg "is_count" s_is_count ["value"]) (G_is_integer : Cg P w K mg base 1 "is_integer" (spOf isInt)) : Cg P w K mg base 2 "is_count" (spOf fun v => isInt v && notNeg v) := by
  refine D.ok sc_is_count (fun vs H Q E h => ?_) (fun cdv A outer s H vs Q E f hc hr h => ?_)
  · obtain ⟨v, rfl, _⟩ := h
    rfl
  · obtain ⟨v, rfl, j, q⟩ := h
    refine ⟨_, (pss_one (ps_ret (pe_and (pe_cg G_is_integer hc hr (by rfl) (pa_cons (pv 0) pa_nil)) (pe_one (pe_cmpR op_ge (pv 0) pe_int (nomark _)))))), ?_⟩
    refine ⟨_, rfl, v, rfl, j, fun H1 s1 => ⟨_, rfl, ?_⟩⟩
    have q' : Q (V.bl (isInt v && notNeg v)) H1 := q H1 s1
    cases e : isInt v with
    | false =>
      rw [e, Bool.false_and] at q'
      exact iteF q'
    | true =>
      cases v with
      | int i =>
        rw [e, Bool.true_and] at q'
        exact iteT ⟨_, rfl, _, _, rfl, rfl, q'⟩
      | _ => cases e

theorem ok_is_name {t : Tok} (D : Df K mg "is_name" s_is_name ["value"]) (z_isinstance : mg "isinstance" = none) (z_str : mg "str" = none) (z_len : mg "len" = none) (c_MAX_LETTERS : mg "MAX_LETTERS" = some (.int 8 t)) :
    Cg P w K mg base 1 "is_name" (spOf isNam) := by
  refine D.ok sc_is_name (fun vs H Q E h => ?_) (fun cdv A outer s H vs Q E f hc hr h => ?_)
  · obtain ⟨v, rfl, _⟩ := h
    rfl
  · obtain ⟨v, rfl, j, q⟩ := h
    refine ⟨_, (pss_cons (ps_if (PW.pt (pw_or (pt_not (pt_val (pe_callB call_isi (by rfl) z_isinstance (by decide +kernel) (pa_cons (pv 0) (pa_cons (pe_bltn (v := .ty "str") (by rfl) z_str (by decide +kernel) rfl) pa_nil))))) (pw_or1 (pt_not (pt_chain op_le op_le pe_int (pe_callB call_len (by rfl) z_len (by decide +kernel) (pa_cons (pv 0) pa_nil)) (pe_glob (v := .int 8) rfl c_MAX_LETTERS ⟨_, rfl⟩))))))
      (pss_one (ps_ret pe_bl))
      pss_nil)
      (pss_one (ps_ret (pe_and (pe_bm0 PySem.F.plainAttrs_str PySem.F.slot_str_isascii PySem.F.type_str_isascii mt_isascii (pv 0)) (pe_and (pe_bm0 PySem.F.plainAttrs_str PySem.F.slot_str_isalpha PySem.F.type_str_isalpha mt_isalpha (pv 0)) (pe_one (pe_bm0 PySem.F.plainAttrs_str PySem.F.slot_str_islower PySem.F.type_str_islower mt_islower (pv 0)))))))), ?_⟩
    have q' := q H (Same.refl H)
    rcases kinds (K := K) j with ⟨i, rfl, hi⟩ | ⟨b, rfl⟩ | ⟨z, rfl, hz, az⟩ | ⟨T, ty, k1, k2, k3, e1, e2, e3⟩
    · exact ⟨_, rfl, _, _, _, _, false, rfl, .ty _, .base (.int i), kit_ty ki_is, _, rfl, iteT q'⟩
    · exact ⟨_, rfl, _, _, _, _, false, rfl, .ty _, .base (.bl b), kit_ty ki_bs, _, rfl, iteT q'⟩
    · rw [isNam_str] at q'
      refine ⟨_, rfl, _, _, _, _, true, rfl, .ty _, .base (.str z), kit_ty ki_ss, _, rfl, iteF ⟨_, rfl, _, z.length, rfl, ⟨fits_million (by omega), rfl⟩, _, _, rfl, rfl, _, rfl, ?_⟩⟩
      by_cases h1 : 1 ≤ z.length
      · rw [decide_eq_true h1, Bool.true_and] at q'
        refine ite2 (fun _ => ⟨_, _, rfl, rfl, _, rfl, ?_⟩) (fun n => absurd (decide_eq_true (by omega)) n)
        by_cases h8 : z.length ≤ 8
        · rw [decide_eq_true h8, Bool.true_and, ← name_signs az h1] at q'
          refine ite2 (fun n => ?_) (fun _ => ?_)
          · rw [decide_eq_true (by omega)] at n
            cases n
          · refine ⟨_, rfl, rfl, z, rfl, rfl, trivial, _, rfl, ?_⟩
            cases ea : Txt.isascii z with
            | false =>
              rw [ea, Bool.false_and] at q'
              exact iteF q'
            | true =>
              refine iteT ⟨_, rfl, rfl, z, rfl, rfl, trivial, _, rfl, ?_⟩
              rw [ea, Bool.true_and] at q'
              cases eb : Txt.isalpha z with
              | false =>
                rw [eb, Bool.false_and] at q'
                exact iteF q'
              | true =>
                rw [eb, Bool.true_and] at q'
                exact iteT ⟨_, rfl, rfl, z, rfl, rfl, trivial, q'⟩
        · rw [decide_eq_false h8, Bool.false_and] at q'
          refine ite2 (fun _ => q') (fun n => ?_)
          rw [decide_eq_false (by omega)] at n
          exact absurd rfl n
      · rw [decide_eq_false h1, Bool.false_and, Bool.false_and] at q'
        refine ite2 (fun n => ?_) (fun _ => ⟨_, rfl, iteT q'⟩)
        have := of_decide_eq_true n
        omega
    · rw [e3] at q'
      exact ⟨_, rfl, _, _, _, _, false, rfl, .ty _, ty, kit_ty k3, _, rfl, iteT q'⟩

def spNam : Sp := fun vs H Q _ => ∃ z, vs = [.str z] ∧ z.length ≤ 1000 ∧ Asc z ∧ ∀ H', Same H H' → Q (.bl (isNam (.str z))) H'

theorem ok_is_index (D : Df K mg "is_index" s_is_index ["value", "many"]) (G_is_count : Cg P w K mg base 2 "is_count" (spOf fun v => isInt v && notNeg v)) : Cg P w K mg base 3 "is_index" (fun vs H Q _ => ∃ (v : V) (n : Int), vs = [v, .int n] ∧ Judged H v ∧ ∀ H', Same H H' → Q (.bl (match v with | .int i => (isInt v && notNeg v) && decide (i < n) | _ => false)) H') := by
  refine D.ok sc_is_index (fun vs H Q E h => ?_) (fun cdv A outer s H vs Q E f hc hr h => ?_)
  · obtain ⟨v, n, rfl, _⟩ := h
    rfl
  · obtain ⟨v, n, rfl, j, q⟩ := h
    refine ⟨_, (pss_one (ps_ret (pe_and (pe_cg G_is_count hc hr (by rfl) (pa_cons (pv 0) pa_nil)) (pe_one (pe_cmpR op_lt (pv 0) (pv 1) (nomark _)))))), ?_⟩
    refine ⟨_, rfl, v, rfl, j, fun H1 s1 => ⟨_, rfl, ?_⟩⟩
    cases v with
    | int i =>
      have q2 : Q (.bl ((isInt (.int i) && notNeg (.int i)) && decide (i < n))) H1 := q H1 s1
      show if (isInt (.int i) && notNeg (.int i)) = true then _ else _
      cases e : isInt (.int i) && notNeg (.int i) with
      | true =>
        rw [e, Bool.true_and] at q2
        exact iteT ⟨_, rfl, _, rfl, _, _, rfl, rfl, q2⟩
      | false =>
        rw [e, Bool.false_and] at q2
        exact iteF q2
    | _ => exact iteF (q H1 s1)
end
end K04
set_option Elab.async false
set_option linter.all false
set_option autoImplicit false
set_option maxRecDepth 100000
set_option maxHeartbeats 4000000
namespace K04
open PySem PySem.Spec PyProof.Rows L2 Vb Wd

theorem same_put {H H' : Hp} {D : Addr} {o : HO} (nD : H D = none) (s : Same H H') : Same H (upd H' D o) := fun b x e => by
  rw [upd_ne (ne_of_none e nD)]
  exact s b x e
/-- a child: a name and a step -/
structure Kid (H : Hp) (t : Addr) (n : Str) (s : Int) : Prop where
  at_ : H t = some (.tup [.str n, .int s])
  nam : isNam (.str n) = true
  plain : n.length ≤ 1000 ∧ Asc n
  lo : 0 ≤ s
  hi : s ≤ 3
theorem Kid.same {H H' : Hp} {t : Addr} {n : Str} {s : Int} (k : Kid H t n s) (h : Same H H') : Kid H' t n s := ⟨h _ _ k.at_, k.nam, k.plain, k.lo, k.hi⟩
/-- children: a tuple of two to four -/
structure Kids (H : Hp) (a : Addr) (ts : List Addr) (cs : List (Str × Int)) : Prop where
  at_ : H a = some (.tup (ts.map V.ref))
  len : ts.length = cs.length
  lo : 2 ≤ ts.length
  hi : ts.length ≤ 4
  kid : ∀ (i : Nat) (t : Addr) (c : Str × Int), ts[i]? = some t → cs[i]? = some c → Kid H t c.1 c.2
theorem Kids.same {H H' : Hp} {a : Addr} {ts : List Addr} {cs : List (Str × Int)} (k : Kids H a ts cs) (h : Same H H') : Kids H' a ts cs := ⟨h _ _ k.at_, k.len, k.lo, k.hi, fun i t c h1 h2 => (k.kid i t c h1 h2).same h⟩
def spStep : Sp := fun vs H Q _ => ∃ s : Int, vs = [.int s] ∧ 0 ≤ s ∧ s ≤ 3 ∧ ∀ H', Same H H' → Q (.bl true) H'
def spChild : Sp := fun vs H Q _ => ∃ t n s, vs = [.ref t] ∧ Kid H t n s ∧ ∀ H', Same H H' → Q (.bl true) H'
def spChildren : Sp := fun vs H Q _ => ∃ a ts cs, vs = [.ref a] ∧ Kids H a ts cs ∧ ∀ H', Same H H' → Q (.bl true) H'
section
variable {P : Program} {w : World} {K : PySem.W.Frag} {mg : Str → Option Value} {base : Heap}
theorem ok_is_step {t : Tok} (D : Df K mg "_is_step" s_is_step ["value"]) (G_is_count : Cg P w K mg base 2 "is_count" (spOf fun v => isInt v && notNeg v)) (c_MAX_STEP : mg "MAX_STEP" = some (.int 3 t)) : Cg P w K mg base 3 "_is_step" spStep := by
  refine D.ok sc_is_step (fun vs H Q E h => ?_) (fun cdv A outer s H vs Q E f hc hr h => ?_)
  · obtain ⟨s, rfl, _⟩ := h
    rfl
  · obtain ⟨n, rfl, lo, hi, q⟩ := h
    refine ⟨_, (pss_one (ps_ret (pe_and (pe_cg G_is_count hc hr (by rfl) (pa_cons (pv 0) pa_nil)) (pe_one (pe_cmpR op_le (pv 0) (pe_glob (v := .int 3) rfl c_MAX_STEP ⟨_, rfl⟩) (nomark _)))))), ?_⟩
    refine ⟨_, rfl, .int n, rfl, (by show n.natAbs < 10 ^ 100; exact Nat.lt_of_le_of_lt (show n.natAbs ≤ 3 by omega) (by decide)), fun H1 s1 => ⟨_, rfl, ?_⟩⟩
    have e : (isInt (.int n) && notNeg (.int n)) = true := by
      have e1 : isInt (.int n) = true := decide_eq_true (Nat.lt_of_le_of_lt (show n.natAbs ≤ 3 by omega) (by decide))
      have e2 : notNeg (.int n) = true := decide_eq_true lo
      rw [e1, e2]
      rfl
    show if (isInt (.int n) && notNeg (.int n)) = true then _ else _
    rw [if_pos e]
    refine ⟨_, rfl, _, _, rfl, rfl, ?_⟩
    show Q (.bl (decide (n ≤ 3))) H1
    rw [decide_eq_true hi]
    exact q H1 s1
theorem ok_is_child (D : Df K mg "_is_child" s_is_child ["value"]) (G_is_name : Cg P w K mg base 1 "is_name" (spOf isNam)) (G_is_step : Cg P w K mg base 3 "_is_step" spStep) (z_isinstance : mg "isinstance" = none) (z_tuple : mg "tuple" = none) (z_len : mg "len" = none) : Cg P w K mg base 4 "_is_child" spChild := by
  refine D.ok sc_is_child (fun vs H Q E h => ?_) (fun cdv A outer s H vs Q E f hc hr h => ?_)
  · obtain ⟨t, n, s, rfl, _⟩ := h
    rfl
  · obtain ⟨t, n, i, rfl, k, q⟩ := h
    refine ⟨_, (pss_one (ps_ret (pe_and (pe_callB call_isi (by rfl) z_isinstance (by decide +kernel) (pa_cons (pv 0) (pa_cons (pe_bltn (v := .ty "tuple") (by rfl) z_tuple (by decide +kernel) rfl) pa_nil))) (pe_and (pe_cmpR op_eq (pe_callB call_len_seq (by rfl) z_len PySem.boot_len (pa_cons (pv 0) pa_nil)) pe_int (nomark _)) (pe_and (pe_cg G_is_name hc hr (by rfl) (pa_cons (pe_ix (ix_tup : IxR _ (rIxT K)) (pv 0) pe_int (fun _ _ => rfl)) pa_nil)) (pe_one (pe_cg G_is_step hc hr (by rfl) (pa_cons (pe_ix (ix_tup : IxR _ (rIxT K)) (pv 0) pe_int (fun _ _ => rfl)) pa_nil)))))))), ?_⟩
    refine ⟨_, rfl, _, _, _, _, true, rfl, .ty _, .base (.tup k.at_), kit_ty (by decide +kernel), _, rfl, iteT ⟨_, rfl, t, _, rfl, .inr (.inl (.inl k.at_)), rfl, _, rfl, iteT ⟨_, rfl, t, _, _, _, rfl, rfl, .inl (.inl k.at_), rfl, .str n, rfl, k.plain, fun H1 s1 => ⟨_, rfl, ?_⟩⟩⟩⟩
    rw [k.nam]
    refine iteT ⟨_, rfl, t, _, _, _, rfl, rfl, .inl (.inl (s1 _ _ k.at_)), rfl, i, rfl, k.lo, k.hi, fun H2 s2 => q H2 (s1.trans s2)⟩
theorem ok_is_children {tk : Tok} (D : Df K mg "_is_children" s_is_children ["value"]) (G_is_child : Cg P w K mg base 4 "_is_child" spChild) (z_isinstance : mg "isinstance" = none) (z_tuple : mg "tuple" = none) (z_len : mg "len" = none) (z_all : mg "all" = none) (c_MAX_CHILDREN : mg "MAX_CHILDREN" = some (.int 4 tk)) : Cg P w K mg base 5 "_is_children" spChildren := by
  refine D.ok sc_is_children (fun vs H Q E h => ?_) (fun cdv A outer s H vs Q E f hc hr h => ?_)
  · obtain ⟨a, ts, cs, rfl, _⟩ := h
    rfl
  · obtain ⟨a, ts, cs, rfl, k, q⟩ := h
    refine ⟨_, (pss_cons (ps_if (PW.pt (pw_or (pt_not (pt_val (pe_callB call_isi (by rfl) z_isinstance (by decide +kernel) (pa_cons (pv 0) (pa_cons (pe_bltn (v := .ty "tuple") (by rfl) z_tuple (by decide +kernel) rfl) pa_nil))))) (pw_or1 (pt_not (pt_chain op_le op_le pe_int (pe_callB call_len_seq (by rfl) z_len PySem.boot_len (pa_cons (pv 0) pa_nil)) (pe_glob (v := .int 4) rfl c_MAX_CHILDREN ⟨_, rfl⟩))))))
      (pss_one (ps_ret pe_bl))
      pss_nil)
      (pss_one (ps_ret (pe_callB (cr_all rfl) (by rfl) z_all (by decide +kernel) (pa_cons (pe_lc (own := [("child", 1)]) (g := gName 1) (by rfl) sc_is_children.nd (pi_tup (pv 0)) (blkOk_by (own := [("child", 1)]) (N := ["value", "child"]) (sc := defScope s_is_children) (by decide +kernel)) (fun _ _ _ _ _ => pg_name (i := 1) sc_is_children.nd rfl (Or.inl rfl)) (fun _ _ _ _ _ => pts_nil) (fun _ _ _ _ _ => (pe_cg G_is_child hc hr (by rfl) (pa_cons (pv 1) pa_nil)))) pa_nil))))), ?_⟩
    have hT : ∀ {H' : Hp}, Same H H' → SqT K H' a (ts.map V.ref) := fun s => .inl (.inl (s _ _ k.at_))
    have tl := k.len
    refine ⟨_, rfl, _, _, _, _, true, rfl, .ty _, .base (.tup k.at_), kit_ty (by decide +kernel), _, rfl, iteF ⟨_, rfl, a, _, rfl, .inr (hT (Same.refl H)), ?_⟩⟩
    have len : (ts.map V.ref).length = ts.length := List.length_map ..
    have l2 := k.lo
    have l4 := k.hi
    refine ⟨_, _, rfl, rfl, _, rfl, ite2 (fun _ => ⟨_, _, rfl, rfl, _, rfl, ite2 (fun n => ?_) (fun _ => ?_)⟩) (fun n => absurd (decide_eq_true (show (2 : Int) ≤ ((ts.map V.ref).length : Int) by rw [len]; omega)) n)⟩
    · have e : decide (((ts.map V.ref).length : Int) ≤ 4) = true := decide_eq_true (by rw [len]; omega)
      rw [e] at n
      cases n
    refine ⟨_, rfl, a, rfl, ⟨_, hT (Same.refl H)⟩, fun D nD => lc_tup (K := K) (a := a) (xs := ts.map V.ref) (fun i H' => Same H H' ∧ H' D = some (.lst ((List.replicate i true).map V.bl))) ⟨same_put nD (Same.refl H), upd_same⟩ (fun i H' _ h => hT h.1) (fun i x H1 hx h => ?_) (fun H1 h => ?_)⟩
    · obtain ⟨s1, e1⟩ := h
      rw [List.getElem?_map] at hx
      obtain ⟨t, ht, rfl⟩ := Option.map_eq_some_iff.mp hx
      have il : i < cs.length := by rw [← tl]; exact (List.getElem?_eq_some_iff.mp ht).1
      refine ⟨rfl, _, rfl, t, _, _, rfl, (k.kid i t cs[i] ht (List.getElem?_eq_getElem il)).same s1, fun H2 s2 => ⟨_, s2 _ _ e1, ?_, same_put nD (s1.trans s2), ?_⟩⟩
      · rw [List.length_map, List.length_replicate]
        exact Nat.lt_of_lt_of_le (show i < 5 by omega) (by decide)
      · rw [upd_same, List.replicate_succ', List.map_append]
        rfl
    · obtain ⟨s1, e1⟩ := h
      refine ⟨D, _, rfl, .inl (.inl e1), ?_⟩
      have ea : (List.replicate (ts.map V.ref).length true).all id = true := by
        rw [List.all_eq_true]
        intro b hb
        rw [(List.mem_replicate.mp hb).2]
        rfl
      rw [ea]
      exact q H1 s1
end
end K04
set_option Elab.async false
set_option linter.all false
set_option autoImplicit false
set_option maxRecDepth 100000
set_option maxHeartbeats 4000000
/-! Xk: own errors with an __init__ of their own over any built-in error, KeyError too: KeyError has no __new__ of its own, so what makes is named after its base. -/
namespace Xk
open PySem PySem.F PySem.PX Builtin Builtin.ObjectAttr
abbrev keTail : List Value := [.type "KeyError", .type "LookupError", .type "Exception", .type "BaseException", .type "object"]
theorem storeKE : StoreFacts "KeyError" keTail "object.__setattr__" "object" := by
  constructor
  case mro => kernel_rfl
  case slot =>
    refine .of (owner := "object") (n := "__setattr__") ?_ ?_ ?_ ?_ ?_ ?_
    · rw [typeLookup_type, builtinLookup_eq_fast]; kernel_rfl
    · decide +kernel
    · decide +kernel
    · decide +kernel
    · first
      | exact .inl (by decide +kernel)
      | exact .inr (by decide +kernel)
    · rw [isSubtype_type]; kernel_rfl
  case entry => exact entry_object_sa
  case kind => decide +kernel
  case split => decide +kernel
  case hasOwner => decide +kernel
  case args => intro a b c; unfold argsOk; kernel_rfl
  case passes => intro self; kernel_rfl
/-- what of the mro the making asks -/
structure Over (bm : List Value) (B : String) : Prop where
  base : bm.contains (.type B) = true
  attr : bm.contains (.type "AttributeError") = false
  name : bm.contains (.type "NameError") = false
section
variable {prog : Program} {w : World} {A : Around} {E : Value → Shared → Prop} {R : Result → Shared → Prop} {h : Heap} {g : Array GenState} {d : Drawn} {t : Nat} {os : OsState}
variable {nm q : Str} {C N : Addr} {bs bm bmB : List Value} {hdct : Bool} {sn : List Str} {sub : List Value} {ab : Bool} {col : Option Bool} {dd : Option Addr} {k0 k1 k2 k3 k5 : Option Value} {B newId initId : String}
theorem asks_new {M : Model} (F : ExcBaseFacts B newId initId bmB) (O : Over bm B) {us : List Value} {Q : Unit → Shared → Prop}
    (at_C : h.get? C = some (excClassObj nm q C N bs bm hdct sn sub ab col dd k0 k1 k2 k3 k5 newId)) (k : Q () ⟨h, g, d, t, os⟩) : wpAny M A (checkBuiltinCall newId ⟨.ref C :: us, []⟩) Q E ⟨h, g, d, t, os⟩ := by
  have inB : (Value.ref C :: bm).contains (.type B) = true := by rw [List.contains_cons, O.base, Bool.or_true]
  have st := F.noStar
  simp only [checkBuiltinCall, F.newKind, F.newSplit, F.newRow]
  repeat
    first
    | refine wpAny_loadPart_at at_C ?_
    | refine wpAny_isSubtype_exc at_C ?_; rw [inB]
    | refine wpAny_staticBase_exc at_C ?_
    | refine wpAny_madeBy_exc at_C ?_
    | simp only [bne_self_eq_false, Bool.false_eq_true, if_false]
    | wp_step
  exact k
theorem makes_new (F : ExcBaseFacts B newId initId bmB) (O : Over bm B) {us : List Value} (at_C : h.get? C = some (excClassObj nm q C N bs bm hdct sn sub ab col dd k0 k1 k2 k3 k5 newId)) (few : us.length ≤ sizeLine)
    (k : R (.ok (.ret (.ref (h.objs.size + 1)))) ⟨(h.push (W.kdv_tup us)).push (excO C h.objs.size), g, d, t, os⟩) : codeAny (model prog w) A (.builtin newId ⟨.ref C :: us, []⟩) R ⟨h, g, d, t, os⟩ := by
  have ends := F.ends
  have inB : (Value.ref C :: bm).contains (.type B) = true := by rw [List.contains_cons, O.base, Bool.or_true]
  have inA : (Value.ref C :: bm).contains (.type "AttributeError") = false := by rw [List.contains_cons, O.attr]; rfl
  have inN : (Value.ref C :: bm).contains (.type "NameError") = false := by rw [List.contains_cons, O.name]; rfl
  refine codeAny_builtinAt F.entry ?_
  unfold Builtin.«BaseException.__new__»
  refine wpAt_bind ?_
  show wpAt _ _ _ (stack >>= _) _ _ _
  refine wpAt_bind (wpAt_stack fun p below => wpAt_of_wpAny ?_)
  wp_walk
  refine wpAt_of_wpAny ?_
  rw [F.owner]
  repeat
    first
    | with_reducible refine wpAny_madeHere_exc F.canon at_C ?_
    | with_reducible refine wpAny_loadPart_at at_C ?_
    | (with_reducible refine wpAny_isSubtype_exc at_C ?_; first | rw [inB] | rw [inA] | rw [inN])
    | wp_step
  show R _ _
  rw [Heap.size_push]
  exact k
theorem type_makes (F : ExcBaseFacts B newId initId bmB) (O : Over bm B) {us : List Value} {fI : Addr} {Q : Fin → Shared → Prop} (at_C : h.get? C = some (excClassObj nm q C N bs bm hdct sn sub ab col dd k0 k1 k2 k3 k5 newId))
    (ini : W.Looks (model prog w) h (typeLookup (.ref C) "__init__") (some (.ref fI))) (bnd : ∀ x, W.Looks (model prog w) h (bindSpecial (.ref fI) x) (.ref fI, [x])) (few : us.length ≤ sizeLine)
    (k : codeAny (model prog w) A (.call (.ref fI) ⟨.ref (h.objs.size + 1) :: us, []⟩)
      (fun r s' => match r with
        | .ok (.ret v) => v = .none ∧ Q (.done (.ret (.ref (h.objs.size + 1)))) s'
        | .ok _ => False
        | .error e => E e s')
      ⟨(h.push (W.kdv_tup us)).push (excO C h.objs.size), g, d, t, os⟩) : wpAny (model prog w) A (Builtin.«type.__call__» ⟨.ref C :: us, []⟩) Q E ⟨h, g, d, t, os⟩ := by
  repeat
    first
    | with_reducible refine wpAny_loadPart_at at_C ?_
    | with_reducible refine wpAny_madeBy_exc at_C ?_
    | wp_step
  refine codeAny_call_builtin_code (Code.quiet_builtin _ F.quiet) (asks_new F O at_C ?_)
  refine makes_new F O at_C few ?_
  show wpAny _ _ _ _ _ _
  have keeps : ∀ b o, h.get? b = some o → ((h.push (W.kdv_tup us)).push (excO C h.objs.size)).get? b = some o := fun b o e =>
    Heap.get?_push_of_some _ (Heap.get?_push_of_some _ e)
  have at_C' := keeps _ _ at_C
  have at_x : ((h.push (W.kdv_tup us)).push (excO C h.objs.size)).get? (h.objs.size + 1) = some (excO C h.objs.size) := by heap_get
  have inC : (Value.ref C :: bm).contains (.ref C) = true := by simp
  have ini' := ini.keeps keeps
  have bnd' := (bnd (.ref (h.objs.size + 1))).keeps keeps
  unfold isInstance
  repeat
    first
    | with_reducible refine wpAny_loadPart_at at_x ?_
    | (with_reducible refine wpAny_isSubtype_exc at_C' ?_; rw [inC])
    | wp_step
  show wpAny _ _ (typeLookup (.ref C) _) _ _ _
  refine ini'.at (wpAny_holding (wpAny_bind (bnd'.at (wpAny_bind (wpAny_call (codeAny_mono k fun r s' z => ?_))))))
  rcases r with e | fl
  · exact z
  · cases fl
    case ret v =>
      obtain ⟨rfl, y⟩ := z
      first
      | exact wpAny_pure (wpAny_pure y)
      | (wp_walk; exact y)
    all_goals exact z.elim
theorem calls_own (F : ExcBaseFacts B newId initId bmB) (O : Over bm B) {us : List Value} {fI : Addr} (at_C : h.get? C = some (excClassObj nm q C N bs bm hdct sn sub ab col dd k0 k1 k2 k3 k5 newId))
    (ini : W.Looks (model prog w) h (typeLookup (.ref C) "__init__") (some (.ref fI))) (bnd : ∀ x, W.Looks (model prog w) h (bindSpecial (.ref fI) x) (.ref fI, [x])) (few : us.length ≤ sizeLine)
    (k : codeAny (model prog w) (A.under (.builtin "type.__call__" ⟨.ref C :: us, []⟩)) (.call (.ref fI) ⟨.ref (h.objs.size + 1) :: us, []⟩) (W.InitBack (h.objs.size + 1) R) ⟨(h.push (W.kdv_tup us)).push (excO C h.objs.size), g, d, t, os⟩) :
    codeAny (model prog w) A (.call (.ref C) ⟨us, []⟩) R ⟨h, g, d, t, os⟩ := by
  have l1 := tc_lookup
  have l2 := tc_bind (.ref C)
  have ty : (⟨h, g, d, t, os⟩ : Shared).TypeIs (.ref C) "type" := ⟨_, at_C, rfl⟩
  refine codeAny_of_tree ?_
  show wpAny _ _ (callAny (.ref C) _) _ _ _
  repeat
    any_goals
      first
      | assumption
      | with_reducible refine wpAny_loadPart_at at_C ?_
      | wp_step
  refine ⟨rfl, ?_⟩
  refine codeAny_call_builtin_at (Code.quiet_builtin _ (by decide +kernel)) entry_typeCall (wpAny_check_type_call_sub at_C (type_makes F O at_C ini bnd few ?_))
  refine codeAny_mono k fun r s' z => ?_
  rcases r with e | (v | _ | _ | _) <;> exact z
end
end Xk
set_option Elab.async false
set_option linter.all false
set_option autoImplicit false
set_option maxRecDepth 100000
set_option maxHeartbeats 4000000
/-! Xe: own errors as values: made, with an __init__ of their own or without, asked by isinstance, their fields read. -/
namespace Xe
open PySem PySem.Spec PyProof.Rows L2 Vb Wd
/-- what an own error class tells of its instances -/
structure EC (K : PySem.W.Frag) (C : Addr) : Prop where
  ga : PySem.W.findIn K (.ref C) "__getattribute__" = some (some (.builtin "BaseException.__getattribute__"))
  gt : PySem.W.findIn K (.ref C) "__getattr__" = some none
  sub : PySem.W.subIn K (.ref C) (.type "BaseException") = some true
  ca : PySem.W.findIn K (.ref C) "__class__" = some (some (.builtin "object.__class__"))
  sp : PySem.W.specialIn K (.builtin "object.__class__") "__get__" = some (some (.builtin "getset_descriptor.__get__"))
  tk : PySem.W.takesIn K (.builtin "object.__class__") = some true
  mo : PySem.W.mroIn K C (.type "object") = some true
  hd : PySem.W.hasDictIn K C = true
/-- the same as one question to the written part -/
def ecB (K : PySem.W.Frag) (C : Addr) : Bool :=
  decide (PySem.W.findIn K (.ref C) "__getattribute__" = some (some (.builtin "BaseException.__getattribute__"))) &&
  (decide (PySem.W.findIn K (.ref C) "__getattr__" = some none) &&
  (decide (PySem.W.subIn K (.ref C) (.type "BaseException") = some true) &&
  (decide (PySem.W.findIn K (.ref C) "__class__" = some (some (.builtin "object.__class__"))) &&
  (decide (PySem.W.specialIn K (.builtin "object.__class__") "__get__" = some (some (.builtin "getset_descriptor.__get__"))) &&
  (decide (PySem.W.takesIn K (.builtin "object.__class__") = some true) &&
  (decide (PySem.W.mroIn K C (.type "object") = some true) && PySem.W.hasDictIn K C))))))
theorem ec_of {K : PySem.W.Frag} {C : Addr} (h : ecB K C = true) : EC K C := by
  unfold ecB at h
  simp only [Bool.and_eq_true, decide_eq_true_eq] at h
  obtain ⟨h1, h2, h3, h4, h5, h6, h7, h8⟩ := h
  exact ⟨h1, h2, h3, h4, h5, h6, h7, h8⟩
/-- an own error of the class at C stands at a -/
def ErrAt (H : Hp) (a C : Addr) : Prop := H a = some (ExO (.ref C) a) ∨ ∃ d fs, H a = some (exo a C (some d)) ∧ H d = some (exd d fs)
theorem ErrAt.same {H H' : Hp} {a C : Addr} (s : Same H H') : ErrAt H a C → ErrAt H' a C
  | .inl e => .inl (s _ _ e)
  | .inr ⟨d, fs, e1, e2⟩ => .inr ⟨d, fs, s _ _ e1, s _ _ e2⟩
section
variable {X : Cx} {pins : List (Addr × Obj)} {σ : L2.St} {H : Hp} {s : Shared}
theorem err_inst {a C : Addr} (I : Inv X pins σ H s) (h : ErrAt H a C) : ∃ (oe : Obj) (od : Option Obj), PySem.W.InstAt s.heap a oe C od := by
  rcases h with h | ⟨d, fs, e1, e2⟩
  · obtain ⟨⟨oe, vs, ho, hz, hd, _⟩, _, _⟩ := I.hok a _ h
    exact ⟨oe, none, ho, hz.1, by unfold PySem.W.notCls; rw [hd], by rw [hz.2]; trivial⟩
  · obtain ⟨t1, ho⟩ := exo_at I.hok e1
    obtain ⟨mA, hns, _⟩ := exd_at I.hok e2
    obtain ⟨od, hod, _⟩ := lookIn_ns hns
    exact ⟨_, some od, ho, rfl, rfl, hod⟩
/-- isinstance(e, c), e an own error -/
def rIsE (K : PySem.W.Frag) : List V → Hp → VK → Prop := fun xs H Q => ∃ (a C : Addr) (c : V) (u : Value) (b : Bool), xs = [.ref a, c] ∧ ClsV c u ∧ EC K C ∧ ErrAt H a C ∧ PySem.W.kitOne K (.ref C) u = some b ∧ Q (.bl b) H
theorem cr_isE : CallR X (.builtin "isinstance") (rIsE X.K) := by
  intro pins s σ H xs us Q I r h
  obtain ⟨a, C, c, u, b, rfl, k, T, at_, e, q⟩ := h
  obtain ⟨u1, u2, rfl, r1, r2⟩ := vals2 r
  cases (show u1 = Value.ref a from r1)
  have e2 := k.eq r2
  subst e2
  obtain ⟨oe, od, J⟩ := err_inst I at_
  obtain ⟨cd, hc, _⟩ := PySem.W.any_some T.hd
  exact PySem.W.kia_one (PySem.W.kitx_exc (by rw [hc]; rfl) T.ga T.gt T.sub T.ca T.sp T.tk T.mo) I.kIn J e (fun z => nomatch z) fun tk => ⟨.bl b, H, I.tok tk, rfl, q⟩
/-- e.f, e an own error that bears f -/
def tEf (K : PySem.W.Frag) (f : Str) (te : TE) : TE := fun σ H Q => te σ H fun x H1 => ∃ (a C d : Addr) (fs : List (Str × V)) (v : V), x = .ref a ∧ EC K C ∧ PySem.W.findIn K (.ref C) f = some none ∧
  H1 a = some (exo a C (some d)) ∧ H1 d = some (exd d fs) ∧ fs.lookup f = some v ∧ Q v H1
theorem pe_ef {e : Expr} {te : TE} {pos : Pos} {f : Str} (he : PE X e te) (hb : attributeBase e f X.env (eval e X.env) = eval e X.env := by rfl) : PE X (.Attribute e f pos) (tEf X.K f te) := by
  refine ⟨fun pins s σ H Q I h => ?_⟩
  refine attr_of hb (thn (he.run pins s σ H _ I h) fun u s1 hh => ?_)
  obtain ⟨x, H1, I1, rx, a, C, d, fs, v, ex, T, no, e1, e2, l, q⟩ := hh
  subst ex
  obtain rfl : u = Value.ref a := rx
  obtain ⟨t1, ho⟩ := exo_at I1.hok e1
  obtain ⟨mA, hns, hr⟩ := exd_at I1.hok e2
  obtain ⟨od, hod, hl⟩ := lookIn_ns hns
  obtain ⟨u, hu, ru⟩ := RelO.some_of (v := v) (o := mA f) (by rw [← l]; exact hr f)
  exact HandSPX.exc_get I1.kIn ⟨ho, rfl, rfl, hod⟩ T.ga T.gt T.sub (PySem.W.findObj_own T.hd no rfl (by rw [hl, hu])) (handed_of ru) ⟨v, H1, I1.tok _, ru, q⟩
end
end Xe
set_option Elab.async false
set_option linter.all false
set_option autoImplicit false
set_option maxRecDepth 100000
set_option maxHeartbeats 4000000
/-! Xi: own errors whose __init__ keeps one field: the store, the making. -/
namespace Xi
open PySem PySem.Spec PyProof.Rows L2 Vb Wd Xe Xk Builtin Builtin.ObjectAttr
/-- an own error class at C with an __init__ of its own, the function at fI -/
structure EI (K : PySem.W.Frag) (C fI : Addr) : Prop extends EC K C where
  sa : PySem.W.findIn K (.ref C) "__setattr__" = some (some (.builtin "object.__setattr__"))
  iC : PySem.W.findIn K (.ref C) "__init__" = some (some (.ref fI))
  tI : PySem.W.typeIn K (.ref fI) = some (.type "function")
  kC : PySem.W.keepIn K (.ref C) = true
  ty : PySem.W.typeIn K (.ref C) = some (.type "type")
  st : ∃ (B : String) (bm : List Value), StoreFacts B bm "object.__setattr__" "object" ∧ PySem.W.excOver K C bm = true
  mak : ∃ (B newId initId : String) (bmB bm : List Value), ExcBaseFacts B newId initId bmB ∧ PySem.W.excInitIn K C bm newId = true ∧ Over bm B
def eiB (K : PySem.W.Frag) (C fI : Addr) (bm : List Value) (newId : String) : Bool :=
  ecB K C && (decide (PySem.W.findIn K (.ref C) "__setattr__" = some (some (.builtin "object.__setattr__"))) && (decide (PySem.W.findIn K (.ref C) "__init__" = some (some (.ref fI))) &&
  (decide (PySem.W.typeIn K (.ref fI) = some (.type "function")) && (PySem.W.keepIn K (.ref C) && (decide (PySem.W.typeIn K (.ref C) = some (.type "type")) && (PySem.W.excOver K C bm && PySem.W.excInitIn K C bm newId))))))
theorem ei_of {K : PySem.W.Frag} {C fI : Addr} {bm bmB : List Value} {B B' newId initId : String} (S : StoreFacts B' bm "object.__setattr__" "object") (F : ExcBaseFacts B newId initId bmB) (O : Over bm B) (h : eiB K C fI bm newId = true) : EI K C fI := by
  unfold eiB at h
  simp only [Bool.and_eq_true, decide_eq_true_eq] at h
  obtain ⟨h1, h2, h3, h4, h5, h8, h6, h7⟩ := h
  exact { toEC := ec_of h1, sa := h2, iC := h3, tI := h4, kC := h5, ty := h8, st := ⟨_, _, S, h6⟩, mak := ⟨_, _, _, _, _, F, h7, O⟩ }
section
variable {X : Cx} {pins : List (Addr × Obj)} {σ : L2.St} {H : Hp} {s : Shared} {a C fI : Addr} {f : Str} {y : V} {u : Value}
theorem store_first {A : Around} {Q : Unit → Shared → Prop} {E : Value → Shared → Prop} (T : EI X.K C fI) (no : PySem.W.findIn X.K (.ref C) f = some none) (I : Inv X pins σ H s) (e : H a = some (exo a C none)) (ry : RelV y u)
    (k : ∀ d s', H d = none → d ≠ a → Inv X pins σ (upd (upd H a (exo a C (some d))) d (exd d [(f, y)])) s' → Q () s') : wpAny (model X.prog X.w) A (setAttr (.ref a) f u) Q E s := by
  obtain ⟨t1, ho⟩ := exo_at I.hok e
  obtain ⟨B, bm, S, ov⟩ := T.st
  obtain ⟨cd, hc, hd⟩ := PySem.W.any_some T.hd
  obtain ⟨hp, g, dr, t, os⟩ := s
  have tkr : PySem.W.takerIn X.K C f = some none := by
    unfold PySem.W.takerIn
    rw [no]
    rfl
  have J : PySem.W.InstAt hp a { cls := .ref C, dict := none, data := .fields #[.ref t1, .none, .none, .none, .bool false, .none] } C none := ⟨ho, rfl, rfl, trivial⟩
  refine PySem.W.set_plain I.kIn J T.sa (PySem.W.osa_openX (s := ⟨hp, g, dr, t + 1, os⟩) S I.kIn J ov tkr fun b => ?_)
  refine wpAny_bind (wpAny_pure (wpAny_bind (PySem.W.instanceDict_exc ho (PySem.W.looks_clsIn I.kIn hc) hd ?_)))
  show wpAny _ _ (storeInDict hp.objs.size (.str f t) f u) _ _ _
  have ane : a ≠ hp.objs.size := Nat.ne_of_lt (Heap.lt_size ho)
  have nd : H hp.objs.size = none := I.hok.fresh (Nat.le_refl _)
  refine PX.store_in_new ?_ fun h' tk' hn' hs => ?_
  · exact ⟨_, #[], _, (Heap.get?_update_ne _ _ _ _ ane.symm).trans (Heap.get?_push_at rfl rfl), rfl, fun e he => absurd he (by simp), fun _ => rfl⟩
  -- the object with its dict's address
  have at_a : (hp.update a fun o => { o with dict := some hp.objs.size }).get? a = some { cls := .ref C, dict := some hp.objs.size, data := .fields #[.ref t1, .none, .none, .none, .bool false, .none] } := Heap.get?_update_self _ ho rfl
  have I1 := I.write (t' := t) (x := a) (e := a) (o := exo a C (some hp.objs.size)) (h' := hp.update a fun o => { o with dict := some hp.objs.size }) (by rw [e]; exact True.intro) (.inl rfl)
    (fun b o nb q => (Heap.get?_update_ne _ _ _ _ nb).trans q) ⟨_, at_a⟩ (exo_ok at_a)
  refine k hp.objs.size _ nd ane.symm (I1.laid (t' := tk') (h' := h') (fun b o q => ?_) (by rw [Heap.size_update]; exact Nat.le_refl _) (exd_ok hn' (relO_put (fs := []) ry fun _ => True.intro)))
  have lt : b ≠ hp.objs.size := by
    have l := Heap.lt_size q
    rw [Heap.size_update] at l
    exact Nat.ne_of_lt l
  refine (hs.2 b lt).trans ?_
  by_cases eb : b = a
  · subst eb
    rw [at_a] at q
    cases q
    exact Heap.get?_update_self _ (Heap.get?_push_of_some _ ho) rfl
  · rw [Heap.get?_update_ne _ _ _ _ eb] at q ⊢
    exact Heap.get?_push_of_some _ q
end
end Xi
set_option Elab.async false
set_option linter.all false
set_option autoImplicit false
set_option maxRecDepth 100000
set_option maxHeartbeats 4000000
/-! Xm: self.f = e in such an __init__, and the call of the class. -/
namespace Xm
open PySem PySem.Spec PyProof.Rows L2 Vb Wd Xe Xk Xi
/-- what the one-field __init__ of the class at C promises -/
def spSet (K : PySem.W.Frag) (C fI : Addr) (f : Str) : Sp := fun vs H Q _ => ∃ (a : Addr) (y : V), vs = [.ref a, y] ∧ EI K C fI ∧ PySem.W.findIn K (.ref C) f = some none ∧ H a = some (exo a C none) ∧
  ∀ d, H d = none → d ≠ a → Q .non (upd (upd H a (exo a C (some d))) d (exd d [(f, y)]))
/-- self.f = e -/
def tSetE (K : PySem.W.Frag) (f : Str) (to te : TE) : TS := fun D σ H => te σ H fun y H1 => to σ H1 fun x H2 => ∃ a C fI : Addr, x = .ref a ∧ EI K C fI ∧ PySem.W.findIn K (.ref C) f = some none ∧ H2 a = some (exo a C none) ∧
  ∀ d, H2 d = none → d ≠ a → D.nx σ (upd (upd H2 a (exo a C (some d))) d (exd d [(f, y)]))
/-- C(e): a new error that bears its one field -/
def tMkE (C : Addr) (f : Str) (ta : TA) : TE := fun σ H Q => ta σ H fun vs H1 => ∃ y, vs = [y] ∧ ∀ a d, H1 a = none → H1 d = none → d ≠ a → Q (.ref a) (upd (upd H1 a (exo a C (some d))) d (exd d [(f, y)]))
section
variable {X : Cx} {o e : Expr} {to te : TE} {ta : TA} {f : Str} {p p' pos : Pos}
theorem ps_setE (ho : PE X o to) (he : PE X e te) (hs : swapsWith e (some (.Attribute o f p')) pos.line X.env = pure false := by rfl) : PS X (.Assign [.Attribute o f p'] e pos) (tSetE X.K f to te) := by
  refine ⟨fun pins s σ H D I h => ?_⟩
  refine plainObj_wpAny_Assign_Attribute (thn (he.run pins s σ H _ I h) fun v s1 ⟨y, H1, I1, r1, q1⟩ => ?_) hs
  refine thn (ho.run pins s1 σ H1 _ I1 q1) fun u s2 ⟨x, H2, I2, r2, a, C, fI, ex, T, no, ea, q⟩ => ?_
  subst ex
  obtain rfl : u = Value.ref a := r2
  exact store_first T no I2 ea r1 fun d s' nd ne J => ⟨σ, _, J, q d nd ne⟩
theorem pe_mkE {x : Str} {C fI : Addr} {k : Nat} {fd : FuncData} {ps : List Str} (T : EI X.K C fI) (no : PySem.W.findIn X.K (.ref C) f = some none) (F1 : FnG X.prog X.w X.K X.mg X.base k fI fd ps (spSet X.K C fI f)) (hc : Calm X.A) (hr : Room (k + 1) X.A) (hb : Binds X.K fd ps [])
    (hg : Gl X x) (hm : X.mg x = some (.ref C)) (ha : PA X [e] ta) (hdb : (x == ("__debug__" : Str)) = false := by decide) (he : starEach [e] X.env = (false, eval e X.env) :: starEach [] X.env := by rfl) (hpl : (backTo pos (starEach ([] : List Expr) X.env)).any (·.1) = false := by rfl) :
    PE X (.Call (.Name x p) [e] [] pos) (tMkE C f ta) := by
  refine ⟨fun pins s σ H Q I h => ?_⟩
  obtain ⟨B, newId, initId, bmB, bm, FB, ini, O⟩ := T.mak
  refine wpAny_Call_Name_kw (ld_glob I hg hm ?_ hdb)
  refine PySem.W.callWith_K (h₀ := X.base) I.ok.mod.kin T.kC (thn (ha.run pos pins s σ H _ I h) fun us s1 ⟨vs, H1, I1, r1, y, ev, q1⟩ => ⟨I1.kIn, ?_⟩) he hpl
  subst ev
  show wpAny _ _ (call (.ref C) us) _ _ _
  obtain ⟨v, rfl, r2⟩ := vals1 r1
  obtain ⟨nm, N, qn, bs, bm', hdct, sn, sub, ab, col, dd, k0, k1, k2, k3, k5, hC, same⟩ := PySem.W.excInit_of I1.kIn ini
  have O' : Over bm' B := ⟨(same B).trans O.base, (same _).trans O.attr, (same _).trans O.name⟩
  obtain ⟨hp, g, dr, tk, os⟩ := s1
  have sz : hp.objs.size ≤ hp.objs.size + 1 := Nat.le_succ _
  have n1 : H1 (hp.objs.size + 1) = none := I1.hok.fresh sz
  have keeps : ∀ b o, hp.get? b = some o → ((hp.push (PySem.W.kdv_tup [v])).push (PX.excO C hp.objs.size)).get? b = some o := fun b o e => Heap.get?_push_of_some _ (Heap.get?_push_of_some _ e)
  have at_x : ((hp.push (PySem.W.kdv_tup [v])).push (PX.excO C hp.objs.size)).get? (hp.objs.size + 1) = some (PX.excO C hp.objs.size) := by heap_get
  have I2 : Inv X pins σ (upd H1 (hp.objs.size + 1) (exo (hp.objs.size + 1) C none)) ⟨(hp.push (PySem.W.kdv_tup [v])).push (PX.excO C hp.objs.size), g, dr, tk, os⟩ :=
    I1.laid (t' := tk) (a := hp.objs.size + 1) (h' := (hp.push (PySem.W.kdv_tup [v])).push (PX.excO C hp.objs.size)) keeps sz (exo_ok at_x)
  have r3 : Vals [V.ref (hp.objs.size + 1), y] ([Value.ref (hp.objs.size + 1), v]) := .cons rfl (.cons r2 .nil)
  have pr : spSet X.K C fI f [V.ref (hp.objs.size + 1), y] (upd H1 (hp.objs.size + 1) (exo (hp.objs.size + 1) C none)) (fun z H2 => z = .non ∧ Q (.ref (hp.objs.size + 1)) H2) (fun _ _ _ => False) := by
    refine ⟨_, y, rfl, T, no, upd_same, fun d nd ne => ⟨rfl, ?_⟩⟩
    rw [upd_upd]
    rw [upd_ne ne] at nd
    exact q1 _ d n1 nd ne
  have len : [Value.ref (hp.objs.size + 1), v].length = ps.length := F1.count _ _ _ _ pr
  refine wpAny_call (calls_own FB O' hC (PySem.W.looks_findIn I1.kIn T.iC) (fun self => PySem.W.bind_fn I1.kIn self T.tI) (by show 1 ≤ sizeLine; decide) ?_)
  refine codeAny_mono (F1.goes _ X.stack _ _ ⟨[Value.ref (hp.objs.size + 1), v], []⟩ [Value.ref (hp.objs.size + 1), v] _ _ (fun _ _ _ => False) hc (hr.make C [v] []) (I2.env0.make C [v] []) (by simpa using hb _ [Value.ref (hp.objs.size + 1), v] I2.kIn (by simpa using len)) r3 pr) fun r s' hq => ?_
  match r, hq with
  | .error er, hq => exact pass0 pins σ _ _ er s' I2 hq
  | .ok (.ret u), hq =>
    obtain ⟨z, H2, os2, bare2, un2, hok2, rz, ez, q2⟩ := hq
    subst ez
    have e0 : u = Value.none := rz
    subst e0
    have J := I2.after (Q := fun z H2 => z = V.non ∧ Q (.ref (hp.objs.size + 1)) H2) ⟨.non, H2, os2, bare2, un2, hok2, rz, rfl, q2⟩
    obtain ⟨z', H3, J3, _, _, q3⟩ := J
    exact ⟨rfl, .ref (hp.objs.size + 1), H3, J3, rfl, q3⟩
  | .ok .next, hq => exact hq.elim
  | .ok .brk, hq => exact hq.elim
  | .ok .cont, hq => exact hq.elim
end
end Xm
set_option Elab.async false
set_option linter.all false
set_option autoImplicit false
set_option maxRecDepth 100000
set_option maxHeartbeats 4000000
/-! Xr: such an error raised. -/
namespace Xr
open PySem PySem.Spec PyProof.Rows L2 Vb Wd Xe Xk Xi Xm
def tRaE (C : Addr) (f : Str) (ta : TA) : L2.St → Hp → XK → Prop := fun σ H Q => ta σ H fun vs H1 => ∃ y, vs = [y] ∧ ∀ d, H1 d = none → Q (.ref C) (some d) (upd H1 d (.xd [(f, y)]))
section
variable {X : Cx} {e : Expr} {ta : TA} {f : Str} {p pos : Pos}
theorem pmk_E {x : Str} {C fI : Addr} {k : Nat} {fd : FuncData} {ps : List Str} (T : EI X.K C fI) (no : PySem.W.findIn X.K (.ref C) f = some none) (F1 : FnG X.prog X.w X.K X.mg X.base k fI fd ps (spSet X.K C fI f)) (hc : Calm X.A) (hr : Room (k + 1) X.A) (hb : Binds X.K fd ps [])
    (hg : Gl X x) (hm : X.mg x = some (.ref C)) (ha : PA X [e] ta) (hdb : (x == ("__debug__" : Str)) = false := by decide) (he : starEach [e] X.env = (false, eval e X.env) :: starEach [] X.env := by rfl) (hpl : (backTo pos (starEach ([] : List Expr) X.env)).any (·.1) = false := by rfl) :
    L2.PMk X (.Call (.Name x p) [e] [] pos) (tRaE C f ta) := by
  intro pins s σ H Q I h
  obtain ⟨B, newId, initId, bmB, bm, FB, ini, O⟩ := T.mak
  refine wpAny_Call_Name_kw (ld_glob I hg hm ?_ hdb)
  refine PySem.W.callWith_K (h₀ := X.base) I.ok.mod.kin T.kC (thn (ha.run pos pins s σ H _ I h) fun us s1 ⟨vs, H1, I1, r1, y, ev, q1⟩ => ⟨I1.kIn, ?_⟩) he hpl
  subst ev
  show wpAny _ _ (call (.ref C) us) _ _ _
  obtain ⟨v, rfl, r2⟩ := vals1 r1
  obtain ⟨nm, N, qn, bs, bm', hdct, sn, sub, ab, col, dd, k0, k1, k2, k3, k5, hC, same⟩ := PySem.W.excInit_of I1.kIn ini
  have O' : Over bm' B := ⟨(same B).trans O.base, (same _).trans O.attr, (same _).trans O.name⟩
  obtain ⟨hp, g, dr, tk, os⟩ := s1
  have sz : hp.objs.size ≤ hp.objs.size + 1 := Nat.le_succ _
  have n1 : H1 (hp.objs.size + 1) = none := I1.hok.fresh sz
  have keeps : ∀ b o, hp.get? b = some o → ((hp.push (PySem.W.kdv_tup [v])).push (PX.excO C hp.objs.size)).get? b = some o := fun b o e => Heap.get?_push_of_some _ (Heap.get?_push_of_some _ e)
  have at_x : ((hp.push (PySem.W.kdv_tup [v])).push (PX.excO C hp.objs.size)).get? (hp.objs.size + 1) = some (PX.excO C hp.objs.size) := by heap_get
  have I2 : Inv X pins σ (upd H1 (hp.objs.size + 1) (exo (hp.objs.size + 1) C none)) ⟨(hp.push (PySem.W.kdv_tup [v])).push (PX.excO C hp.objs.size), g, dr, tk, os⟩ :=
    I1.laid (t' := tk) (a := hp.objs.size + 1) (h' := (hp.push (PySem.W.kdv_tup [v])).push (PX.excO C hp.objs.size)) keeps sz (exo_ok at_x)
  have r3 : Vals [V.ref (hp.objs.size + 1), y] ([Value.ref (hp.objs.size + 1), v]) := .cons rfl (.cons r2 .nil)
  have pr : spSet X.K C fI f [V.ref (hp.objs.size + 1), y] (upd H1 (hp.objs.size + 1) (exo (hp.objs.size + 1) C none))
      (fun z H2 => z = .non ∧ ∃ d, H2 = upd (upd H1 (hp.objs.size + 1) (exo (hp.objs.size + 1) C (some d))) d (exd d [(f, y)]) ∧ H1 d = none ∧ d ≠ hp.objs.size + 1) (fun _ _ _ => False) := by
    refine ⟨_, y, rfl, T, no, upd_same, fun d nd ne => ⟨rfl, d, by rw [upd_upd], ?_, ne⟩⟩
    rw [upd_ne ne] at nd
    exact nd
  have len : [Value.ref (hp.objs.size + 1), v].length = ps.length := F1.count _ _ _ _ pr
  refine wpAny_call (calls_own FB O' hC (PySem.W.looks_findIn I1.kIn T.iC) (fun self => PySem.W.bind_fn I1.kIn self T.tI) (by show 1 ≤ sizeLine; decide) ?_)
  refine codeAny_mono (F1.goes _ X.stack _ _ ⟨[Value.ref (hp.objs.size + 1), v], []⟩ [Value.ref (hp.objs.size + 1), v] _ _ (fun _ _ _ => False) hc (hr.make C [v] []) (I2.env0.make C [v] []) (by simpa using hb _ [Value.ref (hp.objs.size + 1), v] I2.kIn (by simpa using len)) r3 pr) fun r s' hq => ?_
  match r, hq with
  | .error er, hq => exact pass0 pins σ _ _ er s' I2 hq
  | .ok (.ret u), hq =>
    obtain ⟨z, H2, os2, bare2, un2, hok2, rz, ez, d, e2, nd, ne⟩ := hq
    subst ez
    have e0 : u = Value.none := rz
    subst e0
    have ea : H2 (hp.objs.size + 1) = some (exo (hp.objs.size + 1) C (some d)) := by rw [e2, upd_ne ne.symm, upd_same]
    have ed : H2 d = some (exd d [(f, y)]) := by rw [e2, upd_same]
    have eq : upd (L2.del H2 (hp.objs.size + 1)) d (.xd [(f, y)]) = upd H1 d (.xd [(f, y)]) := by
      funext b
      by_cases h1 : b = d
      · subst h1
        rw [upd_same, upd_same]
      · rw [upd_ne h1, upd_ne h1]
        by_cases h2 : b = hp.objs.size + 1
        · subst h2
          rw [L2.del_same, n1]
        · rw [L2.del_ne h2, e2, upd_ne h1, upd_ne h2]
    obtain ⟨h2, g2, d2, t2, os'⟩ := s'
    exact ⟨rfl, mk_end (raises_own T.sub T.ty) I1 sz keeps un2 hok2 os2 bare2 ea ed nd (eq ▸ q1 d nd)⟩
  | .ok .next, hq => exact hq.elim
  | .ok .brk, hq => exact hq.elim
  | .ok .cont, hq => exact hq.elim
end
end Xr
set_option Elab.async false
set_option linter.all false
set_option autoImplicit false
set_option maxRecDepth 100000
set_option maxHeartbeats 4000000
/-! Xt: try: .. except C1 as n1: .. except C2 as n2: .. -/
namespace Xt
open PySem PySem.Spec PyProof.Rows L2 Vb
/-- one clause: its class, its name's place, what its suite reads -/
structure Cl where
  cls : Value
  at_ : Nat
  ts : Addr → Value → Option Addr → TS
/-- behind a suite its name is gone -/
def gone (i : Nat) (D : Ends) : Ends := { nx := fun σ H => D.nx (σ.set i none) H, rt := D.rt, bk := fun σ H => D.bk (σ.set i none) H, ct := fun σ H => D.ct (σ.set i none) H }
/-- what the clauses wish of what the body raised -/
def wCl (K : PySem.W.Frag) (out : WX) (D : Ends) : List Cl → WX
  | [] => out
  | c :: r => fun cls d σ H => ∃ b, PySem.W.exmOne K cls c.cls = some b ∧ (b = true → ∀ a, H a = none → c.ts a cls d (gone c.at_ D) (σ.set c.at_ (some (.ref a))) H) ∧ (b = false → wCl K out D r cls d σ H)
inductive Cls (X : Cx) : List ExceptHandler → List Cl → Prop
  | nil : Cls X [] []
  | cons {x n : Str} {c : Value} {i : Nat} {ts : Addr → Value → Option Addr → TS} {b₀ : Stmt} {suite : List Stmt} {p1 p2 : Pos} {hs : List ExceptHandler} {l : List Cl} (nc : Names X x c) (ni : X.N[i]? = some n) (ln : X.env.kindOf n = some .local)
      (su : ∀ (a : Addr) (oe : Obj) (cls : Value) (d : Option Addr) (pn : List (Addr × Obj)), Zc cls d oe → (∃ vs, oe.data = .fields vs) → PSs (X.suite a ((a, oe) :: pn)) (b₀ :: suite) (ts a cls d)) (r : Cls X hs l) :
      Cls X (.ExceptHandler (some (.Name x p1)) (some n) (b₀ :: suite) p2 :: hs) (⟨c, i, ts⟩ :: l)
section
variable {X : Cx} {body : List Stmt} {h0 : ExceptHandler} {hds : List ExceptHandler} {l : List Cl} {pos : Pos} {tb : WX → TS} {out : WX}
theorem ps_tries (hs : X.stack = X.env :: X.outer) (hf : X.env.frame = some X.env.locals) (hN : X.N.Nodup) (tk : Takes X out)
    (hb : ∀ (W : WX) (pn : List (Addr × Obj)) (xe : Value → Shared → Prop), Takes (X.tr pn xe) W → PassesOwn (model X.prog X.w) X.A X.env xe → PSs (X.tr pn xe) body (tb W)) (cl : Cls X (h0 :: hds) l) :
    PS X (.Try body (h0 :: hds) [] [] pos) (fun D σ H => tb (wCl X.K out D l) D σ H) := by
  refine ⟨fun pins s σ H D I h => ?_⟩
  have ok := I.ok
  have frames : X.A.frames = some (X.env :: X.outer) := by rw [ok.frames, hs]
  let caught : Value → Shared → Prop := fun e s₁ => wpAny (model X.prog X.w) X.A (noteFrame e X.env)
    (fun _ s₂ => wpAny (model X.prog X.w) X.A (setFlight e none) (fun _ s₃ => wpAny (model X.prog X.w) X.A (handleBy e X.env (h0 :: hds)) (SP X pins D) X.xe s₃) X.xe s₂) X.xe s₁
  refine wpAny_Try_except (wpAny_mono ((hb (wCl X.K out D l) (X.pn ++ pins) caught (fun u s' xx => ?_) PassesOwn.looking).run [] s σ H D (I.toTry _) h) (fun f s1 hsp => ?_) (fun e s1 he => he))
  · obtain ⟨a, B, sI, pins', σ', H', cls, d, rfl, J', nb, up, sky, na, os, ag, w⟩ := xx
    have J : Inv X pins σ' H' sI := J'.ofTry ok
    have sky' : Sky B (X.env :: X.outer) a (Zc cls d) X.env.locals s'.heap := hs ▸ sky
    show wpAny (model X.prog X.w) X.A (noteFrame (.ref a) X.env) _ _ _
    refine Sky.land Zc.steady frames hf sky' fun h3 fl3 up3 => ?_
    have J3 : Inv X pins σ' H' { s' with heap := h3 } := J.landed nb fl3.1 (up.trans up3) os ag
    obtain ⟨oe3, vs3, he3, hz3, hd3⟩ := fl3.there
    have off : a ∉ frs (X.env :: X.outer) := fun hm => by
      obtain ⟨_, o', e', hnf⟩ := fl3.2.2.1.mem hm
      rw [he3] at e'
      cases e'
      exact hnf _ hd3
    have nL : a ≠ X.env.locals := fun z => off (List.mem_filterMap.mpr ⟨X.env, List.mem_cons_self, by rw [hf, z]⟩)
    have nF : a ∉ X.fs := fun hm => by
      obtain ⟨e, he, q⟩ := List.mem_filterMap.mp hm
      exact off (List.mem_filterMap.mpr ⟨e, List.mem_cons_of_mem _ he, q⟩)
    have S3 := J3.suite he3 hd3 na nL nF
    have go : ∀ {hds' : List ExceptHandler} {l' : List Cl}, Cls X hds' l' → wCl X.K out D l' cls d σ' H' → wpAny (model X.prog X.w) X.A (handleBy (.ref a) X.env hds') (SP X pins D) X.xe { s' with heap := h3 } := by
      intro hds' l' hk
      induction hk with
      | nil =>
        intro w
        obtain ⟨k1, k2, k3, oe, vs, T, oT, ts', he, hz, hd, h1, hr⟩ := id fl3
        refine wpAny_handleBy_nil ?_
        unfold PySem.passOn
        refine wpAny_bind (wpAny_field he hd h1 ?_)
        rw [if_neg (by simp : ¬ ((Value.ref T == Value.none) = true))]
        have fin : wpAny (model X.prog X.w) X.A (setFlight (.ref a) X.env.frame) (fun _ s4 => wpAny (model X.prog X.w) X.A (throw (.ref a) : Sem Flow) (SP X pins D) X.xe s4) X.xe { s' with heap := h3 } := by
          rw [hf]
          refine HandSPX.setFlight_upZ fl3 fun h4 hh4 up4 => wpAny_throw (tk _ _ ?_)
          exact ⟨a, B, sI, pins, σ', H', cls, d, rfl, J, nb, (up.trans up3).trans up4, .inr (.inr (hs.symm ▸ hh4)), na, os, ag, w⟩
        first
        | exact wpAny_bind (wpAny_pure (wpAny_bind fin))
        | exact wpAny_bind fin
      | @cons x n c i ts b₀ suite p1 p2 hds2 l2 nc ni ln su r ih =>
        intro w
        obtain ⟨b, hb1, yes, no⟩ := w
        refine wpAny_handleBy_cons (codeAny_handlers_test ?_) (by intro q; cases q)
        have tyA : PySem.W.Looks (model X.prog X.w) h3 (typeOf (.ref a)) cls := fun A Q E s k q => wpAny_typeOf_ref (k _ _ he3) (by rw [hz3.1]; exact q)
        have mt := PySem.W.exm_one (M := model X.prog X.w) J3.kIn tyA hb1
        have test : ∀ {Q : Value → Shared → Prop} {E : Value → Shared → Prop}, Q c { s' with heap := h3 } → wpAny (model X.prog X.w) (X.A.mark (some (.ref a))) (eval (.Name x p1) X.env) Q E { s' with heap := h3 } := fun {Q E} q => by
          obtain ⟨hg, hdbg, hm | ⟨hm, hv, hnn⟩⟩ := nc
          · exact ld_glob (X := X.suite a ((a, oe3) :: (X.pn ++ pins))) S3 hg hm q hdbg
          · exact ld_blt (X := X.suite a ((a, oe3) :: (X.pn ++ pins))) S3 hg hm hv q hnn hdbg
        refine test (mt.here ?_)
        cases b with
        | false =>
          show wpAny _ X.A (handleBy (.ref a) X.env hds2) _ _ _
          exact ih (no rfl)
        | true =>
          refine codeAny_handlers_suite_as (HandSPX.lands_againZ fl3 fun h4 fl4 up4 => ?_)
          have J4 : Inv X pins σ' H' { s' with heap := h4 } := J.landed nb fl4.1 ((up.trans up3).trans up4) os ag
          obtain ⟨oe4, vs4, he4, hz4, hd4⟩ := fl4.there
          have S4 := J4.suite he4 hd4 na nL nF
          refine store_ok (X := X.suite a ((a, oe4) :: (X.pn ++ pins))) (v := .ref a) S4 hN ni (.inl ln) rfl (fun s5 S5 => ?_) (.inr ln)
          refine wpAny_mono ((su a oe4 cls d (X.pn ++ pins) hz4 ⟨_, hd4⟩).run [] s5 _ H' _ S5 (yes rfl a na)) (fun f s6 hsp => ?_) (fun _ _ z => z.elim)
          have away : ∀ {σ6 : L2.St} {H6 : Hp} {Q : Shared → Prop}, Inv (X.suite a ((a, oe4) :: (X.pn ++ pins))) [] σ6 H6 s6 → (∀ s7, Inv X pins (σ6.set i none) H6 s7 → Q s7) →
              wpAny (model X.prog X.w) X.A (do bindName X.env n .none; unbindBehindTheSuite X.env n p2) (fun _ s7 => Q s7) X.xe s6 := fun {σ6 H6 Q} S6 hq => gone_ok (S6.unsuite ok) hN ni ln hq
          cases f with
          | ret u =>
            obtain ⟨v6, σ6, H6, S6, r6, q6⟩ := hsp
            exact away S6 fun s7 J7 => ⟨_, _, _, J7, r6, q6⟩
          | next =>
            obtain ⟨σ6, H6, S6, q6⟩ := hsp
            exact away S6 fun s7 J7 => ⟨_, _, J7, q6⟩
          | brk =>
            obtain ⟨σ6, H6, S6, q6⟩ := hsp
            exact away S6 fun s7 J7 => ⟨_, _, J7, q6⟩
          | cont =>
            obtain ⟨σ6, H6, S6, q6⟩ := hsp
            exact away S6 fun s7 J7 => ⟨_, _, J7, q6⟩
    exact go cl w
  · cases f with
    | ret u =>
      obtain ⟨v, σ', H', J', r, q⟩ := hsp
      exact ⟨v, σ', H', J'.ofTry ok, r, q⟩
    | next =>
      obtain ⟨σ', H', J', q⟩ := hsp
      exact wpAny_execs_nil ⟨σ', H', J'.ofTry ok, q⟩
    | brk =>
      obtain ⟨σ', H', J', q⟩ := hsp
      exact ⟨σ', H', J'.ofTry ok, q⟩
    | cont =>
      obtain ⟨σ', H', J', q⟩ := hsp
      exact ⟨σ', H', J'.ofTry ok, q⟩
end
end Xt
set_option Elab.async false
set_option linter.all false
set_option autoImplicit false
set_option maxRecDepth 100000
set_option maxHeartbeats 4000000
/-! Xp: defs that are asked of the error in hand, within an except suite. -/
namespace Xp
open PySem PySem.Spec PyProof.Rows L2 Vb Xe L2H
/-- a promise about the error in hand -/
structure FnP (P : Program) (w : World) (K : PySem.W.Frag) (mg : Str → Option Value) (base : Heap) (k : Nat) (f : Addr) (fd : FuncData) (ps : List Str) (sp : Addr × Obj → Sp) : Prop where
  count : ∀ p vs H Q E, sp p vs H Q E → vs.length = ps.length
  goes : ∀ (A : Around) (outer : List Env) (s : Shared) (H : Hp) (args : Args) (us : List Value) (vs : List V) (Q : VK) (E : XK) (p : Addr × Obj), Calm A → RoomH k A → PinOk outer H s p → Env0 P w K mg base A outer s H → BindsTo s fd args (ps.zip us) →
    Vals vs us → sp p vs H Q E → codeAny (model P w) A (.call (.ref f) args) (CR CX0 outer P w H s Q E) s
section
variable {P : Program} {w : World} {K : PySem.W.Frag} {mg : Str → Option Value} {base : Heap}
theorem goes_hot {x qual : Str} {st : Stmt} {f : Addr} {fd : FuncData} {N ps : List Str} {k : Nat} {sp : Addr × Obj → Sp} (F : Fun K x qual st f fd) (S : FnScope N ps (defScope st)) (len : ∀ p vs H Q E, sp p vs H Q E → vs.length = ps.length)
    (body : ∀ (cdv : Value) (A : Around) (outer : List Env) (s : Shared) (H : Hp) (vs : List V) (Q : VK) (E : XK) (p : Addr × Obj), Calm (A.deeper (envOfC qual (defScope st) s.heap.objs.size f cdv)) → RoomH k (A.deeper (envOfC qual (defScope st) s.heap.objs.size f cdv)) → sp p vs H Q E →
      ∃ t, PSs (cxH CX0 P w K mg base N qual (defScope st) f cdv A outer s H E p).nox (defBody st) t ∧ t { nx := fun _ H' => Q .non H', rt := Q } (start N vs) H) : FnP P w K mg base (k + 1) f fd ps sp := by
  obtain ⟨oc, od, kV, doc, pm, an, cdv, ct, osl, rfl, lk, hcd⟩ := F.ex
  refine ⟨len, fun A outer s H args us vs Q E p hc hr hp e0 hb r hsp => ?_⟩
  have hl := len _ _ _ _ _ hsp
  have KX : K.In s.heap := e0.mod.kin.keeps fun b o e => (e0.bs b o e).1
  have lim : s.heap.NoLimit := e0.mod.nolimit.keeps fun b o e => (e0.bs b o e).1
  have kinds : ∀ y ∈ ps.zip us, (defScope st).names.lookup y.1 = some .local ∨ ((defScope st).names.lookup y.1 = some .cell ∧ ((cellsFrom (s.heap.objs.size + 1) (defScope st).names []).lookup y.1).isSome = true) := by
    intro y hy
    obtain ⟨n, v⟩ := y
    exact (S.par n (List.of_mem_zip hy).1).imp id fun q => ⟨q, PySem.W.cellsFrom_some _ _ _ (Or.inl q)⟩
  refine codeAny_call_function hr.depth (KX _ _ lk) rfl S.co S.gen rfl (PySem.W.codeRec_of KX hcd) (hb _ _ _ _ ?_)
  refine wpAny_newFunctionEnv_cells S.kind kinds fun env he s1 x => ?_
  cases he
  refine ⟨lim.keeps x.toInCall.keep, codeAny_func ?_⟩
  obtain ⟨t, ht, hq⟩ := body cdv A outer s H vs Q E p (hc.deep _) (hr.deeper _) hsp
  have I := inv_startH (CX := CX0) (E := E) S hp e0 hl r x
  refine wpAny_mono (ht.nox.run [] s1 (start N vs) H _ I hq) (fun fl s' hs => ?_) (fun _ _ z => z)
  cases fl with
  | brk => exact hs.elim fun _ z => z.elim fun _ z => z.2.elim
  | cont => exact hs.elim fun _ z => z.elim fun _ z => z.2.elim
  | ret u =>
    obtain ⟨v, σ', H', J, rv, q⟩ := hs
    exact ⟨v, H', J.os, J.bare, J.base, J.hok, rv, q⟩
  | next =>
    obtain ⟨σ', H', J, q⟩ := hs
    exact ⟨V.non, H', J.os, J.bare, J.base, J.hok, rfl, q⟩
end
section
variable {X : Cx} {k : Nat} {f : Addr} {fd : FuncData} {ps : List Str} {sp : Addr × Obj → Sp} {x : Str} {p pos : Pos} {e : Expr} {es : List Expr} {t : TA} {h : Addr × Obj}
/-- f(e, ..) of the error in hand -/
theorem pe_callP (F : FnP X.prog X.w X.K X.mg X.base k f fd ps sp) (hh : h ∈ X.pn) (hc : Calm X.A) (hr : RoomH k X.A) (hg : Gl X x) (hm : X.mg x = some (.ref f)) (hk : PySem.W.keepIn X.K (.ref f) = true) (hb : Binds X.K fd ps []) (ha : PA X (e :: es) t)
    (hdb : (x == ("__debug__" : Str)) = false := by decide) (he : starEach (e :: es) X.env = (false, eval e X.env) :: starEach es X.env := by rfl) (hpl : (backTo pos (starEach es X.env)).any (·.1) = false := by rfl) :
    PE X (.Call (.Name x p) (e :: es) [] pos) (tCall (sp h) [] E0 t) := by
  refine ⟨fun pins s σ H Q I hw => wpAny_Call_Name_kw (ld_glob I hg hm ?_ hdb)⟩
  refine PySem.W.callWith_K (h₀ := X.base) I.ok.mod.kin hk (thn (ha.run pos pins s σ H _ I hw) fun us s1 ⟨vs, H1, I1, r, q⟩ => ⟨I1.kIn, ?_⟩) he hpl
  have q : sp h vs H1 Q E0 := by
    have q' : sp h (vs ++ []) H1 Q E0 := q
    rw [List.append_nil] at q'
    exact q'
  have hl : us.length = ps.length := r.length ▸ F.count _ _ _ _ _ q
  have b := hb s1 us I1.kIn (by rw [List.append_nil]; exact hl)
  rw [List.append_nil] at b
  have P1 := I1.pin h (List.mem_append_left _ hh)
  have pin : PinOk X.stack H1 s1 h := ⟨P1.1, P1.2.1, fun hm => (List.mem_cons.mp (I1.stkSub h.1 hm)).elim P1.2.2.1 P1.2.2.2.1, P1.2.2.2.2⟩
  refine wpAny_call (codeAny_mono (F.goes X.A X.stack s1 H1 ⟨us, []⟩ us vs Q E0 h hc hr pin I1.env0 b r q) fun r s' hq => ?_)
  match r, hq with
  | .error er, hq => exact pass0 pins σ H1 s1 er s' I1 hq
  | .ok (.ret u), hq => exact I1.after hq
  | .ok .next, hq => exact hq.elim
  | .ok .brk, hq => exact hq.elim
  | .ok .cont, hq => exact hq.elim
/-- isinstance(e, c), e the error in hand -/
def rIsP (K : PySem.W.Frag) (h : Addr × Obj) (d : Option Addr) : List V → Hp → VK → Prop := fun xs H Q => ∃ (C : Addr) (c : V) (u : Value) (b : Bool), xs = [.ref h.1, c] ∧ ClsV c u ∧ EC K C ∧ Zc (.ref C) d h.2 ∧ (∀ dd, d = some dd → ∃ fs, H dd = some (.xd fs)) ∧
  PySem.W.kitOne K (.ref C) u = some b ∧ Q (.bl b) H
theorem cr_isP {d : Option Addr} (hh : h ∈ X.pn) (hf : ∃ vs, h.2.data = .fields vs) : CallR X (.builtin "isinstance") (rIsP X.K h d) := by
  intro pins s σ H xs us Q I r hw
  obtain ⟨C, c, u, b, rfl, k, T, hz, hd, e, q⟩ := hw
  obtain ⟨u1, u2, rfl, r1, r2⟩ := vals2 r
  cases (show u1 = Value.ref h.1 from r1)
  have e2 := k.eq r2
  subst e2
  obtain ⟨cd, hcl, _⟩ := PySem.W.any_some T.hd
  obtain ⟨at_, _⟩ := I.pin h (List.mem_append_left _ hh)
  obtain ⟨vs, hv⟩ := hf
  have J : ∃ od, PySem.W.InstAt s.heap h.1 h.2 C od := by
    have no : PySem.W.notCls h.2 = true := by unfold PySem.W.notCls; rw [hv]
    cases d with
    | none => exact ⟨none, at_, hz.1, no, by rw [hz.2]; trivial⟩
    | some dd =>
      obtain ⟨fs, ea⟩ := hd dd rfl
      obtain ⟨mA, hns, _⟩ := (show ObjOk X.prog X.w H s.heap dd (.xd fs) from I.hok dd _ ea)
      obtain ⟨od, ho, _⟩ := lookIn_ns hns
      exact ⟨some od, at_, hz.1, no, by rw [hz.2]; exact ho⟩
  obtain ⟨od, J⟩ := J
  exact PySem.W.kia_one (PySem.W.kitx_exc (by rw [hcl]; rfl) T.ga T.gt T.sub T.ca T.sp T.tk T.mo) I.kIn J e (fun z => nomatch z) fun tk => ⟨.bl b, H, I.tok tk, rfl, q⟩
end
end Xp
set_option Elab.async false
set_option linter.all false
set_option autoImplicit false
set_option maxRecDepth 100000
set_option maxHeartbeats 4000000
/-! Xd: defs that may let an error out, entered in calm room. -/
namespace Xd
open PySem PySem.Spec PyProof.Rows L2 Vb
structure FnE (P : Program) (w : World) (K : PySem.W.Frag) (mg : Str → Option Value) (base : Heap) (k : Nat) (f : Addr) (fd : FuncData) (ps : List Str) (sp : Sp) : Prop where
  count : ∀ vs H Q E, sp vs H Q E → vs.length = ps.length
  goes : ∀ (A : Around) (outer : List Env) (s : Shared) (H : Hp) (args : Args) (us : List Value) (vs : List V) (Q : VK) (E : XK), Calm A → Room k A → Env0 P w K mg base A outer s H → BindsTo s fd args (ps.zip us) → Vals vs us → sp vs H Q E →
    codeAny (model P w) A (.call (.ref f) args) (CR (L2.CX P w) outer P w H s Q E) s
section
variable {P : Program} {w : World} {K : PySem.W.Frag} {mg : Str → Option Value} {base : Heap}
theorem FnE.mono {j k : Nat} {f : Addr} {fd : FuncData} {ps : List Str} {sp : Sp} (F : FnE P w K mg base j f fd ps sp) (h : j ≤ k) : FnE P w K mg base k f fd ps sp :=
  ⟨F.count, fun A outer s H args us vs Q E hc hr => F.goes A outer s H args us vs Q E hc (hr.mono h)⟩
theorem goes_exc {x qual : Str} {st : Stmt} {f : Addr} {fd : FuncData} {N ps : List Str} {k : Nat} {sp : Sp} (F : Fun K x qual st f fd) (S : FnScope N ps (defScope st)) (len : ∀ vs H Q E, sp vs H Q E → vs.length = ps.length)
    (body : ∀ (cdv : Value) (A : Around) (outer : List Env) (s : Shared) (H : Hp) (vs : List V) (Q : VK) (E : XK), Calm (A.deeper (envOfC qual (defScope st) s.heap.objs.size f cdv)) → Room k (A.deeper (envOfC qual (defScope st) s.heap.objs.size f cdv)) →
      Takes (cxOf (L2.CX P w) P w K mg base N qual (defScope st) f cdv A outer s H E) (fun cls d _ H' => E cls d H') → sp vs H Q E →
      ∃ t, PSs (cxOf (L2.CX P w) P w K mg base N qual (defScope st) f cdv A outer s H E) (defBody st) t ∧ t { nx := fun _ H' => Q .non H', rt := Q } (start N vs) H) : FnE P w K mg base (k + 1) f fd ps sp := by
  obtain ⟨oc, od, kV, doc, pm, an, cdv, ct, osl, rfl, lk, hcd⟩ := F.ex
  refine ⟨len, fun A outer s H args us vs Q E hc hr e0 hb r hsp => ?_⟩
  have hl := len _ _ _ _ hsp
  have KX : K.In s.heap := e0.mod.kin.keeps fun b o e => (e0.bs b o e).1
  have lim : s.heap.NoLimit := e0.mod.nolimit.keeps fun b o e => (e0.bs b o e).1
  have kinds : ∀ y ∈ ps.zip us, (defScope st).names.lookup y.1 = some .local ∨ ((defScope st).names.lookup y.1 = some .cell ∧ ((cellsFrom (s.heap.objs.size + 1) (defScope st).names []).lookup y.1).isSome = true) := by
    intro y hy
    obtain ⟨n, v⟩ := y
    exact (S.par n (List.of_mem_zip hy).1).imp id fun q => ⟨q, PySem.W.cellsFrom_some _ _ _ (Or.inl q)⟩
  refine codeAny_call_function hr.depth (KX _ _ lk) rfl S.co S.gen rfl (PySem.W.codeRec_of KX hcd) (hb _ _ _ _ ?_)
  refine wpAny_newFunctionEnv_cells S.kind kinds fun env he s1 x => ?_
  cases he
  refine ⟨lim.keeps x.toInCall.keep, codeAny_func ?_⟩
  obtain ⟨t, ht, hq⟩ := body cdv A outer s H vs Q E (hc.deep _) (hr.deeper _) (takes_of rfl rfl rfl rfl) hsp
  have I := inv_start (CX := L2.CX P w) (E := E) S hr.hd e0 hl r x
  refine wpAny_mono (ht.run [] s1 (start N vs) H _ I hq) (fun fl s' hs => ?_) (fun _ _ z => z)
  cases fl with
  | brk => exact hs.elim fun _ z => z.elim fun _ z => z.2.elim
  | cont => exact hs.elim fun _ z => z.elim fun _ z => z.2.elim
  | ret u =>
    obtain ⟨v, σ', H', J, rv, q⟩ := hs
    exact ⟨v, H', J.os, J.bare, J.base, J.hok, rv, q⟩
  | next =>
    obtain ⟨σ', H', J, q⟩ := hs
    exact ⟨V.non, H', J.os, J.bare, J.base, J.hok, rfl, q⟩
/-- what lets nothing out may be taken for what may -/
theorem FnE.of {k : Nat} {f : Addr} {fd : FuncData} {ps : List Str} {sp : Sp} (F : FnG P w K mg base k f fd ps sp) : FnE P w K mg base k f fd ps sp := by
  refine ⟨F.count, fun A outer s H args us vs Q E hc hr e0 hb r h => codeAny_mono (F.goes A outer s H args us vs Q E hc hr e0 hb r h) fun x s' hx => ?_⟩
  match x, hx with
  | .error e, hx => exact False.elim hx
  | .ok (.ret u), hx => exact hx
  | .ok .next, hx => exact hx
  | .ok .brk, hx => exact hx
  | .ok .cont, hx => exact hx
end
section
variable {X : Cx} {k : Nat} {f : Addr} {fd : FuncData} {ps : List Str} {sp : Sp} {W : WX} {E : XK} {x : Str} {p pos : Pos} {e : Expr} {es : List Expr} {t : TA}
theorem goes_inE {pins : List (Addr × Obj)} {σ : L2.St} {H : Hp} {s : Shared} {Q : VK} {us : List Value} {vs : List V} (F : FnE X.prog X.w X.K X.mg X.base k f fd ps sp) (hc : Calm X.A) (hr : Room k X.A) (hb : Binds X.K fd ps []) (tk : Takes X W) (hW : ∀ cls d σ H, E cls d H → W cls d σ H)
    (I : Inv X pins σ H s) (r : Vals vs us) (h : sp vs H Q E) : wpAny (model X.prog X.w) X.A (call (.ref f) us) (EP X pins σ Q) X.xe s := by
  have hl : us.length = ps.length := r.length ▸ F.count _ _ _ _ h
  have b := hb s us I.kIn (by rw [List.append_nil]; exact hl)
  rw [List.append_nil] at b
  refine wpAny_call (codeAny_mono (F.goes X.A X.stack s H ⟨us, []⟩ us vs Q E hc hr I.env0 b r h) fun y s' hq => ?_)
  match y, hq with
  | .error er, hq => exact passes_call tk hW pins σ H s er s' I hq
  | .ok (.ret u), hq => exact I.after hq
  | .ok .next, hq => exact hq.elim
  | .ok .brk, hq => exact hq.elim
  | .ok .cont, hq => exact hq.elim
/-- f(e, ..), what it lets out is taken -/
theorem pe_callE (F : FnE X.prog X.w X.K X.mg X.base k f fd ps sp) (hc : Calm X.A) (hr : Room k X.A) (hg : Gl X x) (hm : X.mg x = some (.ref f)) (hk : PySem.W.keepIn X.K (.ref f) = true) (hb : Binds X.K fd ps []) (tk : Takes X W) (hW : ∀ cls d σ H, E cls d H → W cls d σ H) (ha : PA X (e :: es) t)
    (hdb : (x == ("__debug__" : Str)) = false := by decide) (he : starEach (e :: es) X.env = (false, eval e X.env) :: starEach es X.env := by rfl) (hpl : (backTo pos (starEach es X.env)).any (·.1) = false := by rfl) :
    PE X (.Call (.Name x p) (e :: es) [] pos) (fun σ H Q => t σ H fun vs H1 => sp vs H1 Q E) :=
  ⟨fun pins s σ H Q I h => wpAny_Call_Name_kw (ld_glob I hg hm
    (PySem.W.callWith_K (h₀ := X.base) I.ok.mod.kin hk (thn (ha.run pos pins s σ H _ I h) fun us s1 ⟨vs, H1, I1, r, q⟩ => ⟨I1.kIn, goes_inE F hc hr hb tk hW I1 r q⟩) he hpl) hdb)⟩
end
end Xd
set_option Elab.async false
set_option linter.all false
set_option autoImplicit false
set_option maxRecDepth 100000
set_option maxHeartbeats 4000000
/-! Xo: objects of own classes in calm room: made, their methods called, their properties read. -/
namespace Xo
open PySem PySem.Spec PyProof.Rows L2 Vb Xd
section
variable {X : Cx} {k : Nat} {f C p g : Addr} {fd : FuncData} {ps : List Str} {sp : Sp} {W : WX} {E : XK} {x m : Str} {q pos apos : Pos} {o e : Expr} {es : List Expr} {ta : TE} {t : TA}
/-- o.m(e, ..) -/
def tMeE (C : Addr) (m : Str) (sp : Sp) (E : XK) (ta : TE) (t : TA) : TE := fun σ H Q => ta σ H fun x H1 => ∃ a dx fs, x = .ref a ∧ H1 a = some (.ins C dx fs) ∧ fs.lookup m = none ∧ t σ H1 fun vs H2 => sp (x :: vs) H2 Q E
theorem pe_methE {pl : Sem Bool} (he : PE X o ta) (c : Cls X.K C) (hm : Meth X.K C m f) (F : FnE X.prog X.w X.K X.mg X.base k f fd ps sp) (hc : Calm X.A) (hr : Room k X.A) (hb : Binds X.K fd ps []) (tk : Takes X W) (hW : ∀ cls d σ H, E cls d H → W cls d σ H) (ha : PA X (e :: es) t)
    (hst : starEach (e :: es) X.env = (false, eval e X.env) :: starEach es X.env := by rfl) (hpl : (backTo pos (starEach es X.env)).any (·.1) = false := by rfl)
    (ht : eval (.Call (.Attribute o m apos) (e :: es) [] pos) X.env = (do let ov ← eval o X.env; standAt apos.atName; let (f, first) ← holding [ov] (getMethod ov m pl); callWith pos f first (backTo pos (starEach (e :: es) X.env)) (backToKw pos (keywordEach [] X.env))) := by rfl) :
    PE X (.Call (.Attribute o m apos) (e :: es) [] pos) (tMeE C m sp E ta t) := by
  refine ⟨fun pins s σ H Q I h => PySem.W.methodCall_KW (pl := pl) (thn (he.run pins s σ H _ I h) fun u s1 ⟨x, H1, I1, rx, a, dx, fs, ex, ea, l, q⟩ => ?_) ht⟩
  subst ex
  obtain rfl : u = Value.ref a := rx
  refine getmeth_ok I1 ea c hm l (PySem.W.callWith_K (first := [.ref a]) (h₀ := X.base) I.ok.mod.kin hm.kp (thn (ha.run pos pins s1 σ H1 _ I1 q) fun us s2 ⟨vs, H2, I2, r, q2⟩ => ⟨I2.kIn, ?_⟩) hst hpl)
  exact goes_inE (us := .ref a :: us) (vs := .ref a :: vs) F hc hr hb tk hW I2 (.cons rfl r) q2
theorem pe_methE0 {pl : Sem Bool} (he : PE X o ta) (c : Cls X.K C) (hm : Meth X.K C m f) (F : FnE X.prog X.w X.K X.mg X.base k f fd ps sp) (hc : Calm X.A) (hr : Room k X.A) (hb : Binds X.K fd ps []) (tk : Takes X W) (hW : ∀ cls d σ H, E cls d H → W cls d σ H)
    (ht : eval (.Call (.Attribute o m apos) [] [] pos) X.env = (do let ov ← eval o X.env; standAt apos.atName; let (f, first) ← holding [ov] (getMethod ov m pl); callWith pos f first (backTo pos (starEach [] X.env)) (backToKw pos (keywordEach [] X.env))) := by rfl) :
    PE X (.Call (.Attribute o m apos) [] [] pos) (tMeE C m sp E ta tNil) := by
  refine ⟨fun pins s σ H Q I h => PySem.W.methodCall_KW (pl := pl) (thn (he.run pins s σ H _ I h) fun u s1 ⟨x, H1, I1, rx, a, dx, fs, ex, ea, l, q⟩ => ?_) ht⟩
  subst ex
  obtain rfl : u = Value.ref a := rx
  exact getmeth_ok I1 ea c hm l (PySem.W.callWith_K0 (first := [.ref a]) I1.kIn hm.kp (goes_inE (us := [.ref a]) (vs := [.ref a]) F hc hr hb tk hW I1 (.cons rfl .nil) q))
/-- C(e, ..) -/
def tMaE (C : Addr) (sp : Sp) (E : XK) (t : TA) : TE := fun σ H Q => t σ H fun vs H1 => ∀ x dx, H1 x = none → H1 dx = none → dx ≠ x → sp (.ref x :: vs) (upd (upd H1 dx (.own x)) x (.ins C dx [])) (fun v H2 => v = .non ∧ Q (.ref x) H2) E
theorem makes_inE {pins : List (Addr × Obj)} {σ : L2.St} {H : Hp} {s : Shared} {Q : VK} {us : List Value} {vs : List V} (M : L2.Mk X.K C f) (F : FnE X.prog X.w X.K X.mg X.base k f fd ps sp) (hc : Calm X.A) (hr : Room (k + 1) X.A) (hb : Binds X.K fd ps []) (tk : Takes X W) (hW : ∀ cls d σ H, E cls d H → W cls d σ H)
    (I : Inv X pins σ H s) (r : Vals vs us) (h : ∀ x dx, H x = none → H dx = none → dx ≠ x → sp (.ref x :: vs) (upd (upd H dx (.own x)) x (.ins C dx [])) (fun v H2 => v = .non ∧ Q (.ref x) H2) E) : wpAny (model X.prog X.w) X.A (call (.ref C) us) (EP X pins σ Q) X.xe s := by
  have hq := h (s.heap.objs.size + 1) s.heap.objs.size (I.hok.fresh (Nat.le_succ _)) (I.hok.fresh (Nat.le_refl _)) (Nat.ne_of_lt (Nat.lt_succ_self _))
  have I2 := Inv.made (C := C) I
  have r2 : Vals (V.ref (s.heap.objs.size + 1) :: vs) (Value.ref (s.heap.objs.size + 1) :: us) := .cons rfl r
  have hl : (Value.ref (s.heap.objs.size + 1) :: us).length = ps.length := r2.length ▸ F.count _ _ _ _ hq
  have b := hb _ (Value.ref (s.heap.objs.size + 1) :: us) I2.kIn (by rw [List.append_nil]; exact hl)
  rw [List.append_nil] at b
  refine wpAny_call (make_map (f := f) I.kIn M.makes M.init (beq_iff_eq.mp M.fn) (codeAny_mono (F.goes _ X.stack _ _ ⟨Value.ref (s.heap.objs.size + 1) :: us, []⟩ _ _ _ E hc (hr.make C us []) (I2.env0.make C us []) b r2 hq) fun y s' hq' => ?_))
  match y, hq' with
  | .error er, hq' => exact passes_call tk hW pins σ _ _ er s' I2 hq'
  | .ok (.ret u), hq' =>
    obtain ⟨v, H', I3, rv, ev, q3⟩ := I2.after hq'
    subst ev
    exact ⟨rv, ⟨V.ref (s.heap.objs.size + 1), H', I3, rfl, q3⟩⟩
  | .ok .next, hq' => exact hq'.elim
  | .ok .brk, hq' => exact hq'.elim
  | .ok .cont, hq' => exact hq'.elim
theorem pe_makeE (M : L2.Mk X.K C f) (F : FnE X.prog X.w X.K X.mg X.base k f fd ps sp) (hc : Calm X.A) (hr : Room (k + 1) X.A) (hg : Gl X x) (hm : X.mg x = some (.ref C)) (hb : Binds X.K fd ps []) (tk : Takes X W) (hW : ∀ cls d σ H, E cls d H → W cls d σ H) (ha : PA X (e :: es) t)
    (hdb : (x == ("__debug__" : Str)) = false := by decide) (he : starEach (e :: es) X.env = (false, eval e X.env) :: starEach es X.env := by rfl) (hpl : (backTo pos (starEach es X.env)).any (·.1) = false := by rfl) : PE X (.Call (.Name x q) (e :: es) [] pos) (tMaE C sp E t) :=
  ⟨fun pins s σ H Q I h => wpAny_Call_Name_kw (ld_glob I hg hm (PySem.W.callWith_K (h₀ := X.base) I.ok.mod.kin M.kp (thn (ha.run pos pins s σ H _ I h) fun us s1 ⟨vs, H1, I1, r, q⟩ => ⟨I1.kIn, makes_inE M F hc hr hb tk hW I1 r q⟩) he hpl) hdb)⟩
/-- e.f, a property whose getter lets nothing out -/
def tPrE (C : Addr) (sp : Sp) (ta : TE) : TE := fun σ H Q => ta σ H fun x H1 => ∃ a dx fs, x = .ref a ∧ H1 a = some (.ins C dx fs) ∧ sp [.ref a] H1 Q E0
theorem pe_propG {n : Str} (he : PE X e ta) (c : Cls X.K C) (hp : PropOf X.K C n p g) (F : FnG X.prog X.w X.K X.mg X.base k g fd ps sp) (hc : Calm X.A) (hr : Room (k + 1) X.A) (hb : Binds X.K fd ps []) (hab : attributeBase e n X.env (eval e X.env) = eval e X.env := by rfl) : PE X (.Attribute e n pos) (tPrE C sp ta) := by
  refine ⟨fun pins s σ H Q I h => attr_of hab (thn (he.run pins s σ H _ I h) fun u s1 ⟨x, H1, I1, rx, a, dx, fs, ex, ea, q⟩ => ?_)⟩
  subst ex
  obtain rfl : u = Value.ref a := rx
  obtain ⟨mA, O, _, _, _, _⟩ := ins_get I1.hok ea
  obtain ⟨od, J, _⟩ := O.look
  obtain ⟨rest, hrec⟩ := hp.rec_
  obtain ⟨cd, hcl, _⟩ := PySem.W.any_some c.hd
  have I2 := I1.tok (s1.toks + 1)
  have hl : [Value.ref a].length = ps.length := F.count _ _ _ _ q
  have b := hb { s1 with toks := s1.toks + 1 } [.ref a] I2.kIn (by rw [List.append_nil]; exact hl)
  rw [List.append_nil] at b
  refine PySem.W.get_bind I1.kIn J (PySem.W.plainGet_of (c.get n)).1 (PySem.W.findObj_data (by rw [hcl]; rfl) hp.at_ hp.get hp.tak) (PySem.W.plainGet_of (c.get n)).2 (wpAny_call (PySem.W.prop_get (s := { s1 with toks := s1.toks + 1 }) I1.kIn hrec ?_))
  refine codeAny_mono (F.goes X.A.in1 X.stack { s1 with toks := s1.toks + 1 } H1 ⟨[.ref a], []⟩ [.ref a] [.ref a] Q E0 hc hr.in1 I2.env0.in1 b (.cons rfl .nil) q) fun y s' hq => ?_
  match y, hq with
  | .error er, hq => exact False.elim hq
  | .ok (.ret u), hq =>
    obtain ⟨v, H', I3, rv, q3⟩ := I2.after hq
    show wpAny _ _ (handedOut u) _ _ _
    rw [PySem.W.handedOut_of (handed_of rv)]
    exact wpAny_pure ⟨v, H', I3, rv, q3⟩
  | .ok .next, hq => exact hq.elim
  | .ok .brk, hq => exact hq.elim
  | .ok .cont, hq => exact hq.elim
end
end Xo
set_option Elab.async false
set_option linter.all false
set_option autoImplicit false
set_option maxRecDepth 100000
set_option maxHeartbeats 4000000
namespace K04
open PySem PySem.Spec PyProof.Rows L2 Vb Wd Xd Xo
/-- the i-th statement of a class -/
def inB (st : Stmt) (i : Nat) : Stmt := match st with
  | .ClassDef _ _ _ b _ _ _ _ _ _ _ => b.getD i (.Pass ⟨0, 0, 0, 0⟩)
  | _ => .Pass ⟨0, 0, 0, 0⟩
abbrev s_init : Stmt := inB (topS 23) 0
theorem sc_init : FnScope ["self", "called", "sort", "children"] ["self", "called", "sort", "children"] (defScope s_init) := ⟨rfl, rfl, rfl, by decide +kernel, rfl, by decide +kernel, by decide +kernel⟩
abbrev s_called : Stmt := inB (topS 23) 2
theorem sc_called : FnScope ["self"] ["self"] (defScope s_called) := ⟨rfl, rfl, rfl, by decide +kernel, rfl, by decide +kernel, by decide +kernel⟩
abbrev s_sort_name : Stmt := inB (topS 23) 3
theorem sc_sort_name : FnScope ["self"] ["self"] (defScope s_sort_name) := ⟨rfl, rfl, rfl, by decide +kernel, rfl, by decide +kernel, by decide +kernel⟩
abbrev s_children : Stmt := inB (topS 23) 4
theorem sc_children : FnScope ["self"] ["self"] (defScope s_children) := ⟨rfl, rfl, rfl, by decide +kernel, rfl, by decide +kernel, by decide +kernel⟩
def flds (n so : Str) (ch : Addr) : List (Str × V) := [("_called", .str n), ("_sort_name", .str so), ("_children", .ref ch)]
/-- what the written part tells of the class Form -/
structure FormC (K : PySem.W.Frag) (C : Addr) : Prop where
  c : Cls K C
  n1 : NoAttr K C "_called"
  n2 : NoAttr K C "_sort_name"
  n3 : NoAttr K C "_children"
def spInit (K : PySem.W.Frag) (C : Addr) : Sp := fun vs H Q _ => ∃ (a dx ch : Addr) (n so : Str) (ts : List Addr) (cs : List (Str × Int)), vs = [.ref a, .str n, .str so, .ref ch] ∧ H a = some (.ins C dx []) ∧ (isNam (.str n) = true ∧ n.length ≤ 1000 ∧ Asc n) ∧ (isNam (.str so) = true ∧ so.length ≤ 1000 ∧ Asc so) ∧ Kids H ch ts cs ∧
  ∀ H', Same H H' → Q .non (upd H' a (.ins C dx (flds n so ch)))
/-- a form -/
structure FormAt (H : Hp) (C a ch : Addr) (n so : Str) (ts : List Addr) (cs : List (Str × Int)) : Prop where
  at_ : ∃ dx, H a = some (.ins C dx (flds n so ch))
  kids : Kids H ch ts cs
def spGet (C : Addr) (f : Str) : Sp := fun vs H Q _ => ∃ (a ch dx : Addr) (n so : Str) (v : V), vs = [.ref a] ∧ H a = some (.ins C dx (flds n so ch)) ∧ (flds n so ch).lookup f = some v ∧ Q v H
section
variable {P : Program} {w : World} {K : PySem.W.Frag} {mg : Str → Option Value} {base : Heap} {C : Addr}
theorem ok_init {f : Addr} {fd : FuncData} (F : Fun K "__init__" "Form.__init__" s_init f fd) (T : FormC K C) (G_is_name : Cg P w K mg base 1 "is_name" (spOf isNam)) (G_is_children : Cg P w K mg base 5 "_is_children" spChildren) : FnG P w K mg base 6 f fd ["self", "called", "sort", "children"] (spInit K C) := by
  refine goes_by F sc_init (fun vs H Q E h => ?_) (fun cdv A outer s H vs Q E hc hr h => ?_)
  · obtain ⟨a, dx, ch, n, so, ts, cs, rfl, _⟩ := h
    rfl
  · obtain ⟨a, dx, ch, n, so, ts, cs, rfl, ha, ⟨e1, p1⟩, ⟨e2, p2⟩, k, q⟩ := h
    refine ⟨_, (pss_cons (ps_if (pt_not (pt_val (pe_cg G_is_name hc hr (by rfl) (pa_cons (pv 1) pa_nil)))) pss_never pss_nil)
      (pss_cons (ps_if (pt_not (pt_val (pe_cg G_is_name hc hr (by rfl) (pa_cons (pv 2) pa_nil)))) pss_never pss_nil)
      (pss_cons (ps_if (pt_not (pt_val (pe_cg G_is_children hc hr (by rfl) (pa_cons (pv 3) pa_nil)))) pss_never pss_nil)
      (pss_cons (ps_fld (f := "_called") (pv 0) (pv 1) (by rfl))
      (pss_cons (ps_fld (f := "_sort_name") (pv 0) (pv 2) (by rfl))
      (pss_one (ps_fld (f := "_children") (pv 0) (pv 3) (by rfl)))))))), ?_⟩
    refine ⟨_, rfl, .str n, rfl, p1, fun H1 s1 => ⟨_, rfl, ?_⟩⟩
    rw [e1]
    refine iteF ⟨_, rfl, .str so, rfl, p2, fun H2 s2 => ⟨_, rfl, ?_⟩⟩
    rw [e2]
    refine iteF ⟨_, rfl, ch, ts, cs, rfl, k.same (s1.trans s2), fun H3 s3 => ⟨_, rfl, iteF ?_⟩⟩
    have s13 := (s1.trans s2).trans s3
    refine ⟨_, rfl, _, rfl, a, C, dx, _, rfl, s13 _ _ ha, T.c, T.n1, by decide, _, rfl, _, rfl, a, C, dx, _, rfl, upd_same, T.c, T.n2, by show 1 < 1000; decide, _, rfl, _, rfl, a, C, dx, _, rfl, upd_same, T.c, T.n3, by show 2 < 1000; decide, ?_⟩
    rw [upd_upd, upd_upd]
    exact q H3 s13
theorem ok_called {f : Addr} {fd : FuncData} (F : Fun K "called" "Form.called" s_called f fd) (T : FormC K C) : FnG P w K mg base 1 f fd ["self"] (spGet C "_called") := by
  refine goes_by F sc_called (fun vs H Q E h => ?_) (fun cdv A outer s H vs Q E hc hr h => ?_)
  · obtain ⟨a, ch, dx, n, so, v, rfl, _⟩ := h
    rfl
  · obtain ⟨a, ch, dx, n, so, v, rfl, ha, l, q⟩ := h
    exact ⟨_, pss_one (ps_ret (pe_fld (f := "_called") (pv 0) (by rfl))), _, rfl, a, C, dx, _, v, rfl, ha, T.c, T.n1, l, q⟩
theorem ok_sort_name {f : Addr} {fd : FuncData} (F : Fun K "sort_name" "Form.sort_name" s_sort_name f fd) (T : FormC K C) : FnG P w K mg base 1 f fd ["self"] (spGet C "_sort_name") := by
  refine goes_by F sc_sort_name (fun vs H Q E h => ?_) (fun cdv A outer s H vs Q E hc hr h => ?_)
  · obtain ⟨a, ch, dx, n, so, v, rfl, _⟩ := h
    rfl
  · obtain ⟨a, ch, dx, n, so, v, rfl, ha, l, q⟩ := h
    exact ⟨_, pss_one (ps_ret (pe_fld (f := "_sort_name") (pv 0) (by rfl))), _, rfl, a, C, dx, _, v, rfl, ha, T.c, T.n2, l, q⟩
theorem ok_children {f : Addr} {fd : FuncData} (F : Fun K "children" "Form.children" s_children f fd) (T : FormC K C) : FnG P w K mg base 1 f fd ["self"] (spGet C "_children") := by
  refine goes_by F sc_children (fun vs H Q E h => ?_) (fun cdv A outer s H vs Q E hc hr h => ?_)
  · obtain ⟨a, ch, dx, n, so, v, rfl, _⟩ := h
    rfl
  · obtain ⟨a, ch, dx, n, so, v, rfl, ha, l, q⟩ := h
    exact ⟨_, pss_one (ps_ret (pe_fld (f := "_children") (pv 0) (by rfl))), _, rfl, a, C, dx, _, v, rfl, ha, T.c, T.n3, l, q⟩
end
end K04
set_option Elab.async false
set_option linter.all false
set_option autoImplicit false
set_option maxRecDepth 100000
set_option maxHeartbeats 4000000
namespace K04
open PySem PySem.Spec PyProof.Rows L2 Vb Wd Xd Xo Xi Xm Xr
abbrev s_len : Stmt := inB (topS 23) 5
theorem sc_len : FnScope ["self"] ["self"] (defScope s_len) := ⟨rfl, rfl, rfl, by decide +kernel, rfl, by decide +kernel, by decide +kernel⟩
abbrev s_getitem : Stmt := inB (topS 23) 7
theorem sc_getitem : FnScope ["self", "index"] ["self", "index"] (defScope s_getitem) := ⟨rfl, rfl, rfl, by decide +kernel, rfl, by decide +kernel, by decide +kernel⟩
def spLenF (C : Addr) : Sp := fun vs H Q _ => ∃ (a ch : Addr) (n so : Str) (ts : List Addr) (cs : List (Str × Int)), vs = [.ref a] ∧ FormAt H C a ch n so ts cs ∧ Q (.int ts.length) H
def isIdx (v : V) (n : Int) : Bool := match v with
  | .int i => (isInt v && notNeg v) && decide (i < n)
  | _ => false
/-- form[i]: the child, or InvalidNumber(i) -/
def spItem (C CN : Addr) : Sp := fun vs H Q E => ∃ (a ch : Addr) (n so : Str) (ts : List Addr) (cs : List (Str × Int)) (v : V), vs = [.ref a, v] ∧ FormAt H C a ch n so ts cs ∧ Judged H v ∧
  (isIdx v ts.length = true → ∀ (i : Nat) (t : Addr), v = .int i → ts[i]? = some t → ∀ H', Same H H' → Q (.ref t) H') ∧
  (isIdx v ts.length = false → ∀ H' d, Same H H' → H' d = none → E (.ref CN) (some d) (upd H' d (.xd [("value", v)])))
section
variable {P : Program} {w : World} {K : PySem.W.Frag} {mg : Str → Option Value} {base : Heap} {C CN : Addr}
theorem ok_len {f : Addr} {fd : FuncData} (F : Fun K "__len__" "Form.__len__" s_len f fd) (T : FormC K C) (z_len : mg "len" = none) : FnG P w K mg base 1 f fd ["self"] (spLenF C) := by
  refine goes_by F sc_len (fun vs H Q E h => ?_) (fun cdv A outer s H vs Q E hc hr h => ?_)
  · obtain ⟨a, ch, n, so, ts, cs, rfl, _⟩ := h
    rfl
  · obtain ⟨a, ch, n, so, ts, cs, rfl, ⟨⟨dx, ha⟩, k⟩, q⟩ := h
    refine ⟨_, pss_one (ps_ret (pe_callB call_len_seq (by rfl) z_len PySem.boot_len (pa_cons (pe_fld (f := "_children") (pv 0) (by rfl)) pa_nil))), ?_⟩
    refine ⟨_, rfl, a, C, dx, _, .ref ch, rfl, ha, T.c, T.n3, by rfl, ch, _, rfl, .inr (.inl (.inl k.at_)), ?_⟩
    rw [List.length_map]
    exact q
theorem ok_getitem {f fI : Addr} {fd fdI : FuncData} {psI : List Str} (F : Fun K "__getitem__" "Form.__getitem__" s_getitem f fd) (T : FormC K C) (TI : EI K CN fI) (no : PySem.W.findIn K (.ref CN) "value" = some none) (FI : FnG P w K mg base 1 fI fdI psI (spSet K CN fI "value")) (bI : Binds K fdI psI []) (gN : mg "InvalidNumber" = some (.ref CN))
    (G_is_index : Cg P w K mg base 3 "is_index" (fun vs H Q _ => ∃ (v : V) (n : Int), vs = [v, .int n] ∧ Judged H v ∧ ∀ H', Same H H' → Q (.bl (isIdx v n)) H')) (z_len : mg "len" = none) : FnE P w K mg base 4 f fd ["self", "index"] (spItem C CN) := by
  refine goes_exc F sc_getitem (fun vs H Q E h => ?_) (fun cdv A outer s H vs Q E hc hr tk h => ?_)
  · obtain ⟨a, ch, n, so, ts, cs, v, rfl, _⟩ := h
    rfl
  · obtain ⟨a, ch, n, so, ts, cs, v, rfl, ⟨⟨dx, ha⟩, k⟩, j, q1, q2⟩ := h
    refine ⟨_, (pss_cons (ps_if (pt_not (pt_val (pe_cg G_is_index hc hr (by rfl) (pa_cons (pv 1) (pa_cons (pe_callB call_len_seq (by rfl) z_len PySem.boot_len (pa_cons (pe_fld (f := "_children") (pv 0) (by rfl)) pa_nil)) pa_nil)))))
        (pss_one (ps_raise (by rfl) tk (pmk_E (f := "value") TI no FI hc (hr.mono (by decide)) bI (by rfl) gN (pa_cons (pv 1) pa_nil)))) pss_nil)
      (pss_one (ps_ret (pe_ix (ix_tup : IxR _ (rIxT K)) (pe_fld (f := "_children") (pv 0) (by rfl)) (pv 1) (fun _ _ => rfl))))), ?_⟩
    refine ⟨_, rfl, _, rfl, a, C, dx, _, .ref ch, rfl, ha, T.c, T.n3, by rfl, ch, _, rfl, .inr (.inl (.inl k.at_)), v, _, rfl, j, fun H1 s1 => ⟨_, rfl, ?_⟩⟩
    rw [List.length_map]
    cases e : isIdx v ts.length with
    | false => exact iteT ⟨_, rfl, v, rfl, fun d nd => q2 e H1 d s1 nd⟩
    | true =>
      cases v with
      | int i =>
        have e' : ((isInt (.int i) && notNeg (.int i)) && decide (i < (ts.length : Int))) = true := e
        simp only [Bool.and_eq_true] at e'
        obtain ⟨⟨_, i0⟩, i1⟩ := e'
        have j0 : 0 ≤ i := of_decide_eq_true i0
        have j1 : i < (ts.length : Int) := of_decide_eq_true i1
        have lt : i.toNat < ts.length := by omega
        have eq : i = ((i.toNat : Nat) : Int) := by omega
        have get := List.getElem?_eq_getElem lt
        have at_ : atI (ts.map V.ref) i = some (.ref ts[i.toNat]) := at_of (j := i.toNat) eq (by rw [List.getElem?_map, get]; rfl)
        exact iteF ⟨_, rfl, a, C, dx, _, .ref ch, rfl, s1 _ _ ha, T.c, T.n3, by rfl, _, rfl, ch, _, _, _, rfl, rfl, .inl (.inl (s1 _ _ k.at_)), at_, q1 e i.toNat ts[i.toNat] (congrArg V.int eq) get H1 s1⟩
      | _ => cases e
end
end K04
set_option Elab.async false
set_option linter.all false
set_option autoImplicit false
set_option maxRecDepth 100000
set_option maxHeartbeats 4000000
/-! Gd: expressions that yield data: none, bools, ints, texts, lists, tuples of such. -/
namespace Gd
open PySem PySem.Spec PyProof.Rows L2 Vb Wd
variable {K : PySem.W.Frag}
theorem seqL_same {H H' : Hp} {a : Addr} {xs : List V} (s : Same H H') (h : SqL K H a xs) : SqL K H' a xs := s.seq h
theorem seqT_same {H H' : Hp} {a : Addr} {xs : List V} (s : Same H H') (h : SqT K H a xs) : SqT K H' a xs := by
  rcases h with (h | h) | h
  · exact .inl (.inl (s _ _ h))
  · obtain ⟨o, e⟩ := h
    exact .inl (.inr ⟨o, s _ _ e⟩)
  · exact .inr h
mutual
theorem Dp.same {H H' : Hp} (s : Same H H') : ∀ (d : PyData) (v : V), Dp K H v d → Dp K H' v d
  | .none, _, h => by cases h; exact .non
  | .bool b, _, h => by cases h; exact .bl b
  | .int i, _, h => by cases h; exact .int i
  | .str x, _, h => by cases h; exact .str x
  | .list ds, _, h => by
    cases h with
    | lst a b => exact .lst (seqL_same s a) (Dp.sameAll s ds _ b)
  | .tuple ds, _, h => by
    cases h with
    | tup a b => exact .tup (seqT_same s a) (Dp.sameAll s ds _ b)
  | .dict kvs, _, h => by cases h
theorem Dp.sameAll {H H' : Hp} (s : Same H H') : ∀ (ds : List PyData) (vs : List V), DpAll K H vs ds → DpAll K H' vs ds
  | [], _, h => by cases h; exact .nil
  | d :: ds, _, h => by
    cases h with
    | cons a b => exact .cons (Dp.same s d _ a) (Dp.sameAll s ds _ b)
end
theorem dpAll_app {H : Hp} : ∀ {xs : List V} {ds : List PyData} {ys : List V} {es : List PyData}, DpAll K H xs ds → DpAll K H ys es → DpAll K H (xs ++ ys) (ds ++ es)
  | _, _, _, _, .nil, b => b
  | _, _, _, _, .cons a r, b => .cons a (dpAll_app r b)
theorem dpAll_len {H : Hp} : ∀ {xs : List V} {ds : List PyData}, DpAll K H xs ds → xs.length = ds.length
  | _, _, .nil => rfl
  | _, _, .cons _ r => by rw [List.length_cons, List.length_cons, dpAll_len r]
theorem dpAll_strs {H : Hp} : ∀ l : List Str, DpAll K H (l.map V.str) (l.map PyData.str)
  | [] => .nil
  | y :: l => .cons (.str y) (dpAll_strs l)
/-- the expression yields data that reads d, now and later; all that is tracked stays -/
def GivesD (K : PySem.W.Frag) (t : TE) (σ : L2.St) (H : Hp) (d : PyData) : Prop := ∀ H1 Q, Same H H1 → (∀ v H', Same H1 H' → Dp K H' v d → Q v H') → t σ H1 Q
/-- .. a new list -/
def GivesN (K : PySem.W.Frag) (t : TE) (σ : L2.St) (H : Hp) (ds : List PyData) : Prop := ∀ H1 Q, Same H H1 → (∀ p Hb xs, Same H1 Hb → Hb p = none → DpAll K Hb xs ds → Q (.ref p) (upd Hb p (.lst xs))) → t σ H1 Q
/-- .. several values -/
def GivesA (K : PySem.W.Frag) (t : TA) (σ : L2.St) (H : Hp) (ds : List PyData) : Prop := ∀ H1 Q, Same H H1 → (∀ vs H', Same H1 H' → DpAll K H' vs ds → Q vs H') → t σ H1 Q
section
variable {σ : L2.St} {H : Hp}
theorem GivesD.mono {t : TE} {d : PyData} {H0 : Hp} (g : GivesD K t σ H0 d) (s : Same H0 H) : GivesD K t σ H d := fun H1 Q s1 k => g H1 Q (s.trans s1) k
theorem gd_nil : GivesA K tNil σ H [] := fun H1 Q s k => k [] H1 (Same.refl _) .nil
theorem gd_cons {t : TE} {ts : TA} {d : PyData} {ds : List PyData} (a : GivesD K t σ H d) (b : GivesA K ts σ H ds) : GivesA K (tCons t ts) σ H (d :: ds) := fun H1 Q s k =>
  a H1 _ s fun v H2 s2 h2 => b H2 _ (s.trans s2) fun vs H3 s3 h3 => k (v :: vs) H3 (s2.trans s3) (.cons (Dp.same s3 d v h2) h3)
theorem gd_str {x : Str} : GivesD K (tC (.str x)) σ H (.str x) := fun H1 Q s k => k _ H1 (Same.refl _) (.str x)
theorem gd_int {i : Int} : GivesD K (tC (.int i)) σ H (.int i) := fun H1 Q s k => k _ H1 (Same.refl _) (.int i)
theorem gd_non : GivesD K (tC .non) σ H .none := fun H1 Q s k => k _ H1 (Same.refl _) .non
theorem gd_bl {b : Bool} : GivesD K (tC (.bl b)) σ H (.bool b) := fun H1 Q s k => k _ H1 (Same.refl _) (.bl b)
theorem gd_var {i : Nat} {v : V} {d : PyData} (h : σ[i]? = some (some v)) (r : Dp K H v d) : GivesD K (tVar i) σ H d := fun H1 Q s k => ⟨v, h, k v H1 (Same.refl _) (Dp.same s d v r)⟩
theorem gd_lst {t : TA} {ds : List PyData} (g : GivesA K t σ H ds) (few : ds.length ≤ sizeLine) : GivesN K (tLst t) σ H ds := fun H1 Q s k =>
  g H1 _ s fun vs H2 s2 h2 => ⟨by rw [dpAll_len h2]; exact few, fun p np => k p H2 vs s2 np h2⟩
theorem gd_tup {t : TA} {ds : List PyData} (g : GivesA K t σ H ds) (few : ds.length ≤ sizeLine) : GivesD K (tTup t) σ H (.tuple ds) := fun H1 Q s k =>
  g H1 _ s fun vs H2 s2 h2 => ⟨by rw [dpAll_len h2]; exact few, fun p np => k (.ref p) _ (s2.trans (same_new np)) (.tup (.inl (.inl upd_same)) (Dp.sameAll (same_new np) ds vs h2))⟩
theorem GivesN.data {t : TE} {ds : List PyData} (g : GivesN K t σ H ds) : GivesD K t σ H (.list ds) := fun H1 Q s k =>
  g H1 _ s fun p Hb xs s2 np h => k (.ref p) _ (s2.trans (same_new np)) (.lst (.inl (.inl upd_same)) (Dp.sameAll (same_new np) ds xs h))
theorem gd_cat {t u : TE} {ds es : List PyData} (a : GivesN K t σ H ds) (b : GivesN K u σ H es) (few : ds.length + es.length ≤ sizeLine) : GivesN K (tOp rCat t u) σ H (ds ++ es) := fun H1 Q s k =>
  a H1 _ s fun p Hb xs s2 np h => b _ _ (s.trans (s2.trans (same_new np))) fun q Hc ys s3 nq h' => by
    have sq := same_new (o := .lst ys) nq
    have sp := same_new (o := .lst xs) np
    refine ⟨p, q, xs, ys, rfl, rfl, sq _ _ (s3 _ _ upd_same), upd_same, by rw [dpAll_len h, dpAll_len h']; exact few, fun r nr => k r _ _ (((s2.trans sp).trans s3).trans sq) nr (dpAll_app (Dp.sameAll ((sp.trans s3).trans sq) ds xs h) (Dp.sameAll sq es ys h'))⟩
theorem gd_catV {i : Nat} {p : Addr} {xs : List V} {u : TE} {ds es : List PyData} (h : σ[i]? = some (some (.ref p))) (e : H p = some (.lst xs)) (r : DpAll K H xs ds) (b : GivesN K u σ H es) (few : ds.length + es.length ≤ sizeLine) : GivesN K (tOp rCat (tVar i) u) σ H (ds ++ es) := fun H1 Q s k =>
  ⟨.ref p, h, b _ _ s fun q Hc ys s3 nq h' => by
    have sq := same_new (o := .lst ys) nq
    exact ⟨p, q, xs, ys, rfl, rfl, sq _ _ (s3 _ _ (s _ _ e)), upd_same, by rw [dpAll_len r, dpAll_len h']; exact few, fun z nz => k z _ _ (s3.trans sq) nz (dpAll_app (Dp.sameAll ((s.trans s3).trans sq) ds xs r) (Dp.sameAll sq es ys h'))⟩⟩
theorem asg_new {te : TE} {g : TG} {rest : TS} {D : Ends} {ds : List PyData} (G : GivesN K te σ H ds) (k : ∀ p Hb xs, Same H Hb → Hb p = none → DpAll K Hb xs ds → g (.ref p) σ (upd Hb p (.lst xs)) (fun σ2 H2 => rest D σ2 H2)) : tSeq (tAsg te g) rest D σ H := G H _ (Same.refl _) k
theorem ret_new {te : TE} {D : Ends} {ds : List PyData} (G : GivesN K te σ H ds) (k : ∀ p Hb xs, Same H Hb → Hb p = none → DpAll K Hb xs ds → D.rt (.ref p) (upd Hb p (.lst xs))) : tRet te D σ H := G H _ (Same.refl _) k
theorem ret_data {te : TE} {D : Ends} {d : PyData} (G : GivesD K te σ H d) (k : ∀ v H', Same H H' → Dp K H' v d → D.rt v H') : tRet te D σ H := G H _ (Same.refl _) k
end
end Gd
set_option Elab.async false
set_option linter.all false
set_option autoImplicit false
set_option maxRecDepth 100000
set_option maxHeartbeats 4000000
namespace K04
open Gd PySem PySem.Spec PyProof.Rows L2 Vb Wd Xd Xo
abbrev s_eq : Stmt := inB (topS 23) 8
theorem sc_eq : FnScope ["self", "other"] ["self", "other"] (defScope s_eq) := ⟨rfl, rfl, rfl, by decide +kernel, rfl, by decide +kernel, by decide +kernel⟩
def kidD (c : Str × Int) : PyData := .tuple [.str c.1, .int c.2]
theorem Kids.dpAll {K : PySem.W.Frag} {H : Hp} : ∀ (ts : List Addr) (cs : List (Str × Int)), ts.length = cs.length → (∀ (i : Nat) (t : Addr) (c : Str × Int), ts[i]? = some t → cs[i]? = some c → Kid H t c.1 c.2) → DpAll K H (ts.map V.ref) (cs.map kidD)
  | [], [], _, _ => .nil
  | t :: ts, c :: cs, l, h => .cons (.tup (.inl (.inl (h 0 t c rfl rfl).at_)) (.cons (.str _) (.cons (.int _) .nil))) (Kids.dpAll ts cs (by simpa using l) fun i t' c' h1 h2 => h (i + 1) t' c' h1 h2)
theorem Kids.dp {K : PySem.W.Frag} {H : Hp} {a : Addr} {ts : List Addr} {cs : List (Str × Int)} (k : Kids H a ts cs) : Dp K H (.ref a) (.tuple (cs.map kidD)) := .tup (.inl (.inl k.at_)) (Kids.dpAll ts cs k.len k.kid)
theorem eqv_kids : ∀ cs ds : List (Str × Int), PyData.eqvAll (cs.map kidD) (ds.map kidD) = decide (cs = ds)
  | [], [] => rfl
  | [], d :: ds => by simp [PyData.eqvAll]
  | c :: cs, [] => by simp [PyData.eqvAll]
  | (n, s) :: cs, (m, t) :: ds => by
    show (PyData.eqv (.tuple [.str n, .int s]) (.tuple [.str m, .int t]) && PyData.eqvAll (cs.map kidD) (ds.map kidD)) = _
    rw [eqv_kids cs ds]
    by_cases e1 : n = m <;> by_cases e2 : s = t <;> by_cases e3 : cs = ds <;> simp [PyData.eqv, PyData.eqvAll, e1, e2, e3]
theorem kids_shaped {H : Hp} {a : Addr} {ts : List Addr} {cs : List (Str × Int)} (k : Kids H a ts cs) : SeqAt.shaped (.tuple (cs.map kidD)) = true := by
  have all : ∀ c ∈ cs, Asc c.1 := fun c hc => by
    obtain ⟨i, hi, e⟩ := List.mem_iff_getElem.mp hc
    have ti : i < ts.length := by rw [k.len]; exact hi
    exact (k.kid i ts[i] c (List.getElem?_eq_getElem ti) (by rw [List.getElem?_eq_getElem hi, e])).plain.2
  have go : ∀ l : List (Str × Int), (∀ c ∈ l, Asc c.1) → PyData.canLayAll0 (l.map kidD) = true ∧ PyData.depthAll (l.map kidD) ≤ 1 := fun l => by
    induction l with
    | nil => exact fun _ => ⟨rfl, Nat.zero_le _⟩
    | cons c l ih =>
      intro h
      obtain ⟨h1, h2⟩ := ih fun z hz => h z (List.mem_cons_of_mem _ hz)
      constructor
      · show (PyData.canLay0 (kidD c) && PyData.canLayAll0 (l.map kidD)) = true
        rw [h1, Bool.and_true]
        show (PyData.canLay0 (.str c.1) && (true && true)) = true
        rw [show PyData.canLay0 (.str c.1) = true from by
          show c.1.cps.all (· < 0x110000) = true
          rw [← Array.all_toList, List.all_eq_true]
          exact fun x hx => decide_eq_true (Nat.lt_trans (h c List.mem_cons_self x hx) (by decide))]
        rfl
      · show max (PyData.depth (kidD c)) (PyData.depthAll (l.map kidD)) ≤ 1
        have e : PyData.depth (kidD c) = 1 := rfl
        omega
  obtain ⟨h1, h2⟩ := go cs all
  show (PyData.canLay0 (.tuple (cs.map kidD)) && decide (PyData.depth (.tuple (cs.map kidD)) ≤ 64)) = true
  rw [show PyData.canLay0 (.tuple (cs.map kidD)) = true from h1, Bool.true_and]
  exact decide_eq_true (by show PyData.depthAll _ + 1 ≤ 64; omega)
/-- what of the class isinstance asks -/
structure FormI (K : PySem.W.Frag) (C : Addr) : Prop where
  ca : PySem.W.findIn K (.ref C) "__class__" = some (some (.builtin "object.__class__"))
  sp : PySem.W.specialIn K (.builtin "object.__class__") "__get__" = some (some (.builtin "getset_descriptor.__get__"))
  tk : PySem.W.takesIn K (.builtin "object.__class__") = some true
  mo : PySem.W.mroIn K C (.type "object") = some true
  yes : PySem.W.kitOne K (.ref C) (.ref C) = some true
  no : ∀ t ∈ ["str", "tuple", "list", "NoneType"], PySem.W.kitOne K (.type t) (.ref C) = some false
/-- the properties -/
structure FormP (P : Program) (w : World) (K : PySem.W.Frag) (mg : Str → Option Value) (base : Heap) (C : Addr) : Prop where
  get : ∀ x ∈ [(("called" : Str), ("_called" : Str)), ("sort_name", "_sort_name"), ("children", "_children")], ∃ (p g : Addr) (fd : FuncData), PropOf K C x.1 p g ∧ FnG P w K mg base 1 g fd ["self"] (spGet C x.2) ∧ Binds K fd ["self"] []
/-- self == other -/
def spEq (K : PySem.W.Frag) (C : Addr) : Sp := fun vs H Q _ => ∃ (a ch : Addr) (n so : Str) (ts : List Addr) (cs : List (Str × Int)) (v : V), vs = [.ref a, v] ∧ FormAt H C a ch n so ts cs ∧
  ((∃ t, t ∈ ["str", "tuple", "list", "NoneType"] ∧ TyX K H v (.type t) ∧ Q (.bl false) H) ∨
    ∃ (b ch' : Addr) (n' so' : Str) (ts' : List Addr) (cs' : List (Str × Int)), v = .ref b ∧ FormAt H C b ch' n' so' ts' cs' ∧ Q (.bl (decide (n = n') && (decide (so = so') && decide (cs = cs')))) H)
section
variable {P : Program} {w : World} {K : PySem.W.Frag} {mg : Str → Option Value} {base : Heap} {C : Addr}
theorem ok_eq {f : Addr} {fd : FuncData} (F : Fun K "__eq__" "Form.__eq__" s_eq f fd) (T : FormC K C) (TI : FormI K C) (TP : FormP P w K mg base C) (gF : mg "Form" = some (.ref C)) (z_isinstance : mg "isinstance" = none) : FnG P w K mg base 3 f fd ["self", "other"] (spEq K C) := by
  obtain ⟨p1, g1, fd1, o1, G1, b1⟩ := TP.get _ (List.mem_cons_self)
  obtain ⟨p2, g2, fd2, o2, G2, b2⟩ := TP.get ("sort_name", "_sort_name") (by simp)
  obtain ⟨p3, g3, fd3, o3, G3, b3⟩ := TP.get ("children", "_children") (by simp)
  refine goes_by F sc_eq (fun vs H Q E h => ?_) (fun cdv A outer s H vs Q E hc hr h => ?_)
  · obtain ⟨a, ch, n, so, ts, cs, v, rfl, _⟩ := h
    rfl
  · obtain ⟨a, ch, n, so, ts, cs, v, rfl, ⟨⟨dx, ha⟩, k⟩, q⟩ := h
    refine ⟨_, pss_one (ps_ret (pe_and (pe_callB call_isi (by rfl) z_isinstance (by decide +kernel) (pa_cons (pv 1) (pa_cons (pe_glob (v := .ref C) (by rfl) gF rfl) pa_nil)))
      (pe_and (pe_cmpR op_eq (pe_propG (n := "called") (pv 0) T.c o1 G1 hc hr b1) (pe_propG (n := "called") (pv 1) T.c o1 G1 hc hr b1) (nomark _))
      (pe_and (pe_cmpR op_eq (pe_propG (n := "sort_name") (pv 0) T.c o2 G2 hc hr b2) (pe_propG (n := "sort_name") (pv 1) T.c o2 G2 hc hr b2) (nomark _))
      (pe_one (pe_cmpR (op_eqD hr.units) (pe_propG (n := "children") (pv 0) T.c o3 G3 hc hr b3) (pe_propG (n := "children") (pv 1) T.c o3 G3 hc hr b3) (nomark _))))))), ?_⟩
    have le1 : ∀ {x y : Str}, decide (V.str x = V.str y) = decide (x = y) := fun {x y} => by
      by_cases e : x = y
      · rw [e, decide_eq_true rfl, decide_eq_true rfl]
      · rw [decide_eq_false e, decide_eq_false fun z => e (V.str.inj z)]
    rcases q with ⟨t, ht, ty, q⟩ | ⟨b, ch', n', so', ts', cs', rfl, ⟨⟨dx', hb⟩, k'⟩, q⟩
    · exact ⟨_, rfl, _, _, _, _, false, rfl, .own C, ty, TI.no t ht, _, rfl, iteF q⟩
    · refine ⟨_, rfl, _, _, _, _, true, rfl, .own C, .base (.ins hb T.c TI.ca TI.sp TI.tk TI.mo), TI.yes, _, rfl, iteT ?_⟩
      refine ⟨_, rfl, a, dx, _, rfl, ha, a, ch, dx, n, so, .str n, rfl, ha, by rfl, _, rfl, b, dx', _, rfl, hb, b, ch', dx', n', so', .str n', rfl, hb, by rfl, rfl, _, rfl, ?_⟩
      rw [le1]
      cases e1 : decide (n = n') with
      | false =>
        rw [e1, Bool.false_and] at q
        exact iteF q
      | true =>
        rw [e1, Bool.true_and] at q
        refine iteT ⟨_, rfl, a, dx, _, rfl, ha, a, ch, dx, n, so, .str so, rfl, ha, by rfl, _, rfl, b, dx', _, rfl, hb, b, ch', dx', n', so', .str so', rfl, hb, by rfl, rfl, _, rfl, ?_⟩
        rw [le1]
        cases e2 : decide (so = so') with
        | false =>
          rw [e2, Bool.false_and] at q
          exact iteF q
        | true =>
          rw [e2, Bool.true_and] at q
          refine iteT ⟨_, rfl, a, dx, _, rfl, ha, a, ch, dx, n, so, .ref ch, rfl, ha, by rfl, _, rfl, b, dx', _, rfl, hb, b, ch', dx', n', so', .ref ch', rfl, hb, by rfl, _, _, k.dp, k'.dp, kids_shaped k, kids_shaped k', ?_⟩
          have e3 : PyData.eqv (.tuple (cs.map kidD)) (.tuple (cs'.map kidD)) = decide (cs = cs') := by rw [← eqv_kids]; simp [PyData.eqv]
          rw [e3]
          exact q
end
end K04
set_option Elab.async false
set_option linter.all false
set_option autoImplicit false
set_option maxRecDepth 100000
set_option maxHeartbeats 4000000
namespace K04
open PySem PySem.Spec PyProof.Rows L2 Vb Wd
def rTup (K : PySem.W.Frag) : List V → Hp → VK → Prop := fun xs H Q => ∃ p ys, xs = [.ref p] ∧ ((SqL K H p ys ∧ ∀ l, H l = none → Q (.ref l) (upd H l (.tup ys))) ∨ (SqT K H p ys ∧ Q (.ref p) H))
theorem cr_tuple {X : Cx} : CallR X (.type "tuple") (rTup X.K) := call_tuple_of
/-- the words of a value: those of a text, none of anything else -/
def wordsV : V → List Str
  | .str z => Txt.split z " "
  | _ => []
def spWords : Sp := fun vs H Q _ => ∃ v, vs = [v] ∧ Judged H v ∧ ∀ p H', Same H H' → H' p = some (.tup ((wordsV v).map V.str)) → Q (.ref p) H'
section
variable {P : Program} {w : World} {K : PySem.W.Frag} {mg : Str → Option Value} {base : Heap}
theorem ok_words_of (D : Df K mg "words_of" s_words_of ["value"]) (z_isinstance : mg "isinstance" = none) (z_str : mg "str" = none) (z_tuple : mg "tuple" = none) : Cg P w K mg base 1 "words_of" spWords := by
  refine D.ok sc_words_of (fun vs H Q E h => ?_) (fun cdv A outer s H vs Q E f hc hr h => ?_)
  · obtain ⟨v, rfl, _⟩ := h
    rfl
  · obtain ⟨v, rfl, j, q⟩ := h
    refine ⟨_, (pss_one (ps_ret (pe_ifExp (pt_val (pe_callB call_isi (by rfl) z_isinstance (by decide +kernel) (pa_cons (pv 0) (pa_cons (pe_bltn (v := .ty "str") (by rfl) z_str (by decide +kernel) rfl) pa_nil))))
      (pe_callTy cr_tuple (by rfl) z_tuple (by decide +kernel) (pa_cons (pe_bm PySem.F.plainAttrs_str PySem.F.slot_str_split PySem.F.type_str_split mt_split (pv 0) (pa_cons pe_str pa_nil)) pa_nil)) (pe_tup pa_nil)))), ?_⟩
    have none_ : ∀ (v : V), wordsV v = [] → (∀ p H', Same H H' → H' p = some (.tup ((wordsV v).map V.str)) → Q (.ref p) H') → tTup tNil (start ["value"] [v]) H Q := fun v e q => by
      rw [e] at q
      exact ⟨by show 0 ≤ sizeLine; decide, fun p np => q p _ (same_new np) upd_same⟩
    rcases kinds (K := K) j with ⟨i, rfl, hi⟩ | ⟨b, rfl⟩ | ⟨z, rfl, hz, az⟩ | ⟨T, ty, k1, k2, k3, e1, e2, e3⟩
    · exact ⟨_, rfl, _, _, _, _, false, rfl, .ty _, .base (.int i), kit_ty ki_is, _, rfl, iteF (none_ _ rfl q)⟩
    · exact ⟨_, rfl, _, _, _, _, false, rfl, .ty _, .base (.bl b), kit_ty ki_bs, _, rfl, iteF (none_ _ rfl q)⟩
    · refine ⟨_, rfl, _, _, _, _, true, rfl, .ty _, .base (.str z), kit_ty ki_ss, _, rfl, iteT ?_⟩
      refine ⟨_, rfl, rfl, z, _, rfl, rfl, by decide +kernel, Nat.le_trans (show z.length + 2 ≤ 2000 by omega) (by decide), fun p np => ⟨p, _, rfl, .inl ⟨.inl (.inl upd_same), fun l nl => q l _ ((same_new np).trans (same_new nl)) upd_same⟩⟩⟩
    · have w0 : wordsV v = [] := by
        cases v with
        | str z => 
          cases ty with
          | base h =>
            cases h
            rw [ki_ss] at k3
            cases k3
        | _ => rfl
      exact ⟨_, rfl, _, _, _, _, false, rfl, .ty _, ty, kit_ty k3, _, rfl, iteF (none_ _ w0 q)⟩
end
end K04
set_option Elab.async false
set_option linter.all false
set_option autoImplicit false
set_option maxRecDepth 100000
set_option maxHeartbeats 4000000
namespace K04
open PySem PySem.Spec PyProof.Rows L2 Vb Wd
/-! ### the parts of a split text -/
theorem mem_spl (S : List Nat) : ∀ (x : List Nat) (k : Nat) (acc p : List Nat), p ∈ TL.spl S k acc x → p.length ≤ acc.length + x.length ∧ ∀ c ∈ p, c ∈ acc ∨ c ∈ x
  | [], k, acc, p, h => by
    rw [TL.spl_nil] at h
    cases List.mem_singleton.mp h
    exact ⟨Nat.le_add_right _ _, fun c hc => .inl hc⟩
  | c :: r, 0, acc, p, h => by
    cases e : TL.pre S (c :: r) with
    | true =>
      rw [TL.spl_hit e] at h
      rcases List.mem_cons.mp h with rfl | h
      · exact ⟨Nat.le_add_right _ _, fun c hc => .inl hc⟩
      · obtain ⟨l, m⟩ := mem_spl S r _ [] p h
        refine ⟨by simp only [List.length_nil, List.length_cons] at l ⊢; omega, fun d hd => ?_⟩
        rcases m d hd with z | z
        · cases z
        · exact .inr (List.mem_cons_of_mem _ z)
    | false =>
      rw [TL.spl_miss e] at h
      obtain ⟨l, m⟩ := mem_spl S r 0 (acc ++ [c]) p h
      refine ⟨by simp only [List.length_append, List.length_cons, List.length_nil] at l ⊢; omega, fun d hd => ?_⟩
      rcases m d hd with z | z
      · rcases List.mem_append.mp z with z | z
        · exact .inl z
        · cases List.mem_singleton.mp z
          exact .inr List.mem_cons_self
      · exact .inr (List.mem_cons_of_mem _ z)
  | c :: r, k + 1, acc, p, h => by
    obtain ⟨l, m⟩ := mem_spl S r k acc p (show p ∈ TL.spl S k acc r from h)
    exact ⟨by simp only [List.length_cons]; omega, fun d hd => (m d hd).imp id (List.mem_cons_of_mem _)⟩
theorem len_spl (S : List Nat) : ∀ (x : List Nat) (k : Nat) (acc : List Nat), (TL.spl S k acc x).length ≤ x.length + 1
  | [], k, acc => by rw [TL.spl_nil]; exact Nat.le_refl _
  | c :: r, 0, acc => by
    cases e : TL.pre S (c :: r) with
    | true =>
      rw [TL.spl_hit e]
      have := len_spl S r (S.length - 1) []
      simp only [List.length_cons]
      omega
    | false =>
      rw [TL.spl_miss e]
      have := len_spl S r 0 (acc ++ [c])
      simp only [List.length_cons]
      omega
  | c :: r, k + 1, acc => by
    have := len_spl S r k acc
    show (TL.spl S k acc r).length ≤ _
    simp only [List.length_cons]
    omega
theorem split_spl1 (z : Str) : (Txt.split z " ").map TL.tl = TL.spl [32] 0 [] (TL.tl z) := TL.split_spl z " " (by decide +kernel) (TL.kind_ok (by decide +kernel))
theorem split_plain {z : Str} {n : Nat} (hz : z.length ≤ n) (a : Asc z) : (∀ y ∈ Txt.split z " ", y.length ≤ n ∧ Asc y) ∧ (Txt.split z " ").length ≤ z.length + 1 := by
  have e := split_spl1 z
  have el : (TL.tl z).length = z.length := by simp [TL.tl, Str.length]
  constructor
  · intro y hy
    have my : TL.tl y ∈ TL.spl [32] 0 [] (TL.tl z) := by
      rw [← e]
      exact List.mem_map.mpr ⟨y, hy, rfl⟩
    obtain ⟨l, m⟩ := mem_spl _ _ _ _ _ my
    have ey : (TL.tl y).length = y.length := by simp [TL.tl, Str.length]
    refine ⟨by simp only [List.length_nil] at l; omega, fun c hc => ?_⟩
    rcases m c hc with z' | z'
    · cases z'
    · exact a c z'
  · have l := len_spl [32] (TL.tl z) 0 []
    rw [← e, List.length_map] at l
    omega
/-! ### the child that a word tells -/
def initS (z : Str) : Str := cutS z none (some (-1))
def lastC (z : Str) : Option Nat := z.cps.toList.getLast?
def digC (z : Str) : Bool := match lastC z with
  | some c => decide (48 ≤ c) && decide (c ≤ 51)
  | none => false
def childB (z : Str) : Bool := isNam (.str (initS z)) && digC z
def childV (z : Str) : Str × Int := (initS z, (((lastC z).getD 48 : Nat) : Int) - 48)
theorem last_of {z : Str} (h : 1 ≤ z.length) : ∃ l c, z.cps.toList = l ++ [c] ∧ lastC z = some c := by
  have el : z.cps.toList.length = z.length := by simp [Str.length]
  rcases List.eq_nil_or_concat z.cps.toList with e | ⟨l, c, e⟩
  · rw [e] at el
    simp at el
    omega
  · rw [List.concat_eq_append] at e
    exact ⟨l, c, e, by unfold lastC; rw [e, List.getLast?_append]; rfl⟩
theorem init_len (z : Str) : (initS z).length ≤ z.length := cutS_length _ _ _
theorem nam_len {z : Str} (h : isNam (.str z) = true) : 1 ≤ z.length ∧ z.length ≤ 8 ∧ z.cps.toList.all low = true := by
  rw [isNam_str] at h
  simp only [Bool.and_eq_true, decide_eq_true_eq] at h
  exact ⟨h.1.1, h.1.2, h.2⟩
theorem le_one (a b : Nat) : (!decide ([b] < [a])) = decide (a ≤ b) := by
  rw [one_lt]
  by_cases h : b < a
  · rw [decide_eq_true h, decide_eq_false (by omega)]
    rfl
  · rw [decide_eq_false h, decide_eq_true (by omega)]
    rfl
def spCW : Sp := fun vs H Q _ => ∃ z : Str, vs = [.str z] ∧ z.length ≤ 1000 ∧ Asc z ∧ ∀ H', Same H H' → Q (.bl (childB z)) H'
section
variable {P : Program} {w : World} {K : PySem.W.Frag} {mg : Str → Option Value} {base : Heap}
theorem ok_is_child_word {t : Tok} (D : Df K mg "_is_child_word" s_is_child_word ["word"]) (G_is_name : Cg P w K mg base 1 "is_name" (spOf isNam)) (z_str : mg "str" = none) (c_MAX_STEP : mg "MAX_STEP" = some (.int 3 t)) : Cg P w K mg base 2 "_is_child_word" spCW := by
  refine D.ok sc_is_child_word (fun vs H Q E h => ?_) (fun cdv A outer s H vs Q E f hc hr h => ?_)
  · obtain ⟨z, rfl, _⟩ := h
    rfl
  · obtain ⟨z, rfl, hz, az, q⟩ := h
    refine ⟨_, (pss_one (ps_ret (pe_and (pe_cg G_is_name hc hr (by rfl) (pa_cons (pe_slice sl_str (pv 0) po_none (po_some (pe_un un_neg pe_int))) pa_nil)) (pe_one (pe_chain op_le_str op_le_str pe_str (pe_ix ix_str (pv 0) (pe_un un_neg pe_int) (fun _ _ => rfl)) (pe_callTy call_str_int (by rfl) z_str (by decide +kernel) (pa_cons (pe_glob (v := .int 3) rfl c_MAX_STEP ⟨_, rfl⟩) pa_nil))))))), ?_⟩
    have fz : z.length ≤ sizeLine := fits_million (by omega)
    refine ⟨_, rfl, _, rfl, ⟨_, rfl, z, rfl, fz, .str (initS z), rfl, ⟨Nat.le_trans (init_len z) hz, asc_cut az _ _⟩, fun H1 s1 => ⟨_, rfl, ?_⟩⟩⟩
    have q' : Q (.bl (isNam (.str (initS z)) && digC z)) H1 := q H1 s1
    cases e : isNam (.str (initS z)) with
    | false =>
      rw [e, Bool.false_and] at q'
      exact iteF q'
    | true =>
      rw [e, Bool.true_and] at q'
      obtain ⟨l, c, el, ec⟩ := last_of (z := z) (Nat.le_trans (nam_len e).1 (init_len z))
      have at_ : atI z.cps.toList (-1) = some c := by
        rw [el]
        exact atI_last l c
      have dg : digC z = (decide (48 ≤ c) && decide (c ≤ 51)) := by
        unfold digC
        rw [ec]
      rw [dg] at q'
      refine iteT ⟨_, rfl, _, rfl, z, _, c, rfl, rfl, fz, at_, _, _, rfl, rfl, _, rfl, ?_⟩
      show if (!decide ([c] < [48])) = true then _ else _
      rw [le_one]
      cases e1 : decide (48 ≤ c) with
      | false =>
        rw [e1, Bool.false_and] at q'
        exact iteF q'
      | true =>
        rw [e1, Bool.true_and] at q'
        refine iteT ⟨_, rfl, by decide, _, _, rfl, rfl, ?_⟩
        show Q (.bl (!decide ([51] < [c]))) H1
        rw [le_one]
        exact q'
end
end K04
set_option Elab.async false
set_option linter.all false
set_option autoImplicit false
set_option maxRecDepth 100000
set_option maxHeartbeats 4000000
namespace K04
open PySem PySem.Spec PyProof.Rows L2 Vb Wd
/-! ### lines of forms -/
def formB (ws : List Str) : Bool := decide (5 ≤ ws.length) && decide (ws.length ≤ 7) && decide (ws.getD 0 "" = "form") && isNam (.str (ws.getD 1 "")) && isNam (.str (ws.getD 2 "")) && (ws.drop 3).all childB
def Plain (ws : List Str) : Prop := ∀ y ∈ ws, y.length ≤ 1000 ∧ Asc y
theorem cut3 {α : Type} (f : α → V) (ws : List α) : cutV (ws.map f) (some 3) none = (ws.drop 3).map f := by
  unfold cutV
  have e : HT.sIx (ws.map f).length 0 (some 3) = min 3 (ws.map f).length := HT.sIx_nat _ _ 3
  rw [e, HT.sIx_none, List.length_map]
  by_cases h : ws.length ≤ 3
  · rw [Nat.min_eq_right h, List.drop_of_length_le (by rw [List.length_map]; exact Nat.le_refl _), List.drop_of_length_le h, List.take_nil]
    rfl
  · rw [Nat.min_eq_left (by omega), List.take_of_length_le (by rw [List.length_drop, List.length_map]; exact Nat.le_refl _), List.map_drop]
theorem at_str {ws : List Str} {j : Nat} (h : j < ws.length) : atI (ws.map V.str) (j : Int) = some (.str (ws.getD j "")) := by
  refine atI_nat ?_
  rw [List.getElem?_map, List.getElem?_eq_getElem h, List.getD_eq_getElem?_getD, List.getElem?_eq_getElem h]
  rfl
theorem getD_mem {ws : List Str} {j : Nat} (h : j < ws.length) : ws.getD j "" ∈ ws := by
  rw [List.getD_eq_getElem?_getD, List.getElem?_eq_getElem h]
  exact List.getElem_mem h
def spFL (K : PySem.W.Frag) : Sp := fun vs H Q _ => ∃ (p : Addr) (ws : List Str), vs = [.ref p] ∧ H p = some (.tup (ws.map V.str)) ∧ Plain ws ∧ ws.length ≤ 100000 ∧ ∀ H', Same H H' → Q (.bl (formB ws)) H'
section
variable {P : Program} {w : World} {K : PySem.W.Frag} {mg : Str → Option Value} {base : Heap}
theorem ok_is_form_line {tk : Tok} (D : Df K mg "_is_form_line" s_is_form_line ["words"]) (G_is_name : Cg P w K mg base 1 "is_name" (spOf isNam)) (G_is_child_word : Cg P w K mg base 2 "_is_child_word" spCW) (z_len : mg "len" = none) (z_all : mg "all" = none) (c_MAX_CHILDREN : mg "MAX_CHILDREN" = some (.int 4 tk)) : Cg P w K mg base 3 "_is_form_line" (spFL K) := by
  refine D.ok sc_is_form_line (fun vs H Q E h => ?_) (fun cdv A outer s H vs Q E f hc hr h => ?_)
  · obtain ⟨p, ws, rfl, _⟩ := h
    rfl
  · obtain ⟨p, ws, rfl, hp, pl, few, q⟩ := h
    refine ⟨_, (pss_cons (ps_if (PW.pt (pw_or (pt_not (pt_chain op_le op_le pe_int (pe_callB call_len_seq (by rfl) z_len PySem.boot_len (pa_cons (pv 0) pa_nil)) (pe_op op_add pe_int (pe_glob (v := .int 4) rfl c_MAX_CHILDREN ⟨_, rfl⟩)))) (pw_or1 (pt_cmpR op_ne (pe_ix (ix_tup : IxR _ (rIxT K)) (pv 0) pe_int (fun _ _ => rfl)) pe_str (nomark _)))))
      (pss_one (ps_ret pe_bl))
      pss_nil)
      (pss_one (ps_ret (pe_and (pe_cg G_is_name hc hr (by rfl) (pa_cons (pe_ix (ix_tup : IxR _ (rIxT K)) (pv 0) pe_int (fun _ _ => rfl)) pa_nil)) (pe_and (pe_cg G_is_name hc hr (by rfl) (pa_cons (pe_ix (ix_tup : IxR _ (rIxT K)) (pv 0) pe_int (fun _ _ => rfl)) pa_nil)) (pe_one (pe_callB (cr_all rfl) (by rfl) z_all (by decide +kernel) (pa_cons (pe_lc (own := [("word", 1)]) (g := gName 1) (by rfl) sc_is_form_line.nd (pi_tup (pe_slice (sl_tup : SlR _ (rSlT K)) (pv 0) (po_some pe_int) po_none)) (blkOk_by (own := [("word", 1)]) (N := ["words", "word"]) (sc := defScope s_is_form_line) (by decide +kernel)) (fun _ _ _ _ _ => pg_name (i := 1) sc_is_form_line.nd rfl (Or.inl rfl)) (fun _ _ _ _ _ => pts_nil) (fun _ _ _ _ _ => (pe_cg G_is_child_word hc hr (by rfl) (pa_cons (pv 1) pa_nil)))) pa_nil)))))))), ?_⟩
    have hT : ∀ {H' : Hp}, Same H H' → SqT K H' p (ws.map V.str) := fun s => .inl (.inl (s _ _ hp))
    have len : (ws.map V.str).length = ws.length := List.length_map ..
    refine ⟨_, rfl, p, _, rfl, .inr (hT (Same.refl H)), ?_⟩
    rw [len]
    refine ⟨_, _, rfl, rfl, _, rfl, ?_⟩
    have no : formB ws = false → Q (.bl false) H := fun e => e ▸ q H (Same.refl H)
    by_cases h5 : 5 ≤ ws.length
    · refine ite2 (fun _ => ?_) (fun n => absurd (decide_eq_true (show (5 : Int) ≤ (ws.length : Int) by omega)) n)
      refine ⟨_, _, rfl, rfl, _, _, rfl, rfl, _, rfl, ?_⟩
      by_cases h7 : ws.length ≤ 7
      · refine ite2 (fun n => ?_) (fun _ => ?_)
        · rw [decide_eq_true (show (ws.length : Int) ≤ 3 + 4 by omega)] at n
          cases n
        have a0 : atI (ws.map V.str) 0 = some (.str (ws.getD 0 "")) := at_str (j := 0) (by omega)
        have a1 : atI (ws.map V.str) 1 = some (.str (ws.getD 1 "")) := at_str (j := 1) (by omega)
        have a2 : atI (ws.map V.str) 2 = some (.str (ws.getD 2 "")) := at_str (j := 2) (by omega)
        refine ⟨_, rfl, p, _, _, _, rfl, rfl, hT (Same.refl H), a0, rfl, _, rfl, ?_⟩
        have q' : ∀ H', Same H H' → Q (.bl (decide (ws.getD 0 "" = "form") && (isNam (.str (ws.getD 1 "")) && (isNam (.str (ws.getD 2 "")) && (ws.drop 3).all childB)))) H' := fun H' s' => by
          have z := q H' s'
          unfold formB at z
          rw [decide_eq_true h5, decide_eq_true h7] at z
          simpa only [Bool.true_and, Bool.and_assoc] using z
        by_cases e0 : ws.getD 0 "" = "form"
        · rw [decide_eq_true (show V.str (ws.getD 0 "") = V.str "form" from congrArg V.str e0)]
          rw [decide_eq_true e0] at q'
          refine iteF ?_
          have m1 := pl _ (getD_mem (ws := ws) (j := 1) (by omega))
          have m2 := pl _ (getD_mem (ws := ws) (j := 2) (by omega))
          refine ⟨_, rfl, p, _, _, _, rfl, rfl, hT (Same.refl H), a1, _, rfl, m1, fun H1 s1 => ⟨_, rfl, ?_⟩⟩
          have q1 := q' H1 s1
          cases e1 : isNam (.str (ws.getD 1 "")) with
          | false =>
            rw [e1] at q1
            exact iteF q1
          | true =>
            refine iteT ⟨_, rfl, p, _, _, _, rfl, rfl, hT s1, a2, _, rfl, m2, fun H2 s2 => ⟨_, rfl, ?_⟩⟩
            have q2 := q' H2 (s1.trans s2)
            rw [e1] at q2
            cases e2 : isNam (.str (ws.getD 2 "")) with
            | false =>
              rw [e2] at q2
              exact iteF q2
            | true =>
              have s12 := s1.trans s2
              refine iteT ⟨_, rfl, _, rfl, p, _, rfl, hT s12, ?_, fun t nt => ⟨t, rfl, ⟨_, .inl (.inl upd_same)⟩, fun D nD => ?_⟩⟩
              · intro z
                have e : HT.sIx (ws.map V.str).length 0 (some 3) = min 3 (ws.map V.str).length := HT.sIx_nat _ _ 3
                rw [e, len] at z
                have := z.1
                omega
              · rw [cut3] at nD ⊢
                have st := same_new (o := .tup ((ws.drop 3).map V.str)) nt
                have et : ∀ {H' : Hp}, Same (upd H2 t (.tup ((ws.drop 3).map V.str))) H' → SqT K H' t ((ws.drop 3).map V.str) := fun s' => .inl (.inl (s' _ _ upd_same))
                refine lc_tup (K := K) (a := t) (xs := (ws.drop 3).map V.str) (fun i H' => Same (upd H2 t (.tup ((ws.drop 3).map V.str))) H' ∧ H' D = some (.lst ((((ws.drop 3).take i).map childB).map V.bl))) ⟨same_put nD (Same.refl _), upd_same⟩ (fun i H' _ h => et h.1) (fun i x H3 hx h => ?_) (fun H3 h => ?_)
                · obtain ⟨s3, e3⟩ := h
                  rw [List.getElem?_map] at hx
                  obtain ⟨y, hy, rfl⟩ := Option.map_eq_some_iff.mp hx
                  have my := pl y (List.mem_of_mem_drop (List.mem_of_getElem? hy))
                  have il : i < (ws.drop 3).length := (List.getElem?_eq_some_iff.mp hy).1
                  refine ⟨rfl, _, rfl, y, rfl, my.1, my.2, fun H4 s4 => ⟨_, s4 _ _ e3, ?_, same_put nD (s3.trans s4), ?_⟩⟩
                  · rw [List.length_map, List.length_map, List.length_take]
                    rw [List.length_drop] at il
                    exact Nat.lt_of_le_of_lt (show _ ≤ 100000 by omega) (by decide)
                  · rw [upd_same, List.take_add_one, hy, List.map_append, List.map_append]
                    rfl
                · obtain ⟨s3, e3⟩ := h
                  rw [List.length_map, List.take_of_length_le (Nat.le_refl _)] at e3
                  refine ⟨D, _, rfl, .inl (.inl e3), ?_⟩
                  have q3 := q' H3 ((s12.trans st).trans s3)
                  rw [e1, e2] at q3
                  have ea : ((ws.drop 3).map childB).all id = (ws.drop 3).all childB := by rw [List.all_map]; rfl
                  rw [ea]
                  exact q3
        · have e0' : decide (V.str (ws.getD 0 "") = V.str "form") = false := decide_eq_false fun z => e0 (V.str.inj z)
          rw [e0']
          rw [decide_eq_false e0] at q'
          exact iteT (q' H (Same.refl H))
      · refine ite2 (fun _ => no ?_) (fun n => ?_)
        · unfold formB
          rw [decide_eq_false h7]
          simp
        · rw [decide_eq_false (show ¬ (ws.length : Int) ≤ 3 + 4 by omega)] at n
          exact absurd rfl n
    · refine ite2 (fun n => ?_) (fun _ => ⟨_, rfl, iteT (no ?_)⟩)
      · have := of_decide_eq_true n
        omega
      · unfold formB
        rw [decide_eq_false h5]
        simp
end
end K04
set_option Elab.async false
set_option linter.all false
set_option autoImplicit false
set_option maxRecDepth 100000
set_option maxHeartbeats 4000000
/-! Xq: == of two objects of one own class by its __eq__, whatever it answers, in calm room. -/
namespace Xq
open PySem PySem.Spec PyProof.Rows L2 Vb
def rEqO (C : Addr) (sp : Sp) : R2 := fun x y H Q => ∃ (a b dx dy : Addr) (fs gs : List (Str × V)), x = .ref a ∧ y = .ref b ∧ H a = some (.ins C dx fs) ∧ H b = some (.ins C dy gs) ∧ sp [.ref a, .ref b] H (fun v H' => ∃ t, v = .bl t ∧ Q (.bl t) H') E0
section
variable {X : Cx} {k : Nat} {f C : Addr} {fd : FuncData} {ps : List Str} {sp : Sp}
theorem op_eqO (F : FnG X.prog X.w X.K X.mg X.base k f fd ps sp) (hs : PySem.W.findIn X.K (.ref C) "__eq__" = some (some (.ref f))) (hf : PySem.W.isFn X.K (.ref f) = true) (hb : Binds X.K fd ps []) (hc : Calm X.A) (hr : Room k X.A) : OpR X (compareOp .Eq) (rEqO C sp) := by
  intro pins s σ H x y v u Q I rx ry h
  obtain ⟨a, b, dx, dy, fs, gs, rfl, rfl, ha, hb', hq⟩ := h
  cases rx
  cases ry
  obtain ⟨mA, J, _⟩ := ins_get I.hok ha
  obtain ⟨mB, J', _⟩ := ins_get I.hok hb'
  obtain ⟨od, J, _⟩ := J.look
  obtain ⟨od', J', _⟩ := J'.look
  obtain ⟨m, hF⟩ := I.fr
  show wpAny (model X.prog X.w) X.A (richCompare .Eq (.ref a) (.ref b)) (EP X pins σ Q) X.xe s
  refine PySem.W.cmp_K (op := .Eq) (tb := .ref C) hr.units0 hF I.ok.mod.kin J J'.type (by simp [PySem.W.notFirst]) hs hf ?_
  have hl := F.count _ _ _ _ hq
  have bb := hb s [.ref a, .ref b] I.kIn (by rw [List.append_nil]; exact hl)
  rw [List.append_nil] at bb
  refine wpAny_call (codeAny_mono (F.goes X.A X.stack s H ⟨[.ref a, .ref b], []⟩ [.ref a, .ref b] [.ref a, .ref b] _ E0 hc hr I.env0 bb (.cons rfl (.cons rfl .nil)) hq) fun r s' hq' => ?_)
  match r, hq' with
  | .error er, hq' => exact False.elim hq'
  | .ok (.ret w), hq' =>
    obtain ⟨z, H', I', rz, t, ez, q⟩ := I.after hq'
    subst ez
    cases (show w = Value.bool t from rz)
    exact ⟨.bl t, H', I', rfl, q⟩
  | .ok .next, hq' => exact hq'.elim
  | .ok .brk, hq' => exact hq'.elim
  | .ok .cont, hq' => exact hq'.elim
end
end Xq
set_option Elab.async false
set_option linter.all false
set_option autoImplicit false
set_option maxRecDepth 100000
set_option maxHeartbeats 4000000
/-! Xv: the special methods of own classes in calm room: len, str, ==, != and o[i]; class methods; a class held by a local. -/
namespace Xv
open PySem PySem.Spec PyProof.Rows L2 Vb Xd Xo
section
variable {X : Cx} {k : Nat} {f C : Addr} {fd : FuncData} {ps : List Str} {sp : Sp} {E : XK} {W : WX} {pins : List (Addr × Obj)} {σ : L2.St} {H : Hp} {s : Shared} {Q : VK} {us : List Value} {vs : List V}
/-- a def that lets nothing out, entered n builtins deeper -/
theorem run_deep {A : Around} (hA : A.frames = X.A.frames) (F : FnG X.prog X.w X.K X.mg X.base k f fd ps sp) (hc : Calm A) (hr : Room k A) (hb : Binds X.K fd ps []) (I : Inv X pins σ H s) (r : Vals vs us) (h : sp vs H Q E0) : wpAny (model X.prog X.w) A (call (.ref f) us) (EP X pins σ Q) X.xe s := by
  have hl : us.length = ps.length := r.length ▸ F.count _ _ _ _ h
  have b := hb s us I.kIn (by rw [List.append_nil]; exact hl)
  rw [List.append_nil] at b
  have e0 : Env0 X.prog X.w X.K X.mg X.base A X.stack s H := by
    have e := I.env0
    exact ⟨by rw [hA]; exact e.frames, e.mod, e.bs, e.bsz, e.funs, e.frf, e.hok, e.bare⟩
  refine wpAny_call (codeAny_mono (F.goes A X.stack s H ⟨us, []⟩ us vs Q E0 hc hr e0 b r h) fun y s' hq => ?_)
  match y, hq with
  | .error er, hq => exact False.elim hq
  | .ok (.ret u), hq => exact I.after hq
  | .ok .next, hq => exact hq.elim
  | .ok .brk, hq => exact hq.elim
  | .ok .cont, hq => exact hq.elim
/-- .. that may let an error out -/
theorem run_deepE {A : Around} (hA : A.frames = X.A.frames) (F : FnE X.prog X.w X.K X.mg X.base k f fd ps sp) (hc : Calm A) (hr : Room k A) (hb : Binds X.K fd ps []) (tk : Takes X W) (hW : ∀ cls d σ H, E cls d H → W cls d σ H) (I : Inv X pins σ H s) (r : Vals vs us) (h : sp vs H Q E) :
    wpAny (model X.prog X.w) A (call (.ref f) us) (EP X pins σ Q) X.xe s := by
  have hl : us.length = ps.length := r.length ▸ F.count _ _ _ _ h
  have b := hb s us I.kIn (by rw [List.append_nil]; exact hl)
  rw [List.append_nil] at b
  have e0 : Env0 X.prog X.w X.K X.mg X.base A X.stack s H := by
    have e := I.env0
    exact ⟨by rw [hA]; exact e.frames, e.mod, e.bs, e.bsz, e.funs, e.frf, e.hok, e.bare⟩
  refine wpAny_call (codeAny_mono (F.goes A X.stack s H ⟨us, []⟩ us vs Q E hc hr e0 b r h) fun y s' hq => ?_)
  match y, hq with
  | .error er, hq => exact passes_call tk hW pins σ H s er s' I hq
  | .ok (.ret u), hq => exact I.after hq
  | .ok .next, hq => exact hq.elim
  | .ok .brk, hq => exact hq.elim
  | .ok .cont, hq => exact hq.elim
end
section
variable {X : Cx} {k : Nat} {f C : Addr} {fd : FuncData} {ps : List Str} {sp : Sp} {E : XK} {W : WX}
/-- len(o) -/
def rLenO (C : Addr) (sp : Sp) : List V → Hp → VK → Prop := fun xs H Q => ∃ a dx fs, xs = [.ref a] ∧ H a = some (.ins C dx fs) ∧ sp [.ref a] H (fun v H' => ∃ n : Int, v = .int n ∧ 0 ≤ n ∧ n < 2 ^ 63 ∧ Q (.int n) H') E0
theorem call_lenO (F : FnG X.prog X.w X.K X.mg X.base k f fd ps sp) (hs : PySem.W.findIn X.K (.ref C) "__len__" = some (some (.ref f))) (hf : PySem.W.isFn X.K (.ref f) = true) (hb : Binds X.K fd ps []) (hc : Calm X.A) (hr : Room (k + 1) X.A) : CallR X (.builtin "len") (rLenO C sp) := by
  intro pins s σ H xs us Q I r h
  obtain ⟨a, dx, fs, rfl, ha, hq⟩ := h
  obtain ⟨u, rfl, r1⟩ := vals1 r
  cases (show u = Value.ref a from r1)
  obtain ⟨mA, J, _⟩ := ins_get I.hok ha
  obtain ⟨od, J, _⟩ := J.look
  obtain ⟨m, hF⟩ := I.fr
  refine PySem.W.len_K hF I.ok.mod.kin J hs hf (thn (run_deep (vs := [.ref a]) rfl F hc hr.in1 hb I (.cons rfl .nil) hq) fun v s' hv => ?_)
  obtain ⟨z, H', I', rz, n, ez, n0, n1, q⟩ := hv
  subst ez
  obtain ⟨t, rfl⟩ := (show ∃ t, v = Value.int n t from rz)
  exact ⟨⟨n0, n1⟩, .int n, H', I'.tok _, ⟨_, rfl⟩, q⟩
/-- str(o) -/
def rStrO (C : Addr) (sp : Sp) : List V → Hp → VK → Prop := fun xs H Q => ∃ a dx fs, xs = [.ref a] ∧ H a = some (.ins C dx fs) ∧ sp [.ref a] H (fun v H' => ∃ z : Str, v = .str z ∧ Q (.str z) H') E0
theorem call_strO (F : FnG X.prog X.w X.K X.mg X.base k f fd ps sp) (hs : PySem.W.findIn X.K (.ref C) "__str__" = some (some (.ref f))) (hf : PySem.W.isFn X.K (.ref f) = true) (hb : Binds X.K fd ps []) (hc : Calm X.A) (hr : Room (k + 2) X.A) : CallR X (.type "str") (rStrO C sp) := by
  intro pins s σ H xs us Q I r h
  obtain ⟨a, dx, fs, rfl, ha, hq⟩ := h
  obtain ⟨u, rfl, r1⟩ := vals1 r
  cases (show u = Value.ref a from r1)
  obtain ⟨mA, J, _⟩ := ins_get I.hok ha
  obtain ⟨od, J, _⟩ := J.look
  have hr2 : Room k X.A.in1.in1 := (show Room (k + 1) X.A.in1 from hr.in1).in1
  refine PySem.W.kso_call hr2.units0 I.kIn J hs hf (thn (run_deep (vs := [.ref a]) rfl F hc hr2 hb I (.cons rfl .nil) hq) fun v s' hv => ?_)
  obtain ⟨z, H', I', rz, y, ez, q⟩ := hv
  subst ez
  obtain ⟨t, rfl⟩ := (show ∃ t, v = Value.str y t from rz)
  exact ⟨.str y, H', I', ⟨_, rfl⟩, q⟩
/-- o == v, v of any known kind -/
def rEqA (K : PySem.W.Frag) (C : Addr) (sp : Sp) : R2 := fun x y H Q => ∃ (a dx : Addr) (fs : List (Str × V)) (tb : Value), x = .ref a ∧ H a = some (.ins C dx fs) ∧ TyX K H y tb ∧ PySem.W.notFirst K C tb = true ∧ sp [.ref a, y] H (fun v H' => ∃ t, v = .bl t ∧ Q (.bl t) H') E0
theorem looks_ty {X : Cx} {pins : List (Addr × Obj)} {σ : L2.St} {H : Hp} {s : Shared} {x : V} {u t : Value} (I : Inv X pins σ H s) (rx : RelV x u) (ty : TyX X.K H x t) : PySem.W.Looks (model X.prog X.w) s.heap (typeOf u) t := by
  obtain ⟨P, Z, p, _⟩ := kit_of I rx ty
  exact Z.ty _ _ I.kIn p
theorem op_eqA (F : FnG X.prog X.w X.K X.mg X.base k f fd ps sp) (hs : PySem.W.findIn X.K (.ref C) "__eq__" = some (some (.ref f))) (hf : PySem.W.isFn X.K (.ref f) = true) (hb : Binds X.K fd ps []) (hc : Calm X.A) (hr : Room k X.A) : OpR X (compareOp .Eq) (rEqA X.K C sp) := by
  intro pins s σ H x y v u Q I rx ry h
  obtain ⟨a, dx, fs, tb, rfl, ha, ty, nf, hq⟩ := h
  cases rx
  obtain ⟨mA, J, _⟩ := ins_get I.hok ha
  obtain ⟨od, J, _⟩ := J.look
  obtain ⟨m, hF⟩ := I.fr
  show wpAny (model X.prog X.w) X.A (richCompare .Eq (.ref a) u) (EP X pins σ Q) X.xe s
  refine PySem.W.cmp_K (op := .Eq) (tb := tb) hr.units0 hF I.ok.mod.kin J (looks_ty I ry ty) nf hs hf (thn (run_deep (vs := [.ref a, y]) rfl F hc hr hb I (.cons rfl (.cons ry .nil)) hq) fun v s' hv => ?_)
  obtain ⟨z, H', I', rz, t, ez, q⟩ := hv
  subst ez
  cases (show v = Value.bool t from rz)
  exact ⟨.bl t, H', I', rfl, q⟩
end
/-! ### != of two objects whose class has an own == and no own != -/
open Builtin in
theorem ifBoundB {M : Model} {A : Around} {E : Value → Shared → Prop} {s : Shared} {K : PySem.W.Frag} {x C : Addr} {ox : Obj} {od : Option Obj} {name : Str} {id : String} {args : List Value} {Q : Option Value → Shared → Prop} (KX : K.In s.heap) (J : PySem.W.InstAt s.heap x ox C od)
    (hs : PySem.W.findIn K (.ref C) name = some (some (.builtin id))) (hb : ∀ self, bindSpecial (.builtin id) self = pure (.builtin id, [self])) (h : wpAny M A (call (.builtin id) (.ref x :: args)) (fun v => Q (some v)) E s) : wpAny M A (callSpecialIfBound? (.ref x) name args) Q E s := by
  unfold callSpecialIfBound? bindSpecialIfBound?
  have done_ : wpAny M A (call (.builtin id) ([.ref x] ++ args) >>= fun v => pure (some v)) Q E s := wpAny_bind (thn h fun v s' z => wpAny_pure z)
  refine wpAny_holding (wpAny_bind (wpAny_bind (wpAny_bind (J.type.here ((PySem.W.looks_findIn KX hs).here (wpAny_bind (wpAny_askSetting (wpAny_ite ?_))))))))
  have bd : PySem.W.Looks M s.heap (bindSpecial (.builtin id) (.ref x)) (.builtin id, [.ref x]) := PySem.W.Looks.of_pure (hb _)
  split
  · exact wpAny_bind (bd.here (wpAny_pure done_))
  · exact wpAny_tryCatch (wpAny_bind (bd.here (wpAny_pure done_)))
open Builtin in
theorem ne_in {P : Program} {w : World} {A : Around} {E : Value → Shared → Prop} {s : Shared} {K : PySem.W.Frag} {x C f : Addr} {b : Value} {ox : Obj} {od : Option Obj} {Q : PySem.Fin → Shared → Prop} (hu : A.units < cLine) (KX : K.In s.heap) (J : PySem.W.InstAt s.heap x ox C od)
    (he : PySem.W.findIn K (.ref C) "__eq__" = some (some (.ref f))) (hf : PySem.W.isFn K (.ref f) = true) (h : wpAny (model P w) A (call (.ref f) [.ref x, b]) (fun v s' => ∃ t, v = .bool t ∧ Q (.done (.ret (.bool (!t)))) s') E s) :
    wpAny (model P w) A (Builtin.«object.__ne__» ⟨[.ref x, b], []⟩) Q E s := by
  have back : ∀ r s', (∃ t, r = Value.bool t ∧ Q (.done (.ret (.bool (!t)))) s') → wpAny (model P w) A (match (some r : Option Value) with
      | some Value.notImplemented => ret Value.notImplemented
      | none => ret Value.notImplemented
      | some r => do
        let t ← truthy r
        ret (Value.bool !t)) Q E s' := fun r s' hr => by
    obtain ⟨t, rfl, hq⟩ := hr
    exact wpAny_bind (wpAny_truthy_bool (wpAny_pure hq))
  unfold Builtin.«object.__ne__»
  refine wpAny_bind (m := slotArgs "__ne__" 1 _) (wpAny_pure ?_)
  refine wpAny_bind (wpAny_cRoomFor hu ?_)
  exact wpAny_bind (m := callSpecialIfBound? (.ref x) (Str.ofString "__eq__") [b]) (PySem.W.ifBound_K KX J he hf (thn h back))
theorem ne_call {P : Program} {w : World} {A : Around} {E : Value → Shared → Prop} {s : Shared} {K : PySem.W.Frag} {x C f : Addr} {b : Value} {ox : Obj} {od : Option Obj} {Q : Value → Shared → Prop} (hu : A.in1.units < cLine) (KX : K.In s.heap) (J : PySem.W.InstAt s.heap x ox C od) (hm : PySem.W.mroIn K C (.type "object") = some true)
    (he : PySem.W.findIn K (.ref C) "__eq__" = some (some (.ref f))) (hf : PySem.W.isFn K (.ref f) = true) (h : wpAny (model P w) A.in1 (call (.ref f) [.ref x, b]) (fun v s' => ∃ t, v = .bool t ∧ Q (.bool (!t)) s') E s) :
    wpAny (model P w) A (call (.builtin "object.__ne__") [.ref x, b]) Q E s := by
  refine wpAny_call (codeAny_call_builtin PySem.F.cmp_object.ne.plain PySem.F.cmpEntry_ne (PySem.W.check_slot (i := "object.__ne__") (owner := "object") (n := "__ne__") PySem.F.cmpKind_ne PySem.F.cmpSplit_ne (J.type.andThen (PySem.W.looks_mroIn KX hm)) (PySem.F.cmpArgs_ne _ _) ?_))
  exact ne_in hu KX J he hf (thn h fun v s' hv => by
    obtain ⟨t, e, q⟩ := hv
    exact ⟨t, e, q⟩)
/-- o != p, of one class -/
def rNeO (C : Addr) (sp : Sp) : R2 := fun x y H Q => ∃ (a b dx dy : Addr) (fs gs : List (Str × V)), x = .ref a ∧ y = .ref b ∧ H a = some (.ins C dx fs) ∧ H b = some (.ins C dy gs) ∧ sp [.ref a, .ref b] H (fun v H' => ∃ t, v = .bl t ∧ Q (.bl (!t)) H') E0
section
variable {X : Cx} {k : Nat} {f C : Addr} {fd : FuncData} {ps : List Str} {sp : Sp}
theorem op_neO (F : FnG X.prog X.w X.K X.mg X.base k f fd ps sp) (hs : PySem.W.findIn X.K (.ref C) "__eq__" = some (some (.ref f))) (hf : PySem.W.isFn X.K (.ref f) = true) (hn : PySem.W.findIn X.K (.ref C) "__ne__" = some (some (.builtin "object.__ne__")))
    (hm : PySem.W.mroIn X.K C (.type "object") = some true) (hb : Binds X.K fd ps []) (hc : Calm X.A) (hr : Room (k + 1) X.A) : OpR X (compareOp .NotEq) (rNeO C sp) := by
  intro pins s σ H x y v u Q I rx ry h
  obtain ⟨a, b, dx, dy, fs, gs, rfl, rfl, ha, hb', hq⟩ := h
  cases rx
  cases ry
  obtain ⟨mA, J, _⟩ := ins_get I.hok ha
  obtain ⟨mB, J', _⟩ := ins_get I.hok hb'
  obtain ⟨od, J, _⟩ := J.look
  obtain ⟨od', J', _⟩ := J'.look
  have one : wpAny (model X.prog X.w) X.A (tryCompare (.ref a) "__ne__" (.ref b)) (fun r s' => ∃ v, r = some v ∧ EP X pins σ Q v s') X.xe s := by
    unfold tryCompare
    refine wpAny_bind (ifBoundB I.kIn J hn PySem.F.cmp_object.ne.bind (ne_call hr.in1.units0 I.kIn J hm hs hf (thn (run_deep (vs := [.ref a, .ref b]) rfl F hc hr.in1 hb I (.cons rfl (.cons rfl .nil)) hq) fun v s' hv => ?_)))
    obtain ⟨z, H', I', rz, t, ez, q⟩ := hv
    subst ez
    cases (show v = Value.bool t from rz)
    exact ⟨t, rfl, wpAny_pure ⟨_, rfl, .bl (!t), H', I', rfl, q⟩⟩
  show wpAny (model X.prog X.w) X.A (richCompare .NotEq (.ref a) (.ref b)) (EP X pins σ Q) X.xe s
  unfold richCompare
  simp only [oneThing_ref]
  refine wpAny_holding (wpAny_bind (wpAny_cRoomFor hr.units0 ?_))
  refine wpAny_bind (J.type.here (wpAny_bind (J'.type.here ?_)))
  rw [show (Value.ref C != Value.ref C) = false from by simp]
  simp only [Bool.false_eq_true, if_false]
  refine wpAny_bind (wpAny_pure ?_)
  simp only [Bool.false_eq_true, if_false]
  refine wpAny_bind (thn one fun r s' z => ?_)
  obtain ⟨v, rfl, q⟩ := z
  exact wpAny_pure q
/-- o[i], what __getitem__ lets out is taken -/
def tItO (C : Addr) (sp : Sp) (E : XK) (ta tb : TE) : TE := fun σ H Q => ta σ H fun x H1 => tb σ H1 fun y H2 => ∃ a dx fs, x = .ref a ∧ H2 a = some (.ins C dx fs) ∧ sp [.ref a, y] H2 Q E
theorem pe_itemO {W : WX} {E : XK} {o i : Expr} {ta tb : TE} {pos : Pos} (ho : PE X o ta) (hi : PE X i tb) (F : FnE X.prog X.w X.K X.mg X.base k f fd ps sp) (hs : PySem.W.findIn X.K (.ref C) "__getitem__" = some (some (.ref f))) (hfn : PySem.W.fnIn X.K f = true) (hf : PySem.W.isFn X.K (.ref f) = true) (hb : Binds X.K fd ps [])
    (hc : Calm X.A) (hr : Room (k + 1) X.A) (tk : Takes X W) (hW : ∀ cls d σ H, E cls d H → W cls d σ H) (hsl : ∀ (a : Addr) (v : Value), subscripted i true (.ref a) v = runValue (.builtin "lifetime.subscript" ⟨[.ref a, v], []⟩) := by with_unfolding_all (intro _ _; rfl)) :
    PE X (.Subscript o i pos) (tItO C sp E ta tb) := by
  refine ⟨fun pins s σ H Q I h => ?_⟩
  refine Subscript_ (binT ho hi I (R := fun x y H2 => ∃ a dx fs, x = V.ref a ∧ H2 a = some (.ins C dx fs) ∧ sp [.ref a, y] H2 Q E) h fun v u s2 x y H2 I2 rx ry q => ?_)
  obtain ⟨a, dx, fs, rfl, ha, hq⟩ := q
  cases rx
  obtain ⟨mA, J, _⟩ := ins_get I2.hok ha
  obtain ⟨od, J, _⟩ := J.look
  obtain ⟨m, hF⟩ := I2.fr
  exact PySem.W.sub_K hF I2.ok.mod.kin J hs hfn hf (run_deepE (vs := [.ref a, y]) rfl F hc hr.in1 hb tk hW I2 (.cons rfl (.cons ry .nil)) hq) (hsl _ _)
/-- C.m(e, ..), m a class method that may let an error out -/
theorem pe_cmethE {W : WX} {E : XK} {m : Str} {p g : Addr} {mc : Value} {o e : Expr} {es : List Expr} {ta : TE} {t : TA} {pl : Sem Bool} {pos apos : Pos} (he : PE X o ta) (r : ClX.CRead X.K C mc) (c : ClX.CMet X.K C mc m p g) (F : FnE X.prog X.w X.K X.mg X.base k g fd ps sp) (hb : Binds X.K fd ps []) (hc : Calm X.A) (hr : Room k X.A)
    (tk : Takes X W) (hW : ∀ cls d σ H, E cls d H → W cls d σ H) (ha : PA X (e :: es) t) (hst : starEach (e :: es) X.env = (false, eval e X.env) :: starEach es X.env := by rfl) (hpl : (backTo pos (starEach es X.env)).any (·.1) = false := by rfl)
    (ht : eval (.Call (.Attribute o m apos) (e :: es) [] pos) X.env = (do let ov ← eval o X.env; standAt apos.atName; let (f, first) ← holding [ov] (getMethod ov m pl); callWith pos f first (backTo pos (starEach (e :: es) X.env)) (backToKw pos (keywordEach [] X.env))) := by rfl) :
    PE X (.Call (.Attribute o m apos) (e :: es) [] pos) (ClX.tCMeth C sp E ta t) := by
  refine ⟨fun pins s σ H Q I h => PySem.W.methodCall_KW (pl := pl) (thn (he.run pins s σ H _ I h) fun u s1 ⟨x, H1, I1, rx, ex, q⟩ => ?_) ht⟩
  subst ex
  obtain rfl : u = Value.ref C := rx
  refine ClX.getmethcm_ok I1 r c fun s2 I2 => ClX.callwith_cm I2 (ClX.base_none I1 (Nat.le_refl _)) c.fi (thn (ha.run pos _ s2 σ H1 _ I2 q) fun us s3 ⟨vs, H2, I3, rv, q2⟩ => ⟨⟨ClX.pin_at I3, I3.kIn⟩, ?_⟩) hst hpl
  refine thn (Q := EP X ((s1.heap.objs.size, PySem.W.methodObj (.ref g) (.ref C)) :: pins) σ Q) (wpAny_call (PySem.W.method_call (ClX.pin_at I3) ?_)) fun _ _ y => ClX.unpinE y
  have rv' : Vals (V.ref C :: vs) (Value.ref C :: us) := .cons rfl rv
  have hl : (Value.ref C :: us).length = ps.length := rv'.length ▸ F.count _ _ _ _ q2
  have b := hb s3 (Value.ref C :: us) I3.kIn (by rw [List.append_nil]; exact hl)
  rw [List.append_nil] at b
  refine codeAny_mono (F.goes X.A X.stack s3 H2 ⟨Value.ref C :: us, []⟩ _ _ Q E hc hr I3.env0 b rv' q2) fun y s' hq => ?_
  match y, hq with
  | .error er, hq => exact passes_call tk hW _ σ H2 s3 er s' I3 hq
  | .ok (.ret u), hq => exact I3.after hq
  | .ok .next, hq => exact hq.elim
  | .ok .brk, hq => exact hq.elim
  | .ok .cont, hq => exact hq.elim
/-- x(e, ..), x a local that holds the class at C -/
def tMaL (i : Nat) (C : Addr) (sp : Sp) (E : XK) (t : TA) : TE := fun σ H Q => σ[i]? = some (some (.ref C)) ∧ tMaE C sp E t σ H Q
theorem pe_makeL {W : WX} {E : XK} {i : Nat} {x : Str} {q pos : Pos} {e : Expr} {es : List Expr} {t : TA} (M : L2.Mk X.K C f) (F : FnE X.prog X.w X.K X.mg X.base k f fd ps sp) (hc : Calm X.A) (hr : Room (k + 1) X.A) (hN : X.N[i]? = some x) (hv : Vis X.env.scope x) (hb : Binds X.K fd ps []) (tk : Takes X W) (hW : ∀ cls d σ H, E cls d H → W cls d σ H) (ha : PA X (e :: es) t)
    (hdb : (x == ("__debug__" : Str)) = false := by decide) (hcd : (x == ("__classdict__" : Str)) = false := by decide) (he : starEach (e :: es) X.env = (false, eval e X.env) :: starEach es X.env := by rfl) (hpl : (backTo pos (starEach es X.env)).any (·.1) = false := by rfl) : PE X (.Call (.Name x q) (e :: es) [] pos) (tMaL i C sp E t) := by
  refine ⟨fun pins s σ H Q I h => ?_⟩
  obtain ⟨hs, ht⟩ := h
  refine wpAny_Call_Name_kw (thn ((pe_var (pos := q) hN hv hdb hcd).run pins s σ H (fun v H1 => v = .ref C ∧ H1 = H) I ⟨.ref C, hs, rfl, rfl⟩) fun u s1 ⟨v, H1, I1, r1, q1⟩ => ?_)
  obtain ⟨rfl, rfl⟩ := q1
  cases r1
  exact PySem.W.callWith_K (h₀ := X.base) I.ok.mod.kin M.kp (thn (ha.run pos pins s1 σ _ _ I1 ht) fun us s2 ⟨vs, H2, I2, r, q2⟩ => ⟨I2.kIn, makes_inE M F hc hr hb tk hW I2 r q2⟩) he hpl
end
end Xv
set_option Elab.async false
set_option linter.all false
set_option autoImplicit false
set_option maxRecDepth 100000
set_option maxHeartbeats 4000000
namespace K04
open PySem PySem.Spec PyProof.Rows L2 Vb Wd Xd Xo Xi Xm Xr Xv
abbrev s_from_line : Stmt := inB (topS 23) 1
theorem sc_from_line : FnScope ["cls", "line", "words", "word"] ["cls", "line"] (defScope s_from_line) := ⟨rfl, rfl, rfl, by decide +kernel, rfl, by decide +kernel, by decide +kernel⟩
/-- what the words of a line tell -/
def readW (ws : List Str) : Option (Str × Str × List (Str × Int)) := if formB ws = true then some (ws.getD 1 "", ws.getD 2 "", (ws.drop 3).map childV) else none
theorem int_one : ∀ c, c < 52 → 48 ≤ c → PySem.intText? ⟨#[c]⟩ = some ((c : Int) - 48) := by decide +kernel
theorem child_last {y : Str} (h : childB y = true) : ∃ (l : List Nat) (c : Nat), y.cps.toList = l ++ [c] ∧ 48 ≤ c ∧ c ≤ 51 ∧ (childV y).2 = (c : Int) - 48 ∧ isNam (.str (childV y).1) = true := by
  unfold childB at h
  simp only [Bool.and_eq_true] at h
  obtain ⟨h1, h2⟩ := h
  obtain ⟨l, c, el, ec⟩ := last_of (z := y) (Nat.le_trans (nam_len h1).1 (init_len y))
  unfold digC at h2
  rw [ec] at h2
  simp only [Bool.and_eq_true, decide_eq_true_eq] at h2
  refine ⟨l, c, el, h2.1, h2.2, ?_, h1⟩
  unfold childV
  rw [ec]
  rfl
theorem words_plain {H : Hp} {v : V} (j : Judged H v) : Plain (wordsV v) ∧ (wordsV v).length ≤ 1001 := by
  cases v with
  | str z =>
    obtain ⟨h1, h2⟩ := split_plain (n := 1000) j.1 j.2
    exact ⟨h1, Nat.le_trans h2 (by have := j.1; omega)⟩
  | _ => exact ⟨fun y hy => (nomatch (show y ∈ ([] : List Str) from hy)), Nat.zero_le _⟩
/-- C.from_line(v) -/
def spFrom (C CP : Addr) : Sp := fun vs H Q E => ∃ v, vs = [.ref C, v] ∧ Judged H v ∧
  (∀ (n so : Str) (cs : List (Str × Int)), readW (wordsV v) = some (n, so, cs) → ∀ (a ch : Addr) (ts : List Addr) (H' : Hp), Same H H' → FormAt H' C a ch n so ts cs → Q (.ref a) H') ∧
  (readW (wordsV v) = none → ∀ H' d, Same H H' → H' d = none → E (.ref CP) (some d) (upd H' d (.xd [("number", .non)])))
section
variable {P : Program} {w : World} {K : PySem.W.Frag} {mg : Str → Option Value} {base : Heap} {C CP : Addr}
theorem ok_from_line {f fN fI : Addr} {fd fdN fdI : FuncData} {psN : List Str} (F : Fun K "from_line" "Form.from_line" s_from_line f fd) (T : FormC K C) (M : L2.Mk K C fI) (FI : FnG P w K mg base 6 fI fdI ["self", "called", "sort", "children"] (spInit K C)) (bI : Binds K fdI ["self", "called", "sort", "children"] [])
    (TP : EI K CP fN) (no : PySem.W.findIn K (.ref CP) "number" = some none) (FN : FnG P w K mg base 1 fN fdN psN (spSet K CP fN "number")) (bN : Binds K fdN psN []) (gP : mg "ParseError" = some (.ref CP))
    (G_words_of : Cg P w K mg base 1 "words_of" spWords) (G_is_form_line : Cg P w K mg base 3 "_is_form_line" (spFL K)) (z_int : mg "int" = none) (z_tuple : mg "tuple" = none) : FnE P w K mg base 8 f fd ["cls", "line"] (spFrom C CP) := by
  refine goes_exc F sc_from_line (fun vs H Q E h => ?_) (fun cdv A outer s H vs Q E hc hr tk h => ?_)
  · obtain ⟨v, rfl, _⟩ := h
    rfl
  · obtain ⟨v, rfl, j, q1, q2⟩ := h
    refine ⟨_, (pss_cons (ps_set (i := 2) sc_from_line.nd rfl (Or.inl rfl) (pe_cg G_words_of hc hr (by rfl) (pa_cons (pv 1) pa_nil) (hx := pass0)))
      (pss_cons (ps_if (pt_not (pt_val (pe_cg G_is_form_line hc hr (by rfl) (pa_cons (pv 2) pa_nil)))) (pss_one (ps_raise (by rfl) tk (pmk_E (f := "number") TP no FN hc (hr.mono (by decide)) bN (by rfl) gP (pa_cons pe_non pa_nil)))) pss_nil)
      (pss_one (ps_ret (pe_makeL (i := 0) (E := fun _ _ _ => False) M (FnE.of FI) hc hr rfl (Or.inl rfl) bI tk (fun _ _ _ _ z => z.elim) (pa_cons (pe_ix (ix_tup : IxR _ (rIxT K)) (pv 2) pe_int (fun _ _ => rfl)) (pa_cons (pe_ix (ix_tup : IxR _ (rIxT K)) (pv 2) pe_int (fun _ _ => rfl)) (pa_cons (pe_callTy (cr_tuple : CallR _ _ (rTup K)) (by rfl) z_tuple (by decide +kernel) (pa_cons
        (pe_lc (own := [("word", 3)]) (g := gName 3) (by rfl) sc_from_line.nd (pi_tup (pe_slice (sl_tup : SlR _ (rSlT K)) (pv 2) (po_some pe_int) po_none)) (blkOk_by (own := [("word", 3)]) (N := ["cls", "line", "words", "word"]) (sc := defScope s_from_line) (by decide +kernel)) (fun _ _ _ _ _ => pg_name (i := 3) sc_from_line.nd rfl (Or.inl rfl)) (fun _ _ _ _ _ => pts_nil) (fun _ _ _ _ _ => (pe_tup (pa_cons (pe_slice sl_str (pv 3) po_none (po_some (pe_un un_neg pe_int))) (pa_cons (pe_callTy call_int_str (by rfl) z_int (by decide +kernel) (pa_cons (pe_ix ix_str (pv 3) (pe_un un_neg pe_int) (fun _ _ => rfl)) pa_nil)) pa_nil)))))
        pa_nil)) pa_nil)))))))), ?_⟩
    obtain ⟨pl, few⟩ := words_plain j
    generalize ew : wordsV v = ws at pl few q1 q2
    refine ⟨_, rfl, v, rfl, j, fun p H1 s1 hp => ?_⟩
    rw [ew] at hp
    refine ⟨_, rfl, p, ws, rfl, hp, pl, Nat.le_trans few (by decide), fun H2 s2 => ⟨_, rfl, ?_⟩⟩
    have s12 := s1.trans s2
    unfold readW at q1 q2
    cases e : formB ws with
    | false =>
      rw [e] at q2
      exact iteT ⟨.non, rfl, fun d nd => q2 rfl H2 d s12 nd⟩
    | true =>
      rw [e] at q1
      have lens : 5 ≤ ws.length ∧ ws.length ≤ 7 ∧ isNam (.str (ws.getD 1 "")) = true ∧ isNam (.str (ws.getD 2 "")) = true ∧ ∀ y ∈ ws.drop 3, childB y = true := by
        have z := e
        unfold formB at z
        simp only [Bool.and_eq_true, decide_eq_true_eq, List.all_eq_true] at z
        exact ⟨z.1.1.1.1.1, z.1.1.1.1.2, z.1.1.2, z.1.2, z.2⟩
      obtain ⟨h5, h7, n1, n2, kids⟩ := lens
      have len : (ws.map V.str).length = ws.length := List.length_map ..
      have a1 : atI (ws.map V.str) 1 = some (.str (ws.getD 1 "")) := at_str (j := 1) (by omega)
      have a2 : atI (ws.map V.str) 2 = some (.str (ws.getD 2 "")) := at_str (j := 2) (by omega)
      have m1 := pl _ (getD_mem (ws := ws) (j := 1) (by omega))
      have m2 := pl _ (getD_mem (ws := ws) (j := 2) (by omega))
      have hT : SqT K H2 p (ws.map V.str) := .inl (.inl (s2 _ _ hp))
      refine iteF ⟨rfl, _, rfl, p, _, _, _, rfl, rfl, hT, a1, _, rfl, p, _, _, _, rfl, rfl, hT, a2, _, rfl, _, rfl, p, _, rfl, hT, ?_, fun t nt => ⟨t, rfl, ⟨_, .inl (.inl upd_same)⟩, fun D nD => ?_⟩⟩
      · intro z
        have e : HT.sIx (ws.map V.str).length 0 (some 3) = min 3 (ws.map V.str).length := HT.sIx_nat _ _ 3
        rw [e, len] at z
        have := z.1
        omega
      · rw [cut3] at nD ⊢
        have st := same_new (o := .tup ((ws.drop 3).map V.str)) nt
        have et : ∀ {H' : Hp}, Same (upd H2 t (.tup ((ws.drop 3).map V.str))) H' → SqT K H' t ((ws.drop 3).map V.str) := fun s' => .inl (.inl (s' _ _ upd_same))
        refine lc_tup (K := K) (a := t) (xs := (ws.drop 3).map V.str) (fun i H' => Same (upd H2 t (.tup ((ws.drop 3).map V.str))) H' ∧ ∃ ts : List Addr, ts.length = i ∧ H' D = some (.lst (ts.map V.ref)) ∧ ∀ (j : Nat) (t : Addr) (y : Str), ts[j]? = some t → (ws.drop 3)[j]? = some y → Kid H' t (childV y).1 (childV y).2)
          ⟨same_put nD (Same.refl _), [], rfl, upd_same, fun j t y z => nomatch z⟩ (fun i H' _ h => et h.1) (fun i x H3 hx h => ?_) (fun H3 h => ?_)
        · obtain ⟨s3, ts, tl, e3, tk3⟩ := h
          rw [List.getElem?_map] at hx
          obtain ⟨y, hy, rfl⟩ := Option.map_eq_some_iff.mp hx
          have my : y ∈ ws.drop 3 := List.mem_of_getElem? hy
          have py := pl y (List.mem_of_mem_drop my)
          have fy : y.length ≤ sizeLine := fits_million (by omega)
          obtain ⟨l, c, el, lo, hi, ev, en⟩ := child_last (kids y my)
          have at_ : atI y.cps.toList (-1) = some c := by
            rw [el]
            exact atI_last l c
          have it := int_one c (by omega) lo
          have il : i < (ws.drop 3).length := (List.getElem?_eq_some_iff.mp hy).1
          refine ⟨rfl, _, rfl, _, rfl, _, rfl, y, rfl, fy, _, rfl, _, rfl, y, _, c, rfl, rfl, fy, at_, _, _, rfl, it, (by show 1 ≤ 640; decide), by show 2 ≤ sizeLine; decide, fun t' nt' => ?_⟩
          have Dt : D ≠ t' := ne_of_none e3 nt'
          refine ⟨ts.map V.ref, by rw [upd_ne Dt]; exact e3, ?_, same_put nD (s3.trans (same_new nt')), ts ++ [t'], by rw [List.length_append, tl]; rfl, by rw [upd_same, List.map_append]; rfl, fun j u y' hu hy' => ?_⟩
          · rw [List.length_map, tl]
            rw [List.length_drop] at il
            exact Nat.lt_of_le_of_lt (show i ≤ 100 by omega) (by decide)
          · have ju : j < (ts ++ [t']).length := (List.getElem?_eq_some_iff.mp hu).1
            rw [List.length_append, List.length_singleton] at ju
            by_cases hj : j < ts.length
            · rw [List.getElem?_append_left hj] at hu
              have k := tk3 j u y' hu hy'
              have uD : u ≠ D := fun z => by
                have a := k.at_
                rw [z, e3] at a
                cases a
              have ut : u ≠ t' := ne_of_none k.at_ nt'
              exact ⟨by rw [upd_ne uD, upd_ne ut]; exact k.at_, k.nam, k.plain, k.lo, k.hi⟩
            · have ej : j = i := by omega
              subst ej
              rw [List.getElem?_append_right (by omega), ← tl, Nat.sub_self] at hu
              cases hu
              rw [hy] at hy'
              cases hy'
              refine ⟨by rw [upd_ne (fun z => Dt z.symm), upd_same, ev]; rfl, en, ⟨Nat.le_trans (init_len y) py.1, asc_cut py.2 _ _⟩, by rw [ev]; omega, by rw [ev]; omega⟩
        · obtain ⟨s3, ts, tl, e3, tk3⟩ := h
          rw [List.length_map] at tl
          have s123 := (s12.trans st).trans s3
          refine ⟨D, _, rfl, .inl ⟨.inl (.inl e3), fun l nl => ?_⟩⟩
          have kl : ts.length = ((ws.drop 3).map childV).length := by rw [tl, List.length_map]
          have sl := same_new (o := .tup (ts.map V.ref)) nl
          have dl : (ws.drop 3).length = ws.length - 3 := List.length_drop ..
          have KA : Kids (upd H3 l (.tup (ts.map V.ref))) l ts ((ws.drop 3).map childV) := by
            refine ⟨upd_same, kl, by omega, by omega, fun i t c ht hc => ?_⟩
            rw [List.getElem?_map] at hc
            obtain ⟨y, hy, rfl⟩ := Option.map_eq_some_iff.mp hc
            exact (tk3 i t y ht hy).same sl
          intro x dx nx ndx ne
          have sd : Same (upd H3 l (.tup (ts.map V.ref))) (upd (upd (upd H3 l (.tup (ts.map V.ref))) dx (.own x)) x (.ins C dx [])) := (same_new ndx).trans (same_new (by rw [upd_ne ne.symm]; exact nx))
          refine ⟨x, dx, l, _, _, ts, _, rfl, upd_same, ⟨n1, m1⟩, ⟨n2, m2⟩, KA.same sd, fun H' s' => ⟨rfl, ?_⟩⟩
          exact q1 _ _ _ rfl x l ts _ ((s123.trans sl).trans (same_put nx (sd.trans s'))) ⟨⟨dx, upd_same⟩, KA.same (same_put nx (sd.trans s'))⟩
end
end K04
set_option Elab.async false
set_option linter.all false
set_option autoImplicit false
set_option maxRecDepth 100000
set_option maxHeartbeats 4000000
/-! Ts: sets of texts that are made of a list or a tuple, and sorted at once. -/
namespace Ts
open PySem PySem.Spec PyProof.Rows L2 Vb
section
variable {P : Program} {w : World}
/-- two members are unlike -/
def Unlike (P : Program) (w : World) (e e' : Int × Value) : Prop := ∀ k, (PySem.strKind P w).is k e.2 = true → (PySem.strKind P w).is k e'.2 = false
theorem Unlike.symm {e e' : Int × Value} (h : Unlike P w e e') : Unlike P w e' e := fun k hk => by
  cases q : (PySem.strKind P w).is k e.2 with
  | false => rfl
  | true => rw [h k q] at hk; cases hk
/-- a table whose members are just the texts of S, each once, and that can be walked -/
structure Good (P : Program) (w : World) (S : Str → Bool) (es : Array (Int × Value)) (t : SetTable) : Prop where
  el : ElemsOf (PySem.strKind P w) es.toList
  ap : es.toList.Pairwise (Unlike P w)
  mem : ∀ k, S k = true ↔ ∃ e ∈ es.toList, (PySem.strKind P w).is k e.2 = true
  few : es.size < scanBound
  fit : t.fits es.size = true
  ris : Ris t.place.toList
  led : w.params.followText "set-order" = true ∨ t.led = true
theorem size_perm {es es' : Array (Int × Value)} (p : es'.toList.Perm es.toList) : es'.size = es.size := by
  have := p.length_eq
  simpa using this
theorem Good.perm {S : Str → Bool} {es es' : Array (Int × Value)} {t t' : SetTable} (G : Good P w S es t) (p : es'.toList.Perm es.toList) (f : t'.fits es'.size = true) (r : Ris t'.place.toList) (l : t'.led = t.led) : Good P w S es' t' where
  el := G.el.perm p
  ap := (p.pairwise_iff fun h => h.symm).mpr G.ap
  mem := fun k => (G.mem k).trans ⟨fun ⟨e, he, q⟩ => ⟨e, p.mem_iff.mpr he, q⟩, fun ⟨e, he, q⟩ => ⟨e, p.mem_iff.mp he, q⟩⟩
  few := size_perm p ▸ G.few
  fit := f
  ris := r
  led := l ▸ G.led
theorem Good.relay {S : Str → Bool} {es : Array (Int × Value)} {t : SetTable} (G : Good P w S es t) (m : Nat) : Good P w S (relayAll t es m).1 (relayAll t es m).2.1 ∧ (relayAll t es m).1.size = es.size :=
  ⟨G.perm (relayAll_perm t es m) (relayAll_fits t es m) (relayAll_ris t es m) (relayAll_led t es m), size_perm (relayAll_perm t es m)⟩
theorem Good.plain {S : Str → Bool} {es : Array (Int × Value)} {t : SetTable} (G : Good P w S es t) : Good P w S es { t with plain := false } := ⟨G.el, G.ap, G.mem, G.few, SetTable.fits_plain_off G.fit, G.ris, G.led⟩
theorem Good.lay {S : Str → Bool} {es : Array (Int × Value)} {t : SetTable} (G : Good P w S es t) (k : Str) (tk : Tok) (new : ∀ e ∈ es.toList, (PySem.strKind P w).is k e.2 = false) (room : es.size + 1 < scanBound) :
    Good P w (fun j => S j || decide (j = k)) (layNew t es ((PySem.strKind P w).hash k) (.str k tk)).1 (layNew t es ((PySem.strKind P w).hash k) (.str k tk)).2.1 ∧ (layNew t es ((PySem.strKind P w).hash k) (.str k tk)).1.size = es.size + 1 := by
  have isk : (PySem.strKind P w).is k (.str k tk) = true := by simp [PySem.strKind, Value.isStrOf]
  have p := layNew_perm t es ((PySem.strKind P w).hash k) (.str k tk)
  rw [Array.toList_push] at p
  have sz : (layNew t es ((PySem.strKind P w).hash k) (.str k tk)).1.size = es.size + 1 := by
    have := p.length_eq
    simpa using this
  refine ⟨⟨(G.el.push isk rfl).perm p, (p.pairwise_iff fun h => h.symm).mpr (List.pairwise_append.mpr ⟨G.ap, List.pairwise_singleton _ _, fun e he e' he' j hj => ?_⟩), fun j => mem_push_iff isk G.mem p j, by rw [sz]; exact room, layNew_fits _ _ _ _, layNew_ris _ _ _ _ G.ris, G.led.imp id fun z => (layNew_led _ _ _ _).trans z⟩, sz⟩
  rw [List.mem_singleton.mp he']
  cases q : (PySem.strKind P w).is j (Value.str k tk) with
  | false => rfl
  | true =>
    have : j = k := (PySem.strKind P w).inj _ j k q isk
    subst this
    rw [new e he] at hj
    cases hj
/-- the set at a -/
def TxtSet (P : Program) (w : World) (h : Heap) (a : Addr) (S : Str → Bool) (n : Nat) : Prop := ∃ o es ep t, h.get? a = some o ∧ o.ExactSet ∧ o.data = .set es ep t ∧ Good P w S es t ∧ es.size = n
theorem TxtSet.at {h h' : Heap} {a : Addr} {S : Str → Bool} {n : Nat} (T : TxtSet P w h a S n) (k : ∀ o, h.get? a = some o → h'.get? a = some o) : TxtSet P w h' a S n := by
  obtain ⟨o, es, ep, t, e, r⟩ := T
  exact ⟨o, es, ep, t, k o e, r⟩
variable {A : Around} {E : Value → Shared → Prop} {s : Shared} {a : Addr} {S : Str → Bool} {n : Nat}
theorem put_tail {g : Bool → Sem Unit} (hg : ∀ (b : Bool) (s₁ : Shared) (Q' : Unit → Shared → Prop), Q' () s₁ → wpAny (model P w) A (g b) Q' E s₁) {o : Obj} {es es1 : Array (Int × Value)} {ep : Nat} {t t1 : SetTable} (ho : s.heap.get? a = some o) (ex : o.ExactSet)
    (hd : o.data = .set es ep t) (G : Good P w S es1 t1) {was : Bool} {R : Option Bool → Shared → Prop} (hR : ∀ h', Heap.SameBut a s.heap h' → TxtSet P w h' a S es1.size → R (some true) { s with heap := h' }) :
    wpAny (model P w) A (do
        storeSet a es1 t1
        if (!was && t1.tooFull) = true then do
            g (relayAll t1 es1 (SetTable.grown es1.size)).2.2
            storeSet a (relayAll t1 es1 (SetTable.grown es1.size)).1 (relayAll t1 es1 (SetTable.grown es1.size)).2.1
            pure (some true)
          else pure (some true)) R E s := by
  have st1 := store_at (es' := es1) (t' := t1) ho hd
  have sb := Heap.SameBut.update s.heap a (Obj.putSet es1 t1)
  refine wpAny_bind (wpAny_storeSet_of ho hd ?_ (fits_of_scanBound G.few))
  by_cases c : (!was && t1.tooFull) = true
  · rw [if_pos c]
    obtain ⟨G2, z⟩ := G.relay (SetTable.grown es1.size)
    refine wpAny_bind (hg _ _ _ (wpAny_bind (wpAny_storeSet_of st1 rfl ?_ (fits_of_scanBound G2.few))))
    exact wpAny_pure (hR _ (sb.trans (Heap.SameBut.update _ a _)) ⟨_, _, _, _, store_at st1 rfl, ex, rfl, G2, z⟩)
  · rw [if_neg c]
    exact wpAny_pure (hR _ sb ⟨_, _, _, _, st1, ex, rfl, G, rfl⟩)
/-- one text more -/
theorem put_text {k : Str} {tk : Tok} {Q : Bool → Shared → Prop} (T : TxtSet P w s.heap a S n) (room : n + 1 < scanBound)
    (hQ : ∀ (b : Bool) h', Heap.SameBut a s.heap h' → TxtSet P w h' a (fun j => S j || decide (j = k)) (if S k = true then n else n + 1) → Q b { s with heap := h' }) : wpAny (model P w) A (setAddHashed a (.str k tk) ((PySem.strKind P w).hash k)) Q E s := by
  obtain ⟨o, es, ep, t, ho, ex, hd, G, hn⟩ := T
  have isk : (PySem.strKind P w).is k (.str k tk) = true := by simp [PySem.strKind, Value.isStrOf]
  have sc : (Value.str k tk).scannable = true := rfl
  unfold setAddHashed setAddHashedIn
  refine wpAny_holding (wpAny_bind (wpAny_setState_of ho hd G.fit ?_))
  dsimp only
  rw [byScan_of sc G.few G.el]
  simp only [↓reduceIte]
  unfold setAddByScan
  refine wpAny_bind (wpAny_bind (wpAny_rule (wpAny_bind (wpAny_setScan_of isk ho hd G.fit G.el ?_))))
  cases f : List.findIdx? (fun e => (PySem.strKind P w).is k e.2) es.toList with
  | some j =>
    obtain ⟨hj, pj, _⟩ := List.findIdx?_eq_some_iff_getElem.mp f
    have there : S k = true := (G.mem k).mpr ⟨_, List.getElem_mem hj, pj⟩
    have same : (fun j => S j || decide (j = k)) = S := funext fun i => by
      by_cases e : i = k
      · rw [e, there]; rfl
      · rw [decide_eq_false e, Bool.or_false]
    have q := hQ false s.heap (Heap.SameBut.refl a s.heap) ⟨o, es, ep, t, ho, ex, hd, same.symm ▸ G, by rw [if_pos there]; exact hn⟩
    exact wpAny_pure (wpAny_pure q)
  | none =>
    have new : ∀ e ∈ es.toList, (PySem.strKind P w).is k e.2 = false := fun e he => by simpa using List.findIdx?_eq_none_iff.mp f e he
    have gone : ¬ S k = true := fun z => by
      obtain ⟨e, he, q⟩ := (G.mem k).mp z
      rw [new e he] at q
      cases q
    have way : ∀ (b : Bool) (s₁ : Shared) (Q' : Unit → Shared → Prop), Q' () s₁ → wpAny (model P w) A (match b with | true => rule "set.scan.the-table-gave-way" | false => pure ()) Q' E s₁ := fun b s₁ Q' q => by
      cases b
      · exact wpAny_pure q
      · exact wpAny_rule q
    obtain ⟨G1, z1⟩ := G.lay k tk new (by omega)
    generalize layNew t es ((PySem.strKind P w).hash k) (.str k tk) = Z at G1 z1
    obtain ⟨es1, t1, was, gave⟩ := Z
    have last : ∀ h', Heap.SameBut a s.heap h' → TxtSet P w h' a (fun j => S j || decide (j = k)) es1.size → Q true { s with heap := h' } := fun h' sb r => by
      refine hQ true h' sb ?_
      rw [if_neg gone, ← hn]
      have z : es1.size = es.size + 1 := z1
      rw [z] at r
      exact r
    dsimp only
    refine wpAny_bind (way _ _ _ ?_)
    split
    · refine wpAny_bind ?_
      rw [hashByValue_scannable 8 sc]
      refine wpAny_pure ?_
      refine put_tail way ho ex hd (t1 := _) ?_ (fun h' sb r => wpAny_pure (last h' sb r))
      first | exact G1 | exact G1.plain | (split <;> first | exact G1 | exact G1.plain)
    · refine wpAny_bind (wpAny_pure ?_)
      simp only [↓reduceIte]
      exact put_tail way ho ex hd G1 (fun h' sb r => wpAny_pure (last h' sb r))

/-- what one gets of texts, one behind the other -/
def among (xs : List Str) (i : Nat) : Str → Bool := fun k => decide (k ∈ xs.take i)
theorem among_step {xs : List Str} {i : Nat} {x : Str} (h : xs[i]? = some x) : (fun j => among xs i j || decide (j = x)) = among xs (i + 1) := funext fun j => by
  unfold among
  rw [List.take_add_one, h]
  by_cases a : j ∈ xs.take i
  · simp [a]
  · simp [a]
theorem empty_set {h : Heap} {b : Addr} (ho : h.get? b = some { cls := .type "set", dict := none, data := .set #[] 0 (.fresh 0 0 (!w.params.followText "set-order")) }) : TxtSet P w h b (fun _ => false) 0 := by
  refine ⟨_, _, _, _, ho, ⟨rfl, rfl, rfl⟩, rfl, ⟨fun e he => by simp at he, by simp, fun k => by simp, by decide, rfl, List.Pairwise.nil, ?_⟩, rfl⟩
  cases q : w.params.followText "set-order"
  · exact .inr rfl
  · exact .inl rfl
/-- the loop that puts all items in -/
theorem fill {I : Addr} {fp wr : List Addr} {G : Array GenState → Array GenState → Prop} {n : Nat} {Pv : Nat → Value → Prop} {St : Nat → Shared → Prop} {R : Result → Shared → Prop} (W : WalksS P w A.in1 I fp wr G n Pv St) (D : Addr) (hD : D ∉ fp) (xs : List Str)
    (hn : xs.length = n) (few : n + 1 < scanBound) (val : ∀ i v, Pv i v → ∃ x t, xs[i]? = some x ∧ v = .str x t) : ∀ (left i c : Nat) (s : Shared), n - i = left → i ≤ n → c ≤ i → St i s → TxtSet P w s.heap D (among xs i) c →
      (∀ s' c', Moved (D :: wr) G s s' → TxtSet P w s'.heap D (among xs n) c' → c' ≤ n → R (.ok (.ret .none)) s') → codeAny (model P w) A (.builtin "set.update.loop" ⟨[.ref D, .ref I], []⟩) R s := by
  have hDw : D ∉ wr := fun h => hD (W.sub _ h)
  have up : ∀ b ∈ wr, b ∈ D :: wr := fun b hb => List.mem_cons_of_mem _ hb
  intro left
  induction left with
  | zero =>
    intro i c s hl hi hc hst T hR
    obtain rfl : i = n := by omega
    refine codeAny_builtin PyProof.Rows.F.entry_set_update_loop ?_
    rw [Around.under_plainId PyProof.Rows.F.plain_set_update_loop _]
    show wpAny _ A.in1 (pyNext (.ref I) >>= _) _ _ s
    refine wpAny_bind (W.done s _ _ hst fun s' hm => ?_)
    show wpAny _ A.in1 (ret Value.none) _ _ s'
    exact wpAny_pure (hR s' c (hm.mono up) (T.at fun o e => hm.heap D o hDw e) hc)
  | succ left ih =>
    intro i c s hl hi hc hst T hR
    have lt : i < n := by omega
    refine codeAny_builtin PyProof.Rows.F.entry_set_update_loop ?_
    rw [Around.under_plainId PyProof.Rows.F.plain_set_update_loop _]
    show wpAny _ A.in1 (pyNext (.ref I) >>= _) _ _ s
    refine wpAny_bind (W.item i s _ _ lt hst fun v s' hP hst' hm => ?_)
    obtain ⟨x, t, hx, rfl⟩ := val i v hP
    have T' : TxtSet P w s'.heap D (among xs i) c := T.at fun o e => hm.heap D o hDw e
    show wpAny _ A.in1 (holding [Value.str x t] (setAdd D (.str x t)) >>= _) _ _ s'
    refine wpAny_bind (wpAny_holding ?_)
    unfold setAdd
    have isx : (PySem.strKind P w).is x (.str x t) = true := by simp [PySem.strKind, Value.isStrOf]
    refine wpAny_holding (wpAny_bind ((PySem.strKind P w).pyHash isx ?_))
    refine put_text (s := { s' with toks := s'.toks + 1 }) T' (by omega) fun b h' sb T2 => ?_
    rw [among_step hx] at T2
    have c2 : (if among xs i x = true then c else c + 1) ≤ i + 1 := by split <;> omega
    refine wpAny_pure ⟨plainId_quiet PyProof.Rows.F.plain_set_update_loop _, ih (i + 1) _ _ (by omega) lt c2 (W.frame _ s' _ _ hst' (Nat.le_succ _) fun b hb o e => ?_) T2 fun s'' c'' hm'' T'' hc'' => ?_⟩
    · rw [sb.2 b fun z : b = D => hD (z ▸ hb)]
      exact e
    · refine hR s'' c'' (Moved.trans W.gtrans ((hm.mono up).then_heap (Nat.le_succ _) fun b o hb e => ?_) hm'') T'' hc''
      rw [sb.2 b fun z : b = D => hb (z ▸ List.mem_cons_self)]
      exact e
theorem strs_get : ∀ {us : List Value} {xs : List Str}, StrsAre us xs → ∀ (i : Nat) (v : Value), us[i]? = some v → ∃ x t, xs[i]? = some x ∧ v = .str x t
  | _, _, .nil, _, _, h => by simp at h
  | _, _, .cons x t _, 0, v, h => ⟨x, t, rfl, by simpa using h.symm⟩
  | _, _, .cons _ _ r, i + 1, v, h => strs_get r i v (by simpa using h)

set_option maxHeartbeats 8000000 in
/-- set(list) -/
theorem set_of_list {l : Addr} {items : Array Value} {xs : List Str} {Q : Value → Shared → Prop} (hh : A.handled = none) (hl : s.heap.IsList l items) (hi : StrsAre items.toList xs) (few : xs.length + 1 < scanBound)
    (hQ : ∀ (h' : Heap) (tk c : Nat), TxtSet P w h' s.heap.objs.size (among xs xs.length) c → c ≤ xs.length → (∀ b o, s.heap.get? b = some o → h'.get? b = some o) → Q (.ref s.heap.objs.size) { s with heap := h', toks := tk }) :
    wpAny (model P w) A (call (.type "set") [.ref l]) Q E s := by
  have hz : xs.length = items.size := by rw [← StrsAre.len_eq hi, Array.length_toList]
  obtain ⟨c, tl, hmro⟩ := PySem.F.called_set.mro
  have made := PySem.F.called_set.made
  have subs := PySem.F.called_set.sub
  refine wpAny_call (codeAny_of_tree ?_)
  show wpAny _ _ (callAny (.type "set") _) _ _ _
  refine wpAny_pure ⟨Code.quiet_builtin _ (by decide +kernel), codeAny_builtin PySem.F.entry_type_call ?_⟩
  rw [Around.under_plain (weight_type_call_type "set" [.ref l] []) rfl]
  have k1 := PySem.F.called_set.notType
  have k2 := PySem.F.called_set.canCreate
  have k3 := PySem.F.typeCall_set_1 (.ref l)
  repeat (any_goals (first | assumption | wp_step))
  refine codeAny_mono (code_set_led1 (.ref l) (E := E) (Q₁ := fun obj s₁ => obj = .ref s.heap.objs.size ∧ s₁ = { s with heap := s.heap.push { cls := .type "set", dict := none, data := .set #[] 0 (.fresh 0 0 (!w.params.followText "set-order")) } }) ⟨rfl, rfl⟩) fun r s₁ hr => ?_
  match r, hr with
  | .error _, hr => exact hr
  | .ok .next, hr => exact hr.elim
  | .ok .brk, hr => exact hr.elim
  | .ok .cont, hr => exact hr.elim
  | .ok (.ret obj), hr =>
    obtain ⟨rfl, rfl⟩ := hr
    have hS : (s.heap.push { cls := .type "set", dict := none, data := .set #[] 0 (.fresh 0 0 (!w.params.followText "set-order")) }).get? s.heap.objs.size = some { cls := .type "set", dict := none, data := .set #[] 0 (.fresh 0 0 (!w.params.followText "set-order")) } := Heap.get?_push_size _ rfl
    have hT : Shared.TypeIs { s with heap := s.heap.push { cls := .type "set", dict := none, data := .set #[] 0 (.fresh 0 0 (!w.params.followText "set-order")) } } (.ref s.heap.objs.size) "set" := ⟨_, hS, rfl⟩
    have k4 := PySem.F.called_set.init.lookup
    have k5 := PySem.F.called_set.init.bind (.ref s.heap.objs.size)
    repeat (any_goals (first | assumption | wp_step))
    refine codeAny_mono (codeAny_call_builtin (R := wants (fun r s₂ => r = .none ∧ ∃ h' tk c, s₂ = { s with heap := h', toks := tk } ∧ TxtSet P w h' s.heap.objs.size (among xs xs.length) c ∧ c ≤ xs.length ∧ (∀ b o, s.heap.get? b = some o → h'.get? b = some o)) E)
      PySem.F.called_set.init.plain PySem.F.entry_set_init (check_set_init_1 hT ?_)) fun r₂ s₂ hr₂ => ?_
    · obtain ⟨⟨ocls, odict, odata, oslots⟩, hol, hcl, nl, hdl⟩ := hl
      simp only at hcl hdl
      subst hcl
      subst hdl
      have hol' : (s.heap.push { cls := .type "set", dict := none, data := .set #[] 0 (.fresh 0 0 (!w.params.followText "set-order")) }).get? l = some { cls := .type "list", dict := odict, data := .seq items nl, slots := oslots } := Heap.get?_push_of_some _ hol
      have k6 := PySem.F.sub_list_set
      have k7 := PySem.F.sub_list_frozenset
      have k8 : (Value.type "list" == Value.type "dict") = false := by decide
      have hl1 : (s.heap.push { cls := .type "set", dict := none, data := .set #[] 0 (.fresh 0 0 (!w.params.followText "set-order")) }).IsList l items := ⟨_, hol', rfl, nl, rfl⟩
      unfold Builtin.«set.__init__» noKeywords Builtin.Frozenset.updateFrom
      generalize hPI : pyIter = PI
      wp_walk
      subst hPI
      refine wpAny_pyIter_list hl1 (wpAny_bind (wpAny_runValue ?_))
      have lS : l < s.heap.objs.size := Heap.lt_size hol
      have lI : l ≠ (s.heap.push { cls := .type "set", dict := none, data := .set #[] 0 (.fresh 0 0 (!w.params.followText "set-order")) }).objs.size := by
        rw [Heap.size_push]
        exact Nat.ne_of_lt (Nat.lt_succ_of_lt lS)
      have nS : s.heap.objs.size ∉ [(s.heap.push { cls := .type "set", dict := none, data := .set #[] 0 (.fresh 0 0 (!w.params.followText "set-order")) }).objs.size, l] := by
        rw [Heap.size_push]
        simp only [List.mem_cons, List.not_mem_nil, or_false, not_or]
        exact ⟨Nat.ne_of_lt (Nat.lt_succ_self _), Nat.ne_of_gt lS⟩
      refine fill ((Walks.list (by simp [hh]) _ l lI items).toS) s.heap.objs.size nS xs hz (by omega) (fun i v hv => strs_get hi i v (by rw [Array.getElem?_toList]; exact hv)) (items.size - 0) 0 0 _ rfl (Nat.zero_le _) (Nat.le_refl _) ⟨⟨_, Heap.get?_push_size _ rfl, rfl, rfl⟩, (hl1.push _)⟩ ?e0 ?e1
      case e0 =>
        have e : among xs 0 = fun _ => false := funext fun k => by simp [among]
        rw [e]
        exact empty_set (Heap.get?_push_of_some _ hS)
      case e1 =>
        intro s' c' hm T hc
        obtain ⟨h', g2, d', tk', os'⟩ := s'
        have eg : g2 = s.gens := hm.gens
        have ed : d' = s.drawn := hm.drawn
        have eo : os' = s.os := hm.os
        subst eg
        subst ed
        subst eo
        show wpAny _ _ _ _ _ _
        refine wpAny_pure ?_
        show wpAny _ _ (ret Value.none) _ _ _
        rw [← hz] at T hc
        refine wpAny_pure ⟨rfl, h', tk', c', rfl, T, hc, fun b o e => hm.heap b o ?_ (Heap.get?_push_of_some _ (Heap.get?_push_of_some _ e))⟩
        have lb : b < s.heap.objs.size := Heap.lt_size e
        rw [Heap.size_push]
        simp only [List.mem_cons, List.not_mem_nil, or_false, not_or]
        exact ⟨Nat.ne_of_lt lb, Nat.ne_of_lt (Nat.lt_succ_of_lt lb)⟩
    · match r₂, hr₂ with
      | .error _, hr₂ => exact hr₂
      | .ok .next, hr₂ => exact hr₂.elim
      | .ok .brk, hr₂ => exact hr₂.elim
      | .ok .cont, hr₂ => exact hr₂.elim
      | .ok (.ret r), hr₂ =>
        obtain ⟨rfl, h', tk, c', rfl, T, hc, hk⟩ := hr₂
        repeat (any_goals (first | assumption | wp_step))
        exact hQ _ _ _ T hc hk

set_option maxHeartbeats 8000000 in
/-- set(tuple) -/
theorem set_of_tuple {l : Addr} {items : Array Value} {xs : List Str} {Q : Value → Shared → Prop} (hh : A.handled = none) (hl : s.heap.IsTuple l items) (hi : StrsAre items.toList xs) (few : xs.length + 1 < scanBound)
    (hQ : ∀ (h' : Heap) (tk c : Nat), TxtSet P w h' s.heap.objs.size (among xs xs.length) c → c ≤ xs.length → (∀ b o, s.heap.get? b = some o → h'.get? b = some o) → Q (.ref s.heap.objs.size) { s with heap := h', toks := tk }) :
    wpAny (model P w) A (call (.type "set") [.ref l]) Q E s := by
  have hz : xs.length = items.size := by rw [← StrsAre.len_eq hi, Array.length_toList]
  obtain ⟨c, tl, hmro⟩ := PySem.F.called_set.mro
  have made := PySem.F.called_set.made
  have subs := PySem.F.called_set.sub
  refine wpAny_call (codeAny_of_tree ?_)
  show wpAny _ _ (callAny (.type "set") _) _ _ _
  refine wpAny_pure ⟨Code.quiet_builtin _ (by decide +kernel), codeAny_builtin PySem.F.entry_type_call ?_⟩
  rw [Around.under_plain (weight_type_call_type "set" [.ref l] []) rfl]
  have k1 := PySem.F.called_set.notType
  have k2 := PySem.F.called_set.canCreate
  have k3 := PySem.F.typeCall_set_1 (.ref l)
  repeat (any_goals (first | assumption | wp_step))
  refine codeAny_mono (code_set_led1 (.ref l) (E := E) (Q₁ := fun obj s₁ => obj = .ref s.heap.objs.size ∧ s₁ = { s with heap := s.heap.push { cls := .type "set", dict := none, data := .set #[] 0 (.fresh 0 0 (!w.params.followText "set-order")) } }) ⟨rfl, rfl⟩) fun r s₁ hr => ?_
  match r, hr with
  | .error _, hr => exact hr
  | .ok .next, hr => exact hr.elim
  | .ok .brk, hr => exact hr.elim
  | .ok .cont, hr => exact hr.elim
  | .ok (.ret obj), hr =>
    obtain ⟨rfl, rfl⟩ := hr
    have hS : (s.heap.push { cls := .type "set", dict := none, data := .set #[] 0 (.fresh 0 0 (!w.params.followText "set-order")) }).get? s.heap.objs.size = some { cls := .type "set", dict := none, data := .set #[] 0 (.fresh 0 0 (!w.params.followText "set-order")) } := Heap.get?_push_size _ rfl
    have hT : Shared.TypeIs { s with heap := s.heap.push { cls := .type "set", dict := none, data := .set #[] 0 (.fresh 0 0 (!w.params.followText "set-order")) } } (.ref s.heap.objs.size) "set" := ⟨_, hS, rfl⟩
    have k4 := PySem.F.called_set.init.lookup
    have k5 := PySem.F.called_set.init.bind (.ref s.heap.objs.size)
    repeat (any_goals (first | assumption | wp_step))
    refine codeAny_mono (codeAny_call_builtin (R := wants (fun r s₂ => r = .none ∧ ∃ h' tk c, s₂ = { s with heap := h', toks := tk } ∧ TxtSet P w h' s.heap.objs.size (among xs xs.length) c ∧ c ≤ xs.length ∧ (∀ b o, s.heap.get? b = some o → h'.get? b = some o)) E)
      PySem.F.called_set.init.plain PySem.F.entry_set_init (check_set_init_1 hT ?_)) fun r₂ s₂ hr₂ => ?_
    · obtain ⟨⟨ocls, odict, odata, oslots⟩, hol, hcl, nl, hdl⟩ := hl
      simp only at hcl hdl
      subst hcl
      subst hdl
      have hol' : (s.heap.push { cls := .type "set", dict := none, data := .set #[] 0 (.fresh 0 0 (!w.params.followText "set-order")) }).get? l = some { cls := .type "tuple", dict := odict, data := .seq items nl, slots := oslots } := Heap.get?_push_of_some _ hol
      have k6 := PySem.F.sub_tuple_set
      have k7 := PySem.F.sub_tuple_frozenset
      have k8 : (Value.type "tuple" == Value.type "dict") = false := by decide
      have hl1 : (s.heap.push { cls := .type "set", dict := none, data := .set #[] 0 (.fresh 0 0 (!w.params.followText "set-order")) }).IsTuple l items := ⟨_, hol', rfl, nl, rfl⟩
      unfold Builtin.«set.__init__» noKeywords Builtin.Frozenset.updateFrom
      generalize hPI : pyIter = PI
      wp_walk
      subst hPI
      refine wpAny_pyIter_tuple hl1 (wpAny_bind (wpAny_runValue ?_))
      have lS : l < s.heap.objs.size := Heap.lt_size hol
      have lI : l ≠ (s.heap.push { cls := .type "set", dict := none, data := .set #[] 0 (.fresh 0 0 (!w.params.followText "set-order")) }).objs.size := by
        rw [Heap.size_push]
        exact Nat.ne_of_lt (Nat.lt_succ_of_lt lS)
      have nS : s.heap.objs.size ∉ [(s.heap.push { cls := .type "set", dict := none, data := .set #[] 0 (.fresh 0 0 (!w.params.followText "set-order")) }).objs.size, l] := by
        rw [Heap.size_push]
        simp only [List.mem_cons, List.not_mem_nil, or_false, not_or]
        exact ⟨Nat.ne_of_lt (Nat.lt_succ_self _), Nat.ne_of_gt lS⟩
      refine fill ((Walks.tuple (by simp [hh]) _ l lI items).toS) s.heap.objs.size nS xs hz (by omega) (fun i v hv => strs_get hi i v (by rw [Array.getElem?_toList]; exact hv)) (items.size - 0) 0 0 _ rfl (Nat.zero_le _) (Nat.le_refl _) ⟨⟨_, Heap.get?_push_size _ rfl, rfl, rfl⟩, (hl1.push _)⟩ ?e0 ?e1
      case e0 =>
        have e : among xs 0 = fun _ => false := funext fun k => by simp [among]
        rw [e]
        exact empty_set (Heap.get?_push_of_some _ hS)
      case e1 =>
        intro s' c' hm T hc
        obtain ⟨h', g2, d', tk', os'⟩ := s'
        have eg : g2 = s.gens := hm.gens
        have ed : d' = s.drawn := hm.drawn
        have eo : os' = s.os := hm.os
        subst eg
        subst ed
        subst eo
        show wpAny _ _ _ _ _ _
        refine wpAny_pure ?_
        show wpAny _ _ (ret Value.none) _ _ _
        rw [← hz] at T hc
        refine wpAny_pure ⟨rfl, h', tk', c', rfl, T, hc, fun b o e => hm.heap b o ?_ (Heap.get?_push_of_some _ (Heap.get?_push_of_some _ e))⟩
        have lb : b < s.heap.objs.size := Heap.lt_size e
        rw [Heap.size_push]
        simp only [List.mem_cons, List.not_mem_nil, or_false, not_or]
        exact ⟨Nat.ne_of_lt lb, Nat.ne_of_lt (Nat.lt_succ_of_lt lb)⟩
    · match r₂, hr₂ with
      | .error _, hr₂ => exact hr₂
      | .ok .next, hr₂ => exact hr₂.elim
      | .ok .brk, hr₂ => exact hr₂.elim
      | .ok .cont, hr₂ => exact hr₂.elim
      | .ok (.ret r), hr₂ =>
        obtain ⟨rfl, h', tk, c', rfl, T, hc, hk⟩ := hr₂
        repeat (any_goals (first | assumption | wp_step))
        exact hQ _ _ _ T hc hk
end
end Ts
set_option Elab.async false
set_option linter.all false
set_option autoImplicit false
set_option maxRecDepth 100000
set_option maxHeartbeats 4000000
namespace Ts
open PySem PySem.Spec PyProof.Rows L2 Vb
section
variable {P : Program} {w : World} {A : Around} {E : Value → Shared → Prop} {s : Shared} {a : Addr} {S : Str → Bool} {n : Nat}
theorem is_str {k : Str} {v : Value} : (PySem.strKind P w).is k v = true ↔ ∃ t, v = .str k t := by
  constructor
  · intro h
    exact Value.isStrOf_shape h
  · rintro ⟨t, rfl⟩
    simp [PySem.strKind, Value.isStrOf]
/-- the members as texts -/
theorem Good.texts {es : Array (Int × Value)} {t : SetTable} (G : Good P w S es t) {out : List Value} (pm : out.Perm (es.toList.map (·.2))) : StrsAre out (out.map PyProof.Rows.strOf) ∧ (out.map PyProof.Rows.strOf).Nodup ∧ ∀ k, k ∈ out.map PyProof.Rows.strOf ↔ S k = true := by
  have all : ∀ v ∈ out, ∃ x t, v = Value.str x t := fun v hv => by
    obtain ⟨e, he, rfl⟩ := List.mem_map.mp (pm.mem_iff.mp hv)
    obtain ⟨⟨k, hk, _⟩, _⟩ := G.el e he
    obtain ⟨t, q⟩ := is_str.mp hk
    exact ⟨k, t, q⟩
  refine ⟨strsAre_map out all, ?_, fun k => ?_⟩
  · have nd : ((es.toList.map (·.2)).map PyProof.Rows.strOf).Nodup := by
      rw [List.map_map]
      refine List.pairwise_map.mpr (G.ap.imp_of_mem fun {e e'} he he' h q => ?_)
      obtain ⟨⟨k, hk, _⟩, _⟩ := G.el e he
      obtain ⟨⟨k', hk', _⟩, _⟩ := G.el e' he'
      obtain ⟨t, q1⟩ := is_str.mp hk
      obtain ⟨t', q2⟩ := is_str.mp hk'
      have e1 : k = k' := by
        have q' : PyProof.Rows.strOf e.2 = PyProof.Rows.strOf e'.2 := q
        rw [q1, q2] at q'
        exact q'
      have := h k hk
      rw [e1, hk'] at this
      cases this
    exact (pm.map PyProof.Rows.strOf).nodup_iff.mpr nd
  · rw [(pm.map PyProof.Rows.strOf).mem_iff, G.mem k]
    constructor
    · intro h
      obtain ⟨v, hv, q⟩ := List.mem_map.mp h
      obtain ⟨e, he, rfl⟩ := List.mem_map.mp hv
      obtain ⟨⟨k', hk', _⟩, _⟩ := G.el e he
      obtain ⟨t', q2⟩ := is_str.mp hk'
      rw [q2] at q
      have q' : k' = k := q
      subst q'
      exact ⟨e, he, hk'⟩
    · rintro ⟨e, he, hk⟩
      obtain ⟨t, q⟩ := is_str.mp hk
      exact List.mem_map.mpr ⟨e.2, List.mem_map.mpr ⟨e, he, rfl⟩, by rw [q]; rfl⟩
theorem sorted_texts {Q : Value → Shared → Prop} (T : TxtSet P w s.heap a S n) (hh : A.handled = none) (h64 : n < 64)
    (hQ : ∀ s' p (out : Array Value) (c : Nat) (ks : List Str), (∀ b o, s.heap.get? b = some o → s'.heap.get? b = some o) → s'.gens = s.gens → s'.os = s.os → s.heap.objs.size ≤ p → s'.heap.get? p = some (seqObj "list" out c) → StrsAre out.toList ks →
      sortedS ks = true → ks.Nodup → (∀ k, k ∈ ks ↔ S k = true) → ks.length = n → Q (.ref p) s') : wpAny (model P w) A (call (.builtin "sorted") [.ref a]) Q E s := by
  obtain ⟨o, es, ep, t, ho, ex, hd, G, hn⟩ := T
  refine Calls.call_function_entry kind_sorted plain_sorted entry_sorted (args_sorted1 _) ?_
  unfold Builtin.«sorted»
  refine wpAny_bind (m := checkCount "sorted" 1 1 _) (wpAny_pure ?_)
  refine wpAny_bind (collect_set (A := A.in1) hh ⟨o, ho, ex.1, hd⟩ G.fit G.few G.ris G.led fun s1 vs k1 hz g1 o1 pm => ?_)
  obtain ⟨hS, nd, mem⟩ := G.texts pm
  have hvl : vs.length = n := by
    have : vs.length = es.size := by simpa using pm.length_eq
    rw [this, hn]
  refine wpAny_bind (wpAny_newList ?_ (by rw [hvl, sizeLine_eq]; omega))
  have hoL : (s1.heap.push (seqObj "list" vs.toArray 0)).get? s1.heap.objs.size = some (seqObj "list" vs.toArray 0) := Heap.get?_push_size _ rfl
  refine wpAny_bind (wpAny_holding (wpAny_call_entry slot_list_sort ⟨_, hoL, rfl⟩ entry_list_sort
    (list_sort_treeK strKind_oneLt hoL hS.keysOf (fun v₁ v₂ rest e => keyKind_strs (by rw [← e]; exact hS)) (by rw [hvl]; exact h64) fun st' hp hs => ⟨_, rfl, ?_⟩) (args_list_sort _)))
  obtain ⟨ks, q1, q2, q3⟩ := sorted_out_str hS hp hs
  obtain ⟨c, hc⟩ := sortedHeap_at (vs := vs) (out := (arrOf st').map (·.2)) hoL
  refine wpAny_pure ⟨_, rfl, hQ _ s1.heap.objs.size _ c ks (fun b u e => ?_) g1 o1 hz hc q1 q3 (q2.nodup_iff.mpr nd) (fun k => q2.mem_iff.trans (mem k)) ?_⟩
  · have lt := Heap.lt_size (k1 b u e)
    have old := sortedHeap_old (h := s1.heap.push (seqObj "list" vs.toArray 0)) (a := s1.heap.objs.size) (vs := vs) (out := (arrOf st').map (·.2)) (b := b) (Nat.ne_of_lt lt) (by rw [Heap.size_push]; exact Nat.lt_succ_of_lt lt)
    exact old.trans (Heap.get?_push_of_some _ (k1 b u e))
  · have := q2.length_eq
    rw [List.length_map] at this
    omega
end
/-- a set of texts, as what stands at a -/
def TsO (P : Program) (w : World) (a : Addr) (S : Str → Bool) (n : Nat) : HO := .ext fun h => TxtSet P w h a S n
section
variable {X : Cx}
def rSetTexts (K : PySem.W.Frag) (P : Program) (w : World) : List V → Hp → VK → Prop := fun xs H Q => ∃ (l : Addr) (ys : List Str), xs = [.ref l] ∧ (SqL K H l (ys.map V.str) ∨ SqT K H l (ys.map V.str)) ∧ ys.length ≤ 1000 ∧
  ∀ a c, H a = none → c ≤ ys.length → Q (.ref a) (upd H a (TsO P w a (among ys ys.length) c))
theorem cr_setTexts (hc : X.calm = true) : CallR X (.type "set") (rSetTexts X.K X.prog X.w) := by
  intro pins s σ H xs us Q I r h
  obtain ⟨l, ys, rfl, hs, hl, q⟩ := h
  rw [Vals.ref1 r]
  have few : ys.length + 1 < scanBound := Nat.lt_of_le_of_lt (Nat.succ_le_succ hl) (by decide)
  have fin : ∀ (h' : Heap) (tk c : Nat), TxtSet X.prog X.w h' s.heap.objs.size (among ys ys.length) c → c ≤ ys.length → (∀ b o, s.heap.get? b = some o → h'.get? b = some o) → EP X pins σ Q (.ref s.heap.objs.size) { s with heap := h', toks := tk } := fun h' tk c T hc k =>
    ⟨.ref s.heap.objs.size, upd H s.heap.objs.size (TsO X.prog X.w s.heap.objs.size (among ys ys.length) c), I.laid (t' := tk) k (Nat.le_refl _) ⟨T, (let ⟨o, _, _, _, e, _⟩ := T; ⟨o, e⟩), fun h1 h2 t k => t.at k⟩, rfl, q _ c (I.hok.fresh (Nat.le_refl _)) hc⟩
  rcases hs with hs | hs
  · obtain ⟨its, rv, pl, _⟩ := I.list hs
    exact set_of_list (P := X.prog) (w := X.w) (I.ok.hd hc) pl.isList (by simpa using rv.strs) few fin
  · obtain ⟨its, rv, pl, _⟩ := I.tuple hs
    exact set_of_tuple (P := X.prog) (w := X.w) (I.ok.hd hc) pl (by simpa using rv.strs) few fin
def rSortTexts (P : Program) (w : World) : List V → Hp → VK → Prop := fun vs H Q => ∃ (a : Addr) (ys : List Str) (c : Nat), vs = [.ref a] ∧ H a = some (TsO P w a (among ys ys.length) c) ∧ c < 64 ∧
  ∀ (zs : List Str) (p : Addr), (∀ k, k ∈ zs ↔ k ∈ ys) → sortedS zs = true → zs.Nodup → zs.length = c → H p = none → Q (.ref p) (upd H p (.lst (zs.map V.str)))
theorem cr_sortTexts (hc : X.calm = true) : CallR X (.builtin "sorted") (rSortTexts X.prog X.w) := by
  intro pins s σ H vs us Q I r h
  obtain ⟨a, ys, c, rfl, ha, h64, q⟩ := h
  have T : TxtSet X.prog X.w s.heap a (among ys ys.length) c := (I.hok a _ ha).1
  rw [Vals.ref1 r]
  refine sorted_texts T (I.ok.hd hc) h64 fun s' p out cc zs k g o hp hg hS hs nd mem hl => ?_
  have new : H p = none := I.hok.fresh hp
  have len : (zs.map V.str).length ≤ sizeLine := by
    rw [List.length_map, hl]
    exact Nat.le_trans (Nat.le_of_lt h64) (by decide)
  have J : Inv X pins σ (upd H p (.lst (zs.map V.str))) { s with heap := s'.heap, gens := s'.gens, drawn := s'.drawn, toks := s'.toks } :=
    I.call (ch := []) (Un.laid k hp new) (I.hok.laid k hp ⟨len, out.toList, cc, vals_of_strs hS, hg⟩) (by rw [g]; exact I.bare) (fun _ z => nomatch z)
  have e : s' = { s with heap := s'.heap, gens := s'.gens, drawn := s'.drawn, toks := s'.toks } := by
    cases s'
    cases s
    cases o
    rfl
  rw [e]
  refine ⟨.ref p, _, J, rfl, q zs p (fun k => ?_) hs nd hl new⟩
  rw [mem k]
  show decide (k ∈ ys.take ys.length) = true ↔ _
  rw [List.take_length]
  exact decide_eq_true_iff
end
end Ts
set_option Elab.async false
set_option linter.all false
set_option autoImplicit false
set_option maxRecDepth 100000
set_option maxHeartbeats 4000000
namespace K01
open PySem PySem.Spec PyProof.Rows L2 Vb Wd
/-! ### the order of texts -/
abbrev Lt (a b : Str) : Prop := a.cps.toList < b.cps.toList
theorem lt_tr {a b c : Str} (h : Lt a b) (k : Lt b c) : Lt a c := List.lt_trans h k
theorem lt_ir (a : Str) : ¬ Lt a a := List.lt_irrefl _
theorem lt_tri {a b : Str} (h : ¬ Lt a b) (k : ¬ Lt b a) : a = b := by
  have e : a.cps.toList = b.cps.toList := List.le_antisymm (List.not_lt.mp k) (List.not_lt.mp h)
  obtain ⟨x⟩ := a
  obtain ⟨y⟩ := b
  obtain ⟨x⟩ := x
  obtain ⟨y⟩ := y
  cases (show x = y from e)
  rfl
/-- each is less than the next -/
def asc : List Str → Bool
  | x :: y :: r => decide (Lt x y) && asc (y :: r)
  | _ => true
theorem asc_pair : ∀ {l : List Str}, asc l = true → l.Pairwise Lt
  | [], _ => .nil
  | [x], _ => List.pairwise_singleton _ _
  | x :: y :: r, h => by
    obtain ⟨h1, h2⟩ := Bool.and_eq_true_iff.mp (show (decide (Lt x y) && asc (y :: r)) = true from h)
    have ih := asc_pair (l := y :: r) h2
    refine List.pairwise_cons.mpr ⟨fun z hz => ?_, ih⟩
    rcases List.mem_cons.mp hz with rfl | hz
    · exact of_decide_eq_true h1
    · exact lt_tr (of_decide_eq_true h1) ((List.pairwise_cons.mp ih).1 z hz)
theorem pair_asc : ∀ {l : List Str}, l.Pairwise Lt → asc l = true
  | [], _ => rfl
  | [x], _ => rfl
  | x :: y :: r, h => by
    obtain ⟨h1, h2⟩ := List.pairwise_cons.mp h
    show (decide (Lt x y) && asc (y :: r)) = true
    rw [pair_asc h2, decide_eq_true (h1 y List.mem_cons_self)]
    rfl
theorem rising_pair : ∀ {l : List Str} {p : Str}, risingS p l = true → (p :: l).Nodup → (p :: l).Pairwise Lt
  | [], p, _, _ => List.pairwise_singleton _ _
  | x :: r, p, h, nd => by
    obtain ⟨h1, h2⟩ := Bool.and_eq_true_iff.mp (show (!ltCps x.cps.toList p.cps.toList && risingS x r) = true from h)
    obtain ⟨n1, n2⟩ := List.nodup_cons.mp nd
    have ih := rising_pair h2 n2
    have px : Lt p x := by
      rw [ltCps_eq] at h1
      have nx : ¬ Lt x p := by simpa using h1
      refine Classical.byContradiction fun np => ?_
      exact n1 (lt_tri np nx ▸ List.mem_cons_self)
    refine List.pairwise_cons.mpr ⟨fun z hz => ?_, ih⟩
    rcases List.mem_cons.mp hz with rfl | hz
    · exact px
    · exact lt_tr px ((List.pairwise_cons.mp ih).1 z hz)
theorem sorted_pair {l : List Str} (h : sortedS l = true) (nd : l.Nodup) : l.Pairwise Lt := by
  cases l with
  | nil => exact .nil
  | cons x r => exact rising_pair h nd
theorem pair_uniq : ∀ {l m : List Str}, l.Pairwise Lt → m.Pairwise Lt → (∀ k, k ∈ l ↔ k ∈ m) → l = m
  | [], [], _, _, _ => rfl
  | [], y :: _, _, _, h => nomatch (h y).mpr List.mem_cons_self
  | x :: _, [], _, _, h => nomatch (h x).mp List.mem_cons_self
  | x :: l, y :: m, pl, pm, h => by
    obtain ⟨l1, l2⟩ := List.pairwise_cons.mp pl
    obtain ⟨m1, m2⟩ := List.pairwise_cons.mp pm
    have xy : x = y := by
      rcases List.mem_cons.mp ((h x).mp List.mem_cons_self) with e | hx
      · exact e
      · rcases List.mem_cons.mp ((h y).mpr List.mem_cons_self) with e | hy
        · exact e.symm
        · exact absurd (lt_tr (l1 y hy) (m1 x hx)) (lt_ir x)
    subst xy
    have rest : l = m := pair_uniq l2 m2 fun k => by
      constructor
      · intro hk
        rcases List.mem_cons.mp ((h k).mp (List.mem_cons_of_mem _ hk)) with e | hk'
        · exact absurd (e ▸ l1 k hk) (lt_ir x)
        · exact hk'
      · intro hk
        rcases List.mem_cons.mp ((h k).mpr (List.mem_cons_of_mem _ hk)) with e | hk'
        · exact absurd (e ▸ m1 k hk) (lt_ir x)
        · exact hk'
    rw [rest]
/-- a list is its members in order just if each is less than the next -/
theorem eq_sorted {ys zs : List Str} (mem : ∀ k, k ∈ zs ↔ k ∈ ys) (srt : sortedS zs = true) (nd : zs.Nodup) : decide (ys = zs) = asc ys := by
  have pz := sorted_pair srt nd
  cases h : asc ys with
  | true => exact decide_eq_true (pair_uniq (asc_pair h) pz fun k => (mem k).symm)
  | false =>
    refine decide_eq_false fun e => ?_
    rw [e, pair_asc pz] at h
    cases h
theorem eqv_strs : ∀ ys zs : List Str, PyData.eqvAll (ys.map PyData.str) (zs.map PyData.str) = decide (ys = zs)
  | [], [] => rfl
  | [], z :: zs => by simp [PyData.eqvAll]
  | y :: ys, [] => by simp [PyData.eqvAll]
  | y :: ys, z :: zs => by
    show (PyData.eqv (.str y) (.str z) && PyData.eqvAll (ys.map PyData.str) (zs.map PyData.str)) = _
    rw [eqv_strs ys zs]
    by_cases e : y = z
    · subst e
      by_cases e2 : ys = zs
      · subst e2; simp [PyData.eqv]
      · simp [PyData.eqv, e2]
    · simp [PyData.eqv, e]
theorem eqv_list (ys zs : List Str) : PyData.eqv (.list (ys.map PyData.str)) (.list (zs.map PyData.str)) = decide (ys = zs) := by
  rw [← eqv_strs]
  simp [PyData.eqv]
/-! ### the first unlike sign decides -/
theorem lt_at : ∀ {a b : List Nat} {i c d : Nat}, a.take i = b.take i → a[i]? = some c → b[i]? = some d → c ≠ d → decide (a < b) = decide (c < d)
  | [], _, _, _, _, _, h, _, _ => by simp at h
  | _, [], _, _, _, _, _, h, _ => by simp at h
  | x :: a, y :: b, 0, c, d, _, h, k, n => by
    have e1 : x = c := by simpa using h
    have e2 : y = d := by simpa using k
    subst e1
    subst e2
    apply decide_eq_decide.mpr
    constructor
    · intro l
      cases l with
      | rel h => exact h
      | cons h => exact absurd rfl n
    · exact fun l => .rel l
  | x :: a, y :: b, i + 1, c, d, t, h, k, n => by
    have e : x = y ∧ a.take i = b.take i := by simpa using t
    obtain ⟨rfl, t'⟩ := e
    rw [← lt_at t' (by simpa using h) (by simpa using k) n]
    apply decide_eq_decide.mpr
    constructor
    · intro l
      cases l with
      | rel h => exact absurd h (Nat.lt_irrefl _)
      | cons h => exact h
    · exact fun l => .cons l
theorem lt_end : ∀ {a b : List Nat}, a.take (min a.length b.length) = b.take (min a.length b.length) → decide (a < b) = decide (a.length < b.length)
  | [], [], _ => by decide
  | [], y :: b, _ => by
    rw [decide_eq_true (show ([] : List Nat) < y :: b from .nil)]
    exact (decide_eq_true (Nat.succ_pos _)).symm
  | x :: a, [], _ => by
    rw [decide_eq_false (fun l : x :: a < ([] : List Nat) => nomatch l)]
    exact (decide_eq_false (by simp)).symm
  | x :: a, y :: b, t => by
    have m : min (x :: a).length (y :: b).length = min a.length b.length + 1 := by simp only [List.length_cons]; omega
    rw [m] at t
    have e : x = y ∧ a.take (min a.length b.length) = b.take (min a.length b.length) := by simpa using t
    obtain ⟨rfl, t'⟩ := e
    have ih := lt_end t'
    have : decide (x :: a < x :: b) = decide (a < b) := by
      apply decide_eq_decide.mpr
      constructor
      · intro l
        cases l with
        | rel h => exact absurd h (Nat.lt_irrefl _)
        | cons h => exact h
      · exact fun l => .cons l
    rw [this, ih]
    apply decide_eq_decide.mpr
    simp
/-! ### the small letters by their places -/
def lettersT : Str := "abcdefghijklmnopqrstuvwxyz"
theorem letters_at : ∀ c, c < 128 → low c = true → ∃ r, Builtin.Str.occurrences lettersT ⟨#[c]⟩ 0 lettersT.length 1 = (c - 97) :: r := by
  have h : ∀ c, c < 128 → low c = true → Builtin.Str.occurrences lettersT ⟨#[c]⟩ 0 lettersT.length 1 = [c - 97] := by decide +kernel
  exact fun c h1 h2 => ⟨[], h c h1 h2⟩
end K01
set_option Elab.async false
set_option linter.all false
set_option autoImplicit false
set_option maxRecDepth 100000
set_option maxHeartbeats 4000000
namespace K04
open PySem PySem.Spec PyProof.Rows L2 Vb Wd Ts K01
abbrev s_is_names : Stmt := topS 8
theorem sc_is_names : FnScope ["value", "word"] ["value"] (defScope s_is_names) := ⟨rfl, rfl, rfl, by decide +kernel, rfl, by decide +kernel, by decide +kernel⟩
abbrev nam (y : Str) : Bool := isNam (.str y)
/-- a text as the laws make it -/
def Fine (y : Str) : Prop := y.length ≤ 1000 ∧ Asc y
/-- what is_names is asked of, and what it answers -/
def Asked (K : PySem.W.Frag) (H : Hp) (v : V) (b : Bool) : Prop :=
  (∃ a ys, v = .ref a ∧ H a = some (.tup (ys.map V.str)) ∧ (∀ y ∈ ys, Fine y) ∧ ys.length ≤ 63 ∧ b = (ys.all nam && asc ys)) ∨
  (∃ T, TyX K H v (.type T) ∧ kitB T "tuple" = some false ∧ b = false) ∨
  (∃ a xs, v = .ref a ∧ H a = some (.tup xs) ∧ (∀ x ∈ xs, Judged H x) ∧ xs.all isNam = false ∧ xs.length ≤ 63 ∧ b = false)
def spNames (K : PySem.W.Frag) : Sp := fun vs H Q _ => ∃ v b, vs = [v] ∧ Asked K H v b ∧ ∀ H', Same H H' → Q (.bl b) H'
theorem ki_tt : kitB "tuple" "tuple" = some true := by decide +kernel
theorem fine_judged {H : Hp} {y : Str} (h : Fine y) : Judged H (.str y) := h
section
variable {P : Program} {w : World} {K : PySem.W.Frag} {mg : Str → Option Value} {base : Heap}
theorem all_map (ys : List Str) : (ys.map V.str).all isNam = ys.all nam := by
  rw [List.all_map]
  rfl
theorem ok_is_names (D : Df K mg "is_names" s_is_names ["value"]) (G_is_name : Cg P w K mg base 1 "is_name" (spOf isNam)) (z_isinstance : mg "isinstance" = none) (z_tuple : mg "tuple" = none) (z_all : mg "all" = none) (z_list : mg "list" = none) (z_sorted : mg "sorted" = none) (z_set : mg "set" = none) :
    Cg P w K mg base 2 "is_names" (spNames K) := by
  refine D.ok sc_is_names (fun vs H Q E h => ?_) (fun cdv A outer s H vs Q E f hc hr h => ?_)
  · obtain ⟨v, b, rfl, _⟩ := h
    rfl
  · obtain ⟨v, b, rfl, ask, q⟩ := h
    refine ⟨_, (pss_cons (ps_if (PW.pt (pw_or (pt_not (pt_val (pe_callB call_isi (by rfl) z_isinstance (by decide +kernel) (pa_cons (pv 0) (pa_cons (pe_bltn (v := .ty "tuple") (by rfl) z_tuple (by decide +kernel) rfl) pa_nil)))))
        (pw_or1 (pt_not (pt_val (pe_callB (cr_all rfl) (by rfl) z_all (by decide +kernel) (pa_cons (pe_lc (own := [("word", 1)]) (g := gName 1) (by rfl) sc_is_names.nd (pi_tup (pv 0)) (blkOk_by (own := [("word", 1)]) (N := ["value", "word"]) (sc := defScope s_is_names) (by decide +kernel)) (fun _ _ _ _ _ => pg_name (i := 1) sc_is_names.nd rfl (Or.inl rfl)) (fun _ _ _ _ _ => pts_nil) (fun _ _ _ _ _ => (pe_cg G_is_name hc hr (by rfl) (pa_cons (pv 1) pa_nil)))) pa_nil)))))))
      (pss_one (ps_ret pe_bl))
      pss_nil)
      (pss_one (ps_ret (pe_cmpR (op_eqD hr.units) (pe_callTy call_list_of (by rfl) z_list (by decide +kernel) (pa_cons (pv 0) pa_nil)) (pe_callB (cr_sortTexts rfl) (by rfl) z_sorted (by decide +kernel) (pa_cons (pe_callTy (cr_setTexts rfl) (by rfl) z_set (by decide +kernel) (pa_cons (pv 0) pa_nil)) pa_nil)) (nomark _))))), ?_⟩
    -- a tuple of judged values, its names asked one by one
    have both : (∃ T, TyX K H v (.type T) ∧ kitB T "tuple" = some false ∧ b = false) ∨
        ∃ a xs, v = .ref a ∧ H a = some (.tup xs) ∧ (∀ x ∈ xs, Judged H x) ∧ xs.length ≤ 63 ∧ (xs.all isNam = false → b = false) ∧ (xs.all isNam = true → ∃ ys, xs = ys.map V.str ∧ (∀ y ∈ ys, Fine y) ∧ b = asc ys) := by
      rcases ask with ⟨a, ys, rfl, ha, fy, hl, rfl⟩ | h | ⟨a, xs, rfl, ha, hj, hF, hl, rfl⟩
      · refine .inr ⟨a, ys.map V.str, rfl, ha, fun x hx => ?_, by rw [List.length_map]; exact hl, fun f => ?_, fun t => ⟨ys, rfl, fy, ?_⟩⟩
        · obtain ⟨y, hy, rfl⟩ := List.mem_map.mp hx
          exact fine_judged (fy y hy)
        · rw [all_map] at f
          rw [f, Bool.false_and]
        · rw [all_map] at t
          rw [t, Bool.true_and]
      · exact .inl h
      · exact .inr ⟨a, xs, rfl, ha, hj, hl, fun _ => rfl, fun t => by rw [hF] at t; cases t⟩
    rcases both with ⟨T, ty, kt, rfl⟩ | ⟨a, xs, rfl, ha, hj, hl, hF, hT⟩
    · exact ⟨_, rfl, _, _, _, _, false, rfl, .ty _, ty, kit_ty kt, _, rfl, iteT (q H (Same.refl H))⟩
    have hTp : ∀ {H' : Hp}, Same H H' → SqT K H' a xs := fun s => .inl (.inl (s _ _ ha))
    refine ⟨_, rfl, _, _, _, _, true, rfl, .ty _, .base (.tup ha), kit_ty ki_tt, _, rfl, iteF ⟨_, rfl, a, rfl, ⟨_, hTp (Same.refl H)⟩, fun D nD => lc_tup (K := K) (a := a) (xs := xs) (fun i H' => Same H H' ∧ H' D = some (.lst (((xs.take i).map isNam).map V.bl))) ⟨same_put nD (Same.refl H), by rw [upd_same]; rfl⟩ (fun i H' _ h => hTp h.1) (fun i x H1 hx h => ?_) (fun H1 h => ?_)⟩⟩
    · obtain ⟨s1, e1⟩ := h
      refine ⟨rfl, _, rfl, x, rfl, (hj x (List.mem_of_getElem? hx)).same s1, fun H2 s2 => ⟨_, s2 _ _ e1, ?_, same_put nD (s1.trans s2), ?_⟩⟩
      · rw [List.length_map, List.length_map, List.length_take]
        exact Nat.lt_of_le_of_lt (Nat.le_trans (Nat.min_le_right _ _) hl) (by decide)
      · rw [upd_same, List.take_add_one, hx, List.map_append, List.map_append]
        rfl
    · obtain ⟨s1, e1⟩ := h
      rw [List.take_length] at e1
      refine ⟨D, xs.map isNam, rfl, .inl (.inl e1), _, rfl, ?_⟩
      have ea : (xs.map isNam).all id = xs.all isNam := by rw [List.all_map]; rfl
      rw [ea]
      cases e : xs.all isNam with
      | false =>
        have q' := q _ s1
        rw [hF e] at q'
        exact iteT q'
      | true =>
        obtain ⟨ys, rfl, fy, rfl⟩ := hT e
        have yl : ys.length ≤ 63 := by rw [List.length_map] at hl; exact hl
        refine iteF ⟨_, rfl, a, ys.map V.str, rfl, .inr (hTp s1), fun l nl => ?_⟩
        have s2 := same_new (o := .lst (ys.map V.str)) nl
        refine ⟨_, rfl, a, ys, rfl, .inr (hTp (s1.trans s2)), by omega, fun st c nst hc' => ?_⟩
        have s3 := same_new (o := TsO P w st (among ys ys.length) c) nst
        refine ⟨st, ys, c, rfl, upd_same, by omega, fun zs p mem srt nd _ np => ?_⟩
        have s4 := same_new (o := .lst (zs.map V.str)) np
        refine ⟨.list (ys.map PyData.str), .list (zs.map PyData.str), .lst (.inl (.inl ((s3.trans s4) _ _ upd_same))) (dp_strs ys), .lst (.inl (.inl upd_same)) (dp_strs zs), shaped_strs fun y hy => (fy y hy).2, shaped_strs fun z hz => (fy z ((mem z).mp hz)).2, ?_⟩
        rw [eqv_list, eq_sorted mem srt nd]
        exact q _ (((s1.trans s2).trans s3).trans s4)
end
end K04
set_option Elab.async false
set_option linter.all false
set_option autoImplicit false
set_option maxRecDepth 100000
set_option maxHeartbeats 4000000
namespace K04
open PySem PySem.Spec PyProof.Rows L2 Vb Wd Ts K01
abbrev s_is_bare_line : Stmt := topS 30
theorem sc_is_bare_line : FnScope ["words"] ["words"] (defScope s_is_bare_line) := ⟨rfl, rfl, rfl, by decide +kernel, rfl, by decide +kernel, by decide +kernel⟩
abbrev s_is_tops_line : Stmt := topS 31
theorem sc_is_tops_line : FnScope ["words"] ["words"] (defScope s_is_tops_line) := ⟨rfl, rfl, rfl, by decide +kernel, rfl, by decide +kernel, by decide +kernel⟩
def bareB (ws : List Str) : Bool := decide (ws.length = 2) && (decide (ws.getD 0 "" = "bare") && isNam (.str (ws.getD 1 "")))
def topsB (ws : List Str) : Bool := decide (1 < ws.length) && (decide (ws.getD 0 "" = "tops") && ((ws.drop 1).all nam && asc (ws.drop 1)))
def spBL (K : PySem.W.Frag) (b : List Str → Bool) : Sp := fun vs H Q _ => ∃ (p : Addr) (ws : List Str), vs = [.ref p] ∧ H p = some (.tup (ws.map V.str)) ∧ Plain ws ∧ ws.length ≤ 60 ∧ ∀ H', Same H H' → Q (.bl (b ws)) H'
theorem cut1 {α : Type} (f : α → V) (ws : List α) : cutV (ws.map f) (some 1) none = (ws.drop 1).map f := by
  unfold cutV
  have e : HT.sIx (ws.map f).length 0 (some 1) = min 1 (ws.map f).length := HT.sIx_nat _ _ 1
  rw [e, HT.sIx_none, List.length_map]
  by_cases h : ws.length ≤ 1
  · rw [Nat.min_eq_right h, List.drop_of_length_le (by rw [List.length_map]; exact Nat.le_refl _), List.drop_of_length_le h, List.take_nil]
    rfl
  · rw [Nat.min_eq_left (by omega), List.take_of_length_le (by rw [List.length_drop, List.length_map]; exact Nat.le_refl _), List.map_drop]
theorem str_dec {x y : Str} : decide (V.str x = V.str y) = decide (x = y) := by
  by_cases e : x = y
  · rw [e, decide_eq_true rfl, decide_eq_true rfl]
  · rw [decide_eq_false e, decide_eq_false fun z => e (V.str.inj z)]
section
variable {P : Program} {w : World} {K : PySem.W.Frag} {mg : Str → Option Value} {base : Heap}
theorem ok_is_bare_line (D : Df K mg "_is_bare_line" s_is_bare_line ["words"]) (G_is_name : Cg P w K mg base 1 "is_name" (spOf isNam)) (z_len : mg "len" = none) : Cg P w K mg base 2 "_is_bare_line" (spBL K bareB) := by
  refine D.ok sc_is_bare_line (fun vs H Q E h => ?_) (fun cdv A outer s H vs Q E f hc hr h => ?_)
  · obtain ⟨p, ws, rfl, _⟩ := h
    rfl
  · obtain ⟨p, ws, rfl, hp, pl, few, q⟩ := h
    refine ⟨_, (pss_one (ps_ret (pe_and (pe_cmpR op_eq (pe_callB call_len_seq (by rfl) z_len PySem.boot_len (pa_cons (pv 0) pa_nil)) pe_int (nomark _)) (pe_and (pe_cmpR op_eq (pe_ix (ix_tup : IxR _ (rIxT K)) (pv 0) pe_int (fun _ _ => rfl)) pe_str (nomark _)) (pe_one (pe_cg G_is_name hc hr (by rfl) (pa_cons (pe_ix (ix_tup : IxR _ (rIxT K)) (pv 0) pe_int (fun _ _ => rfl)) pa_nil))))))), ?_⟩
    have hT : ∀ {H' : Hp}, Same H H' → SqT K H' p (ws.map V.str) := fun s => .inl (.inl (s _ _ hp))
    have len : (ws.map V.str).length = ws.length := List.length_map ..
    refine ⟨_, rfl, p, _, rfl, .inr (hT (Same.refl H)), ?_⟩
    rw [len]
    refine ⟨rfl, _, rfl, ?_⟩
    have q0 := q H (Same.refl H)
    by_cases h2 : ws.length = 2
    · have i2 : (V.int (ws.length : Int)) = V.int 2 := by rw [h2]; rfl
      rw [decide_eq_true i2]
      refine iteT ?_
      have a0 : atI (ws.map V.str) 0 = some (.str (ws.getD 0 "")) := at_str (j := 0) (by omega)
      have a1 : atI (ws.map V.str) 1 = some (.str (ws.getD 1 "")) := at_str (j := 1) (by omega)
      refine ⟨_, rfl, p, _, _, _, rfl, rfl, hT (Same.refl H), a0, rfl, _, rfl, ?_⟩
      rw [str_dec]
      by_cases e0 : ws.getD 0 "" = "bare"
      · rw [decide_eq_true e0]
        have m1 := pl _ (getD_mem (ws := ws) (j := 1) (by omega))
        refine iteT ⟨_, rfl, p, _, _, _, rfl, rfl, hT (Same.refl H), a1, _, rfl, m1, fun H1 s1 => ?_⟩
        have := q H1 s1
        unfold bareB at this
        rw [decide_eq_true h2, decide_eq_true e0, Bool.true_and, Bool.true_and] at this
        exact this
      · rw [decide_eq_false e0]
        unfold bareB at q0
        rw [decide_eq_false e0, Bool.false_and, Bool.and_false] at q0
        exact iteF q0
    · have i2 : ¬ (V.int (ws.length : Int)) = V.int 2 := fun z => h2 (by
        have := V.int.inj z
        omega)
      rw [decide_eq_false i2]
      unfold bareB at q0
      rw [decide_eq_false h2, Bool.false_and] at q0
      exact iteF q0
theorem ok_is_tops_line (D : Df K mg "_is_tops_line" s_is_tops_line ["words"]) (G_is_names : Cg P w K mg base 2 "is_names" (spNames K)) (z_len : mg "len" = none) : Cg P w K mg base 3 "_is_tops_line" (spBL K topsB) := by
  refine D.ok sc_is_tops_line (fun vs H Q E h => ?_) (fun cdv A outer s H vs Q E f hc hr h => ?_)
  · obtain ⟨p, ws, rfl, _⟩ := h
    rfl
  · obtain ⟨p, ws, rfl, hp, pl, few, q⟩ := h
    refine ⟨_, (pss_one (ps_ret (pe_and (pe_cmpR op_gt (pe_callB call_len_seq (by rfl) z_len PySem.boot_len (pa_cons (pv 0) pa_nil)) pe_int (nomark _)) (pe_and (pe_cmpR op_eq (pe_ix (ix_tup : IxR _ (rIxT K)) (pv 0) pe_int (fun _ _ => rfl)) pe_str (nomark _)) (pe_one (pe_cg G_is_names hc hr (by rfl) (pa_cons (pe_slice (sl_tup : SlR _ (rSlT K)) (pv 0) (po_some pe_int) po_none) pa_nil))))))), ?_⟩
    have hT : ∀ {H' : Hp}, Same H H' → SqT K H' p (ws.map V.str) := fun s => .inl (.inl (s _ _ hp))
    have len : (ws.map V.str).length = ws.length := List.length_map ..
    refine ⟨_, rfl, p, _, rfl, .inr (hT (Same.refl H)), ?_⟩
    rw [len]
    have q0 := q H (Same.refl H)
    refine ⟨_, _, rfl, rfl, _, rfl, ?_⟩
    by_cases h1 : 1 < ws.length
    · rw [decide_eq_true (show (1 : Int) < (ws.length : Int) by omega)]
      have a0 : atI (ws.map V.str) 0 = some (.str (ws.getD 0 "")) := at_str (j := 0) (by omega)
      refine iteT ⟨_, rfl, p, _, _, _, rfl, rfl, hT (Same.refl H), a0, rfl, _, rfl, ?_⟩
      rw [str_dec]
      by_cases e0 : ws.getD 0 "" = "tops"
      · rw [decide_eq_true e0]
        refine iteT ⟨_, rfl, _, rfl, p, _, rfl, hT (Same.refl H), ?_, fun t nt => ?_⟩
        · intro z
          have e : HT.sIx (ws.map V.str).length 0 (some 1) = min 1 (ws.map V.str).length := HT.sIx_nat _ _ 1
          rw [e, len] at z
          have := z.1
          omega
        · rw [cut1]
          have st := same_new (o := .tup ((ws.drop 1).map V.str)) nt
          refine ⟨_, _, rfl, .inl ⟨t, ws.drop 1, rfl, upd_same, fun y hy => pl y (List.mem_of_mem_drop hy), by rw [List.length_drop]; omega, rfl⟩, fun H1 s1 => ?_⟩
          have := q H1 (st.trans s1)
          unfold topsB at this
          rw [decide_eq_true h1, decide_eq_true e0, Bool.true_and, Bool.true_and] at this
          exact this
      · rw [decide_eq_false e0]
        unfold topsB at q0
        rw [decide_eq_false e0, Bool.false_and, Bool.and_false] at q0
        exact iteF q0
    · rw [decide_eq_false (show ¬ (1 : Int) < (ws.length : Int) by omega)]
      unfold topsB at q0
      rw [decide_eq_false h1, Bool.false_and] at q0
      exact iteF q0
end
end K04
set_option Elab.async false
set_option linter.all false
set_option autoImplicit false
set_option maxRecDepth 100000
set_option maxHeartbeats 4000000
namespace K04
open PySem PySem.Spec PyProof.Rows L2 Vb Wd
abbrev s_l_mixed : Stmt := topS 38
theorem sc_l_mixed : FnScope ["_law_dice_here", "_law_items", "_law_left", "_law_found"] ["_law_dice_here", "_law_items"] (defScope s_l_mixed) := ⟨rfl, rfl, rfl, by decide +kernel, rfl, by decide +kernel, by decide +kernel⟩
abbrev s_l_names : Stmt := topS 39
theorem sc_l_names : FnScope ["_law_dice_here", "_law_many", "_law_pool"] ["_law_dice_here", "_law_many"] (defScope s_l_names) := ⟨rfl, rfl, rfl, by decide +kernel, rfl, by decide +kernel, by decide +kernel⟩
/-- mixed(dice, items): the same texts in a drawn order, a new list -/
def spMixed (K : PySem.W.Frag) : Sp := fun vs H Q _ => ∃ (d a : Addr) (ys : List Str), vs = [.ref d, .ref a] ∧ Dice H d ∧ SqL K H a (ys.map V.str) ∧ (∀ y ∈ ys, Asc y) ∧ ys.length ≤ 60 ∧
  ∀ (p : Addr) (zs : List Str) (H' : Hp), Past d H H' → H p = none → p ≠ d → H' p = some (.lst (zs.map V.str)) → zs.Perm ys → Q (.ref p) H'
section
variable {P : Program} {w : World} {K : PySem.W.Frag} {mg : Str → Option Value} {base : Heap}
theorem eqv_cons (u : Str) (us : List Str) : (!PyData.eqv (.list ((u :: us).map PyData.str)) (.list [])) = true := by
  simp [PyData.eqv, PyData.eqvAll]
theorem map_erase {α β : Type} (f : α → β) (l : List α) (i : Nat) : (l.map f).eraseIdx i = (l.eraseIdx i).map f := by
  rw [List.eraseIdx_eq_take_drop_succ, List.eraseIdx_eq_take_drop_succ, List.map_append, List.map_take, List.map_drop]
theorem seq_at {r : Int} {n : Nat} (h0 : 0 ≤ r) (h1 : r < n) : seqIndex? r n = some r.toNat := by
  unfold seqIndex?
  have n0 : ¬ r < 0 := by omega
  simp only [if_neg n0]
  rw [if_pos (by simp [h0, h1])]
theorem erase_perm {α : Type} : ∀ (l : List α) (i : Nat) (h : i < l.length), List.Perm (l[i] :: l.eraseIdx i) l
  | x :: l, 0, _ => List.Perm.refl _
  | x :: l, i + 1, h => ((List.Perm.swap x _ _).trans ((erase_perm l i (by simpa using h)).cons x))
theorem small8000 {n : Nat} (h : n ≤ 60) : (n : Int).natAbs < 2 ^ 8000 := Nat.lt_of_le_of_lt (show (n : Int).natAbs ≤ 60 by omega) (by decide +kernel)
theorem ok_l_mixed (D : Df K mg "_law_mixed" s_l_mixed ["_law_dice_here", "_law_items"]) (G_l_roll : Cg P w K mg base 1 "_law_roll" spRoll) (z_len : mg "len" = none) (z_list : mg "list" = none) : Cg P w K mg base 2 "_law_mixed" (spMixed K) := by
  refine D.ok sc_l_mixed (fun vs H Q E h => ?_) (fun cdv A outer s H vs Q E f hc hr h => ?_)
  · obtain ⟨d, a, ys, rfl, _⟩ := h
    rfl
  · obtain ⟨d, a, ys, rfl, hd, hS, ha, hl, q⟩ := h
    refine ⟨_, (pss_cons (ps_par (i := 2) (j := 3) (by rfl) sc_l_mixed.nd rfl rfl (by decide) rfl rfl (pa_cons (pe_callTy call_list_of (by rfl) z_list (by decide +kernel) (pa_cons (pv 1) pa_nil)) (pa_cons (pe_lst pa_nil) pa_nil)) (by rfl))
      (pss_cons (ps_while PassesOwn.never (pt_cmpR (op_neD hr.units) (pv 2) (pe_lst pa_nil) (nomark _))
      (pss_one (ps_expr (pe_bm PySem.F.plainAttrs_list PySem.F.slot_list_append PySem.F.type_list_append mt_append (pv 3) (pa_cons (pe_bm PySem.F.plainAttrs_list PySem.F.slot_list_pop PySem.F.type_list_pop mt_popAt (pv 2) (pa_cons (pe_cg G_l_roll hc hr (by rfl) (pa_cons (pv 0) (pa_cons (pe_callB call_len_seq (by rfl) z_len PySem.boot_len (pa_cons (pv 2) pa_nil)) pa_nil))) pa_nil)) pa_nil)))))
      (pss_one (ps_ret (pv 3))))), ?_⟩
    refine ⟨_, rfl, a, _, rfl, .inl hS, fun l nl => ⟨by show 0 ≤ sizeLine; decide, fun f nf => ?_⟩⟩
    refine ⟨_, _, rfl, ?_⟩
    refine ⟨fun m σ H' => ∃ us zs : List Str, us.length = m ∧ σ = [some (.ref d), some (.ref a), some (.ref l), some (.ref f)] ∧ Past d H H' ∧ H l = none ∧ H f = none ∧ l ≠ f ∧ l ≠ d ∧ f ≠ d ∧ H' l = some (.lst (us.map V.str)) ∧ H' f = some (.lst (zs.map V.str)) ∧ (zs ++ us).Perm ys, ⟨ys.length, ys, [], rfl, rfl, ?_⟩, ?_⟩
    · have lf : l ≠ f := fun e => by
        rw [← e, upd_same] at nf
        cases nf
      have nf0 : H f = none := by rw [upd_ne lf.symm] at nf; exact nf
      exact ⟨(Past.new hd nl).trans (Past.new (Past.new hd nl).dice nf), nl, nf0, lf, hd.ne nl, hd.ne nf0, by rw [upd_ne lf]; exact upd_same, upd_same, List.Perm.refl _⟩
    · rintro m σ H' ⟨us, zs, rfl, rfl, pp, nl', nf', lf, ld, fd', el, ef, pm⟩
      have hd' := pp.dice
      refine ⟨_, rfl, by show 0 ≤ sizeLine; decide, fun t nt => ?_⟩
      have st := same_new (o := .lst []) nt
      have pt := Past.new (o := .lst []) hd' nt
      refine ⟨.list (us.map PyData.str), .list [], .lst (.inl (.inl (st _ _ el))) (dp_strs us), .lst (.inl (.inl upd_same)) .nil, shaped_strs fun y hy => ha y (pm.mem_iff.mp (List.mem_append.mpr (.inr hy))), by decide +kernel, _, rfl, ?_⟩
      cases us with
      | nil =>
        rw [show (!PyData.eqv (.list (([] : List Str).map PyData.str)) (.list [])) = false from by decide +kernel]
        refine iteF ⟨_, rfl, q f zs _ (pp.trans pt) nf' fd' (st _ _ ef) ?_⟩
        simpa using pm
      | cons u0 us0 =>
        rw [eqv_cons]
        refine iteT ⟨fun σ' H'' => ∃ us1 zs1 : List Str, us1.length < (u0 :: us0).length ∧ σ' = [some (.ref d), some (.ref a), some (.ref l), some (.ref f)] ∧ Past d H H'' ∧ H'' l = some (.lst (us1.map V.str)) ∧ H'' f = some (.lst (zs1.map V.str)) ∧ (zs1 ++ us1).Perm ys, fun σ' H'' ⟨us1, zs1, h1, h2, h3, h4, h5, h6⟩ => ⟨us1.length, h1, us1, zs1, rfl, h2, h3, nl', nf', lf, ld, fd', h4, h5, h6⟩, ?_⟩
        have few : (u0 :: us0).length ≤ 60 := by
          have := pm.length_eq
          rw [List.length_append] at this
          omega
        have el1 := st _ _ el
        have ef1 := st _ _ ef
        have lp : l ≠ f := lf
        generalize upd H' t (.lst []) = H1 at pt el1 ef1 ⊢
        refine ⟨.ref f, rfl, .inl ⟨rfl, _, .inl (.inl ef1)⟩, .ref l, rfl, .inl ⟨rfl, _, .inl (.inl el1)⟩, _, rfl, _, rfl, l, _, rfl, .inl (.inl (.inl el1)), d, _, rfl, pt.dice, by rw [List.length_map]; simp, by rw [List.length_map]; exact small8000 (by omega), fun r H2 p2 r0 r1 => ?_⟩
        rw [List.length_map] at r1
        have rk : r.toNat < (u0 :: us0).length := by omega
        have el2 := p2.keep ld el1
        have ef2 := p2.keep fd' ef1
        have d2 := p2.dice
        refine ⟨l, _, r, r.toNat, .str ((u0 :: us0)[r.toNat]), rfl, rfl, el2, by omega, by have := few; omega, by rw [List.length_map]; exact seq_at r0 r1, by rw [List.getElem?_map, List.getElem?_eq_getElem rk]; rfl, ?_⟩
        refine ⟨f, _, _, rfl, rfl, by rw [upd_ne lf.symm]; exact ef2, ?_, (u0 :: us0).eraseIdx r.toNat, zs ++ [(u0 :: us0)[r.toNat]], ?_, rfl, ?_, ?_, ?_, ?_⟩
        · rw [List.length_map]
          have := pm.length_eq
          rw [List.length_append] at this
          exact Nat.lt_of_le_of_lt (show zs.length ≤ 60 by omega) (by decide)
        · rw [List.length_eraseIdx_of_lt rk]
          omega
        · have p12 := (pp.trans pt).trans p2
          exact ⟨fun b o n e => by
            have bl : b ≠ l := fun z => by rw [z, nl'] at e; cases e
            have bf : b ≠ f := fun z => by rw [z, nf'] at e; cases e
            rw [upd_ne bf, upd_ne bl]
            exact p12.1 b o n e, by
            obtain ⟨g, s, c, e⟩ := d2
            exact ⟨g, s, c, by rw [upd_ne fd'.symm, upd_ne ld.symm]; exact e⟩⟩
        · rw [upd_ne lf, upd_same, map_erase]
        · rw [upd_same, List.map_append]
          rfl
        · refine List.Perm.trans ?_ pm
          rw [List.append_assoc]
          exact List.Perm.append_left zs (erase_perm _ _ rk)
def pool : List Str := ["a", "b", "ab", "even", "left", "leftmost", "put", "top", "x", "zzzzzzzz"]
theorem pool_nodup : pool.Nodup := by decide +kernel
theorem pool_asc : ∀ y ∈ pool, Asc y := by
  have h : pool.all (fun y => y.cps.toList.all (fun c => decide (c < 128))) = true := by decide +kernel
  intro y hy c hc
  exact of_decide_eq_true (List.all_eq_true.mp (List.all_eq_true.mp h y hy) c hc)
theorem cut_take (zs : List Str) (m : Nat) : cutV (zs.map V.str) none (some (m : Int)) = (zs.take m).map V.str := by
  unfold cutV
  rw [HT.sIx_none, HT.sIx_nat]
  rw [List.drop_zero, Nat.sub_zero, List.length_map, ← List.map_take]
  by_cases h : m ≤ zs.length
  · rw [Nat.min_eq_left h]
  · rw [Nat.min_eq_right (by omega), List.take_of_length_le (Nat.le_refl _), List.take_of_length_le (by omega)]
/-- names(dice, many): so many different names of the pool, a new list -/
def spNms : Sp := fun vs H Q _ => ∃ (d : Addr) (m : Nat), vs = [.ref d, .int m] ∧ Dice H d ∧ m ≤ 10 ∧
  ∀ (p : Addr) (zs : List Str) (H' : Hp), Past d H H' → H p = none → p ≠ d → H' p = some (.lst (zs.map V.str)) → zs.length = m → zs.Nodup → (∀ z ∈ zs, z ∈ pool) → Q (.ref p) H'
theorem ok_l_names (D : Df K mg "_law_names" s_l_names ["_law_dice_here", "_law_many"]) (G_l_mixed : Cg P w K mg base 2 "_law_mixed" (spMixed K)) : Cg P w K mg base 3 "_law_names" spNms := by
  refine D.ok sc_l_names (fun vs H Q E h => ?_) (fun cdv A outer s H vs Q E f hc hr h => ?_)
  · obtain ⟨d, m, rfl, _⟩ := h
    rfl
  · obtain ⟨d, m, rfl, hd, hm, q⟩ := h
    refine ⟨_, (pss_cons (ps_set (i := 2) sc_l_names.nd rfl (Or.inl rfl) (pe_lst (pa_cons pe_str (pa_cons pe_str (pa_cons pe_str (pa_cons pe_str (pa_cons pe_str (pa_cons pe_str (pa_cons pe_str (pa_cons pe_str (pa_cons pe_str (pa_cons pe_str pa_nil))))))))))))
      (pss_one (ps_ret (pe_slice sl_list (pe_cg G_l_mixed hc hr (by rfl) (pa_cons (pv 0) (pa_cons (pv 2) pa_nil))) po_none (po_some (pv 1)))))), ?_⟩
    refine ⟨by show 10 ≤ sizeLine; decide, fun l nl => ⟨_, rfl, ?_⟩⟩
    have ll : l ≠ d := hd.ne nl
    refine ⟨_, rfl, d, l, pool, rfl, (Past.new hd nl).dice, .inl (.inl upd_same), pool_asc, by decide +kernel, fun p zs H1 p1 np pd e pm => ⟨_, rfl, _, rfl, ?_⟩⟩
    have p01 := (Past.new (o := .lst (pool.map V.str)) hd nl).trans p1
    have len : zs.length = 10 := pm.length_eq
    refine ⟨p, _, rfl, .inl (.inl e), fun t nt => ?_⟩
    rw [cut_take]
    have tn : H t = none := by
      cases z : H t with
      | none => rfl
      | some o =>
        have td : t ≠ d := p1.dice.ne nt
        rw [p01.keep td z] at nt
        cases nt
    refine q t (zs.take m) _ (p01.trans (Past.new p1.dice nt)) tn (p1.dice.ne nt) upd_same (by rw [List.length_take]; omega) ?_ fun z hz => ?_
    · exact ((List.Perm.nodup_iff pm).mpr pool_nodup).sublist (List.take_sublist _ _)
    · exact pm.mem_iff.mp (List.mem_of_mem_take hz)
end
end K04
set_option Elab.async false
set_option linter.all false
set_option autoImplicit false
set_option maxRecDepth 100000
set_option maxHeartbeats 4000000
namespace K04
open PySem PySem.Spec PyProof.Rows L2 Vb Wd Xd Xo StX
abbrev s_str : Stmt := inB (topS 23) 9
theorem sc_str : FnScope ["self", "children", "sort", "step"] ["self"] (defScope s_str) := ⟨rfl, rfl, rfl, by decide +kernel, rfl, by decide +kernel, by decide +kernel⟩
/-- a child's word, a form's line -/
def wordT (c : Str × Int) : Str := c.1 ++ Str.ofString (toString c.2)
def lineT (n so : Str) (cs : List (Str × Int)) : Str := Txt.join " " ("form" :: n :: so :: cs.map wordT)
theorem log_small {i : Int} (h0 : 0 ≤ i) (h3 : i ≤ 3) : i.natAbs.log2 < 1920 := by
  have : i = 0 ∨ i = 1 ∨ i = 2 ∨ i = 3 := by omega
  rcases this with rfl | rfl | rfl | rfl <;> decide
theorem one_sign {i : Int} (h0 : 0 ≤ i) (h3 : i ≤ 3) : (Str.ofString (toString i)).length = 1 := by
  have : i = 0 ∨ i = 1 ∨ i = 2 ∨ i = 3 := by omega
  rcases this with rfl | rfl | rfl | rfl <;> decide +kernel
theorem empty_app (x : Str) : Str.empty ++ x = x := by
  apply PySem.Str.ext'
  show (#[] : Array Nat) ++ x.cps = x.cps
  simp
theorem Kids.get {H : Hp} {a : Addr} {ts : List Addr} {cs : List (Str × Int)} (k : Kids H a ts cs) {i : Nat} {t : Addr} (h : ts[i]? = some t) : ∃ c, cs[i]? = some c ∧ Kid H t c.1 c.2 := by
  have il : i < cs.length := by rw [← k.len]; exact (List.getElem?_eq_some_iff.mp h).1
  exact ⟨cs[i], List.getElem?_eq_getElem il, k.kid i t cs[i] h (List.getElem?_eq_getElem il)⟩
theorem word_len {H : Hp} {t : Addr} {c : Str × Int} (k : Kid H t c.1 c.2) : (wordT c).length ≤ 9 := by
  unfold wordT
  rw [PySem.Str.length_append, one_sign k.lo k.hi]
  have := (nam_len k.nam).2.1
  omega
theorem words_sum : ∀ (l : List Str) (m : Nat), (∀ y ∈ l, y.length ≤ m) → (l.map (·.length)).sum ≤ l.length * m
  | [], m, _ => Nat.zero_le _
  | y :: l, m, h => by
    have h1 := words_sum l m fun z hz => h z (List.mem_cons_of_mem _ hz)
    have h2 := h y List.mem_cons_self
    rw [List.map_cons, List.sum_cons, List.length_cons, Nat.succ_mul]
    omega
def spStr (C : Addr) : Sp := fun vs H Q _ => ∃ (a ch : Addr) (n so : Str) (ts : List Addr) (cs : List (Str × Int)), vs = [.ref a] ∧ FormAt H C a ch n so ts cs ∧ n.length ≤ 1000 ∧ so.length ≤ 1000 ∧ ∀ H', Same H H' → Q (.str (lineT n so cs)) H'
section
variable {P : Program} {w : World} {K : PySem.W.Frag} {mg : Str → Option Value} {base : Heap} {C : Addr}
theorem ok_str {f : Addr} {fd : FuncData} (F : Fun K "__str__" "Form.__str__" s_str f fd) (T : FormC K C) : FnG P w K mg base 1 f fd ["self"] (spStr C) := by
  refine goes_by F sc_str (fun vs H Q E h => ?_) (fun cdv A outer s H vs Q E hc hr h => ?_)
  · obtain ⟨a, ch, n, so, ts, cs, rfl, _⟩ := h
    rfl
  · obtain ⟨a, ch, n, so, ts, cs, rfl, ⟨⟨dx, ha⟩, k⟩, hn, hso, q⟩ := h
    refine ⟨_, (pss_cons (ps_setLc (i := 1) (own := [("sort", 2), ("step", 3)]) (g := gTup K 2 (gCons (gName 2) (gCons (gName 3) gNil))) (by rfl) sc_str.nd rfl rfl (sw_true rfl rfl rfl (by decide +kernel)) (pi_tup (pe_fld (f := "_children") (pv 0) (by rfl)))
        (blkOk_by (own := [("sort", 2), ("step", 3)]) (N := ["self", "children", "sort", "step"]) (sc := defScope s_str) (by decide +kernel)) (fun _ _ _ _ _ => pg_tup (by rfl) (pgs_cons (pg_name (i := 2) sc_str.nd rfl (Or.inl rfl)) (pgs_cons (pg_name (i := 3) sc_str.nd rfl (Or.inl rfl)) pgs_nil))) (fun _ _ _ _ _ => pts_nil)
        (fun _ _ _ _ _ => pe_joined (.cons (pe_fmt (pv 2)) (.cons (pe_fmt (pv 3)) .nil))))
      (pss_one (ps_ret (pe_join pe_str (pe_lst (pa_cons pe_str (pa_cons (pe_fld (f := "_called") (pv 0) (by rfl)) (pa_cons (pe_fld (f := "_sort_name") (pv 0) (by rfl)) (pa_star (pv 1) pa_nil))))))))), ?_⟩
    refine ⟨_, rfl, a, C, dx, _, .ref ch, rfl, ha, T.c, T.n3, by rfl, ch, rfl, ⟨_, .inl (.inl k.at_)⟩, fun D nD => ?_⟩
    have few := k.hi
    have tl := k.len
    refine lc_tup (K := K) (a := ch) (xs := ts.map V.ref) (g := gTup K 2 (gCons (gName 2) (gCons (gName 3) gNil))) (tt := tYes) (vs := [2, 3]) (te := fun σ H Q => tJs [tFmt (tVar 2), tFmt (tVar 3)] Str.empty σ H fun out H1 => Q (.str out) H1) (fun i H' => Same H H' ∧ H' D = some (.lst (((cs.take i).map wordT).map V.str))) ⟨same_put nD (Same.refl H), upd_same⟩ (fun i H' _ h => .inl (.inl (h.1 _ _ k.at_))) (fun i x H1 hx h => ?_) (fun H1 h => ?_)
    · obtain ⟨s1, e1⟩ := h
      rw [List.getElem?_map] at hx
      obtain ⟨t, ht, rfl⟩ := Option.map_eq_some_iff.mp hx
      obtain ⟨⟨m, i'⟩, hc', kt⟩ := k.get ht
      have kt1 := kt.same s1
      have ml := (nam_len kt.nam).2.1
      refine ⟨t, _, rfl, .inl (.inl kt1.at_), rfl, .str m, _, rfl, .int i', _, rfl, rfl, rfl, _, rfl, .inl ⟨m, rfl, fits_million (by simp only at ml; omega), m, rfl, ?_, _, rfl, .inr ⟨i', rfl, log_small kt.lo kt.hi, _, rfl, ?_, ?_⟩⟩⟩
      · rw [empty_app]
        exact fits_million (by simp only at ml; omega)
      · rw [empty_app, PySem.Str.length_append, one_sign kt.lo kt.hi]
        exact fits_million (by simp only at ml; omega)
      · refine ⟨_, e1, ?_, same_put nD s1, ?_⟩
        · rw [List.length_map, List.length_map, List.length_take]
          exact Nat.lt_of_le_of_lt (show _ ≤ 4 by omega) (by decide)
        · rw [upd_same, List.take_add_one, hc', List.map_append, List.map_append, empty_app]
          rfl
    · obtain ⟨s1, e1⟩ := h
      rw [List.length_map, tl, List.take_of_length_le (Nat.le_refl _)] at e1
      refine ⟨⟨_, rfl⟩, _, rfl, a, C, dx, _, .str n, rfl, s1 _ _ ha, T.c, T.n1, by rfl, _, rfl, a, C, dx, _, .str so, rfl, s1 _ _ ha, T.c, T.n2, by rfl, _, rfl, D, _, rfl, .inr (.inl (.inl e1)), ?_, fun p np => ⟨" ", p, "form" :: n :: so :: cs.map wordT, rfl, rfl, .inl (.inl (.inl ?_)), ?_, ?_⟩⟩
      · rw [List.append_nil]
        simp only [List.length_cons, List.length_map]
        exact Nat.le_trans (show _ ≤ 10 by omega) (by decide)
      · rw [upd_same, List.append_nil]
        rfl
      · have wl : ∀ y ∈ cs.map wordT, y.length ≤ 9 := fun y hy => by
          obtain ⟨c, hc', rfl⟩ := List.mem_map.mp hy
          obtain ⟨i, il, ei⟩ := List.mem_iff_getElem.mp hc'
          have ti : i < ts.length := by omega
          obtain ⟨c2, h2, kt⟩ := k.get (List.getElem?_eq_getElem ti)
          rw [List.getElem?_eq_getElem il, ei] at h2
          cases h2
          exact word_len kt
        have sm := words_sum (cs.map wordT) 9 wl
        have l4 : ("form" : Str).length = 4 := by decide +kernel
        have l1 : (" " : Str).length = 1 := by decide +kernel
        rw [List.length_map] at sm
        simp only [List.map_cons, List.sum_cons, List.length_cons, List.length_map]
        rw [l4, l1]
        omega
      · exact q _ (s1.trans (same_new np))
end
end K04
set_option Elab.async false
set_option linter.all false
set_option autoImplicit false
set_option maxRecDepth 100000
set_option maxHeartbeats 4000000
/-! Tr: sets of texts of which many are alike: there are no more members than words to choose from. -/
namespace Ts
open PySem PySem.Spec PyProof.Rows L2 Vb
theorem nodup_len {α : Type} [DecidableEq α] : ∀ (ks L : List α), ks.Nodup → (∀ k ∈ ks, k ∈ L) → ks.length ≤ L.length
  | [], L, _, _ => Nat.zero_le _
  | k :: ks, L, nd, h => by
    obtain ⟨h1, h2⟩ := List.nodup_cons.mp nd
    have ih := nodup_len ks (L.erase k) h2 fun x hx => (List.mem_erase_of_ne (fun e => h1 (by rw [← e]; exact hx))).mpr (h x (List.mem_cons_of_mem _ hx))
    have m := h k List.mem_cons_self
    rw [List.length_erase_of_mem m] at ih
    have : 0 < L.length := List.length_pos_of_mem m
    rw [List.length_cons]
    omega
section
variable {P : Program} {w : World}
theorem TxtSet.few {h : Heap} {a : Addr} {ys L : List Str} {c : Nat} (T : TxtSet P w h a (among ys ys.length) c) (hL : ∀ y ∈ ys, y ∈ L) : c ≤ L.length := by
  obtain ⟨o, es, ep, t, ho, ex, hd, G, hn⟩ := T
  obtain ⟨_, nd, mem⟩ := G.texts (out := es.toList.map (·.2)) (List.Perm.refl _)
  have := nodup_len _ L nd fun k hk => hL k (by
    have := (mem k).mp hk
    unfold among at this
    rw [List.take_length] at this
    exact of_decide_eq_true this)
  rw [List.length_map, List.length_map, Array.length_toList, hn] at this
  exact this
end
section
variable {X : Cx}
def rSetFew (K : PySem.W.Frag) (P : Program) (w : World) : List V → Hp → VK → Prop := fun xs H Q => ∃ (l : Addr) (ys L : List Str), xs = [.ref l] ∧ (SqL K H l (ys.map V.str) ∨ SqT K H l (ys.map V.str)) ∧ ys.length ≤ 1000 ∧ (∀ y ∈ ys, y ∈ L) ∧
  ∀ a c, H a = none → c ≤ ys.length → c ≤ L.length → Q (.ref a) (upd H a (TsO P w a (among ys ys.length) c))
theorem cr_setFew (hc : X.calm = true) : CallR X (.type "set") (rSetFew X.K X.prog X.w) := by
  intro pins s σ H xs us Q I r h
  obtain ⟨l, ys, L, rfl, hs, hl, sub, q⟩ := h
  rw [Vals.ref1 r]
  have few : ys.length + 1 < scanBound := Nat.lt_of_le_of_lt (Nat.succ_le_succ hl) (by decide)
  have fin : ∀ (h' : Heap) (tk c : Nat), TxtSet X.prog X.w h' s.heap.objs.size (among ys ys.length) c → c ≤ ys.length → (∀ b o, s.heap.get? b = some o → h'.get? b = some o) → EP X pins σ Q (.ref s.heap.objs.size) { s with heap := h', toks := tk } := fun h' tk c T hc k =>
    ⟨.ref s.heap.objs.size, upd H s.heap.objs.size (TsO X.prog X.w s.heap.objs.size (among ys ys.length) c), I.laid (t' := tk) k (Nat.le_refl _) ⟨T, (let ⟨o, _, _, _, e, _⟩ := T; ⟨o, e⟩), fun h1 h2 t k => t.at k⟩, rfl, q _ c (I.hok.fresh (Nat.le_refl _)) hc (T.few sub)⟩
  rcases hs with hs | hs
  · obtain ⟨its, rv, pl, _⟩ := I.list hs
    exact set_of_list (P := X.prog) (w := X.w) (I.ok.hd hc) pl.isList (by simpa using rv.strs) few fin
  · obtain ⟨its, rv, pl, _⟩ := I.tuple hs
    exact set_of_tuple (P := X.prog) (w := X.w) (I.ok.hd hc) pl (by simpa using rv.strs) few fin
end
end Ts
set_option Elab.async false
set_option linter.all false
set_option autoImplicit false
set_option maxRecDepth 100000
set_option maxHeartbeats 4000000
namespace K04
open PySem PySem.Spec PyProof.Rows L2 Vb Wd Xd Xo Ts K01
abbrev s_sorts_of : Stmt := topS 29
theorem sc_sorts_of : FnScope ["tops", "forms", "told", "form", "child"] ["tops", "forms"] (defScope s_sorts_of) := ⟨rfl, rfl, rfl, by decide +kernel, rfl, by decide +kernel, by decide +kernel⟩
/-- a form as data: its name, its sort, its children -/
abbrev FD : Type := Str × Str × List (Str × Int)
def saidBy (d : FD) : List Str := d.2.1 :: d.2.2.map (·.1)
def said (ds : List FD) : List Str := ds.flatMap saidBy
/-- forms stand at these places -/
structure Forms (H : Hp) (C : Addr) (fs : List Addr) (ds : List FD) : Prop where
  len : fs.length = ds.length
  at_ : ∀ (i : Nat) (a : Addr) (d : FD), fs[i]? = some a → ds[i]? = some d → ∃ ch ts, FormAt H C a ch d.1 d.2.1 ts d.2.2
def spSorts (K : PySem.W.Frag) (C : Addr) : Sp := fun vs H Q _ => ∃ (t f : Addr) (ys L : List Str) (fs : List Addr) (ds : List FD), vs = [.ref t, .ref f] ∧ H t = some (.tup (ys.map V.str)) ∧ H f = some (.tup (fs.map V.ref)) ∧ Forms H C fs ds ∧ ys.length ≤ 60 ∧ fs.length ≤ 40 ∧
  (∀ y ∈ ys ++ said ds, y ∈ L) ∧ L.length < 64 ∧ ∀ (p : Addr) (zs : List Str) (H' : Hp), Same H H' → H' p = some (.tup (zs.map V.str)) → (∀ k, k ∈ zs ↔ k ∈ ys ++ said ds) → sortedS zs = true → zs.Nodup → Q (.ref p) H'
theorem said_take {ds : List FD} {i : Nat} {d : FD} (h : ds[i]? = some d) : said (ds.take (i + 1)) = said (ds.take i) ++ (d.2.1 :: d.2.2.map (·.1)) := by
  unfold said
  rw [List.take_add_one, h, List.flatMap_append]
  simp [saidBy]
theorem FormAt.sm {H H' : Hp} {C a ch : Addr} {n so : Str} {ts : List Addr} {cs : List (Str × Int)} (s : Same H H') (f : FormAt H C a ch n so ts cs) : FormAt H' C a ch n so ts cs := by
  obtain ⟨⟨dx, e⟩, k⟩ := f
  exact ⟨⟨dx, s _ _ e⟩, k.same s⟩
theorem said_len {ds : List FD} {n : Nat} (h : ∀ d ∈ ds, d.2.2.length ≤ 4) (hn : ds.length ≤ n) : (said ds).length ≤ n * 5 := by
  induction ds generalizing n with
  | nil => exact Nat.zero_le _
  | cons d ds ih =>
    cases n with
    | zero => simp at hn
    | succ n =>
      have h1 := ih (n := n) (fun x hx => h x (List.mem_cons_of_mem _ hx)) (by simpa using hn)
      have h2 := h d List.mem_cons_self
      have : (said (d :: ds)).length = (saidBy d).length + (said ds).length := by
        unfold said
        rw [List.flatMap_cons, List.length_append]
      rw [this]
      have e : (saidBy d).length = d.2.2.length + 1 := by simp [saidBy]
      omega
section
variable {P : Program} {w : World} {K : PySem.W.Frag} {mg : Str → Option Value} {base : Heap} {C : Addr}
theorem ok_sorts_of (D : Df K mg "_sorts_of" s_sorts_of ["tops", "forms"]) (T : FormC K C) (TP : FormP P w K mg base C) (z_list : mg "list" = none) (z_tuple : mg "tuple" = none) (z_sorted : mg "sorted" = none) (z_set : mg "set" = none) : Cg P w K mg base 3 "_sorts_of" (spSorts K C) := by
  obtain ⟨p2, g2, fd2, o2, G2, b2⟩ := TP.get ("sort_name", "_sort_name") (by simp)
  obtain ⟨p3, g3, fd3, o3, G3, b3⟩ := TP.get ("children", "_children") (by simp)
  refine D.ok sc_sorts_of (fun vs H Q E h => ?_) (fun cdv A outer s H vs Q E f0 hc hr h => ?_)
  · obtain ⟨t, f, ys, L, fs, ds, rfl, _⟩ := h
    rfl
  · obtain ⟨t, f, ys, L, fs, ds, rfl, ht, hf, F, ly, lf, sub, lL, q⟩ := h
    refine ⟨_, (pss_cons (ps_set (i := 2) sc_sorts_of.nd rfl (Or.inl rfl) (pe_callTy call_list_of (by rfl) z_list (by decide +kernel) (pa_cons (pv 0) pa_nil)))
      (pss_cons (ps_for PassesOwn.never rfl (pi_tup (pv 1)) (pg_name (i := 3) sc_sorts_of.nd rfl (Or.inl rfl))
      (pss_cons (ps_expr (pe_bm PySem.F.plainAttrs_list PySem.F.slot_list_append PySem.F.type_list_append mt_append (pv 2) (pa_cons (pe_propG (n := "sort_name") (pv 3) T.c o2 G2 hc hr b2) pa_nil)))
      (pss_one (ps_expr (pe_bm PySem.F.plainAttrs_list PySem.F.slot_list_extend PySem.F.type_list_extend mt_extend (pv 2) (pa_cons (pe_lc (own := [("child", 4)]) (g := gName 4) (by rfl) sc_sorts_of.nd (pi_tup (pe_propG (n := "children") (pv 3) T.c o3 G3 hc hr b3)) (blkOk_by (own := [("child", 4)]) (N := ["tops", "forms", "told", "form", "child"]) (sc := defScope s_sorts_of) (by decide +kernel)) (fun _ _ _ _ _ => pg_name (i := 4) sc_sorts_of.nd rfl (Or.inl rfl)) (fun _ _ _ _ _ => pts_nil) (fun _ _ _ _ _ => (pe_ix (ix_tup : IxR _ (rIxT K)) (pv 4) pe_int (fun _ _ => rfl)))) pa_nil))))))
      (pss_one (ps_ret (pe_callTy (cr_tuple : CallR _ _ (rTup K)) (by rfl) z_tuple (by decide +kernel) (pa_cons (pe_callB (cr_sortTexts rfl) (by rfl) z_sorted (by decide +kernel) (pa_cons (pe_callTy (cr_setFew rfl) (by rfl) z_set (by decide +kernel) (pa_cons (pv 2) pa_nil)) pa_nil)) pa_nil)))))), ?_⟩
    refine ⟨_, rfl, t, _, rfl, .inr (.inl (.inl ht)), fun l nl => ?_⟩
    have sl := same_new (o := .lst (ys.map V.str)) nl
    generalize eH1 : upd H l (.lst (ys.map V.str)) = H1 at sl ⊢
    have h1l : H1 l = some (.lst (ys.map V.str)) := by rw [← eH1, upd_same]
    have lf' : f ≠ l := ne_of_none hf nl
    have kids4 : ∀ d ∈ ds, d.2.2.length ≤ 4 := fun d hd => by
      obtain ⟨i, hi⟩ := List.mem_iff_getElem?.mp hd
      have il := (List.getElem?_eq_some_iff.mp hi).1
      obtain ⟨ch, ts, FA⟩ := F.at_ i (fs[i]'(by have := F.len; omega)) d (List.getElem?_eq_getElem _) hi
      have := FA.kids.hi
      have := FA.kids.len
      omega
    have all : ∀ i, (ys ++ said (ds.take i)).length ≤ 260 := fun i => by
      have := said_len (ds := ds.take i) (n := 40) (fun d hd => kids4 d (List.mem_of_mem_take hd)) (by rw [List.length_take]; have := F.len; omega)
      rw [List.length_append]
      omega
    have big : ∀ {n : Nat}, n ≤ 270 → n < sizeLine := fun h => Nat.lt_of_le_of_lt h (by decide)
    refine ⟨_, rfl, f, rfl, ⟨_, .inl (.inl (sl _ _ hf))⟩, for_tup (K := K) (a := f) (xs := fs.map V.ref) (fun i σ H' => (∃ o3 o4, σ = [some (.ref t), some (.ref f), some (.ref l), o3, o4]) ∧ (∀ b x, b ≠ l → H1 b = some x → H' b = some x) ∧ H' l = some (.lst ((ys ++ said (ds.take i)).map V.str)))
      ⟨⟨none, none, rfl⟩, fun _ _ _ e => e, by rw [h1l]; simp [said]⟩ (fun i σ H' _ h => .inl (.inl (h.2.1 _ _ lf' (sl _ _ hf)))) (fun i x σ H2 hx h => ?_) (fun σ H2 h => ?_)⟩
    · obtain ⟨⟨o3, o4, rfl⟩, k2, e2⟩ := h
      have s2 : Same H H2 := fun b x e => k2 b x (ne_of_none e nl) (sl _ _ e)
      rw [List.getElem?_map] at hx
      obtain ⟨a, ha, rfl⟩ := Option.map_eq_some_iff.mp hx
      have il : i < ds.length := by
        have := (List.getElem?_eq_some_iff.mp ha).1
        have := F.len
        omega
      obtain ⟨ch, ts, FA⟩ := F.at_ i a ds[i] ha (List.getElem?_eq_getElem il)
      have hd : ds[i]? = some ds[i] := List.getElem?_eq_getElem il
      generalize ds[i] = d at FA hd
      obtain ⟨⟨dx, fa⟩, ka⟩ := FA.sm s2
      have al : a ≠ l := fun z => by
        rw [z, e2] at fa
        cases fa
      refine ⟨.ref l, rfl, .inl ⟨rfl, _, .inl (.inl e2)⟩, _, rfl, a, dx, _, rfl, fa, a, ch, dx, d.1, d.2.1, .str d.2.1, rfl, fa, by rfl, l, _, _, rfl, rfl, e2, big (by rw [List.length_map]; have := all i; omega), ?_⟩
      have fa1 : (upd H2 l (.lst ((ys ++ said (ds.take i)).map V.str ++ [.str d.2.1]))) a = some (.ins C dx (flds d.1 d.2.1 ch)) := by rw [upd_ne al]; exact fa
      have chl : ch ≠ l := fun z => by
        have q := ka.at_
        rw [z, e2] at q
        cases q
      refine ⟨.ref l, rfl, .inl ⟨rfl, _, .inl (.inl upd_same)⟩, _, rfl, a, dx, _, rfl, fa1, a, ch, dx, d.1, d.2.1, .ref ch, rfl, fa1, by rfl, ch, rfl, ⟨_, .inl (.inl (by rw [upd_ne chl]; exact ka.at_))⟩, fun D nD => ?_⟩
      generalize eH3 : upd H2 l (.lst ((ys ++ said (ds.take i)).map V.str ++ [.str d.2.1])) = H3 at nD ⊢
      have h3l : H3 l = some (.lst ((ys ++ said (ds.take i)).map V.str ++ [.str d.2.1])) := by rw [← eH3, upd_same]
      have h3 : ∀ b x, b ≠ l → H2 b = some x → H3 b = some x := fun b x n e => by rw [← eH3, upd_ne n]; exact e
      refine lc_tup (K := K) (a := ch) (xs := ts.map V.ref) (fun j H' => Same H3 H' ∧ H' D = some (.lst (((d.2.2.take j).map (·.1)).map V.str))) ⟨same_put nD (Same.refl _), upd_same⟩ (fun j H' _ h => .inl (.inl (h.1 _ _ (h3 _ _ chl ka.at_)))) (fun j x H4 hx h => ?_) (fun H4 h => ?_)
      · obtain ⟨s4, e4⟩ := h
        rw [List.getElem?_map] at hx
        obtain ⟨u, hu, rfl⟩ := Option.map_eq_some_iff.mp hx
        obtain ⟨⟨m, k⟩, hc', ku⟩ := ka.get hu
        have ul : u ≠ l := fun z => by
          have q := ku.at_
          rw [z, e2] at q
          cases q
        have u4 := s4 _ _ (h3 _ _ ul ku.at_)
        refine ⟨rfl, _, rfl, u, _, _, _, rfl, rfl, .inl (.inl u4), rfl, _, e4, ?_, same_put nD s4, ?_⟩
        · rw [List.length_map, List.length_map, List.length_take]
          exact big (by have := kids4 d (List.mem_of_getElem? hd); omega)
        · rw [upd_same, List.take_add_one, hc', List.map_append, List.map_append]
          rfl
      · obtain ⟨s4, e4⟩ := h
        rw [List.length_map] at e4
        have full : d.2.2.take ts.length = d.2.2 := List.take_of_length_le (Nat.le_of_eq ka.len.symm)
        rw [full] at e4
        have h4l := s4 _ _ h3l
        refine ⟨l, D, _, _, rfl, rfl, h4l, e4, ?_, ⟨_, _, rfl⟩, fun b x n e => ?_, ?_⟩
        · rw [List.length_append, List.length_map, List.length_map, List.length_map, List.length_singleton]
          have := kids4 d (List.mem_of_getElem? hd)
          have := all i
          exact Nat.le_of_lt (big (by omega))
        · rw [upd_ne n]
          exact s4 _ _ (h3 _ _ n (k2 b x n e))
        · rw [upd_same, said_take hd]
          simp [List.map_append]
    · obtain ⟨⟨o3, o4, rfl⟩, k2, e2⟩ := h
      have s2 : Same H H2 := fun b x e => k2 b x (ne_of_none e nl) (sl _ _ e)
      rw [List.length_map, F.len, List.take_of_length_le (Nat.le_refl _)] at e2
      have lt := all ds.length
      rw [List.take_of_length_le (Nat.le_refl _)] at lt
      refine ⟨_, rfl, l, ys ++ said ds, L, rfl, .inl (.inl (.inl e2)), by omega, sub, fun st c nst hc hcL => ?_⟩
      have s3 := same_new (o := TsO P w st (among (ys ++ said ds) (ys ++ said ds).length) c) nst
      refine ⟨st, ys ++ said ds, c, rfl, upd_same, by omega, fun zs p mem srt nd _ np => ?_⟩
      have s4 := same_new (o := .lst (zs.map V.str)) np
      refine ⟨p, _, rfl, .inl ⟨.inl (.inl upd_same), fun r nr => ?_⟩⟩
      have s5 := same_new (o := .tup (zs.map V.str)) nr
      exact q r zs _ (((s2.trans s3).trans s4).trans s5) upd_same mem srt nd
end
end K04
set_option Elab.async false
set_option linter.all false
set_option autoImplicit false
set_option maxRecDepth 100000
set_option maxHeartbeats 4000000
namespace K04
open PySem PySem.Spec PyProof.Rows L2 Vb Wd Xd Xo
abbrev s_l_scheme_lines : Stmt := topS 42
theorem sc_l_scheme_lines : FnScope ["_law_plain", "_law_lines", "_law_name", "_law_sort", "_law_children", "_law_child", "_law_step"] ["_law_plain"] (defScope s_l_scheme_lines) := ⟨rfl, rfl, rfl, by decide +kernel, rfl, by decide +kernel, by decide +kernel⟩
/-- a scheme as the law writes it: its bare sort, its tops, its forms by name -/
structure PlainAt (H : Hp) (a tl d : Addr) (b : Str) (ts : List Str) (rows : List FD) (kvs : List (L2.Key × V)) : Prop where
  at_ : H a = some (.lst [.str b, .ref tl, .ref d])
  tops : H tl = some (.lst (ts.map V.str))
  dict : H d = some (.dK kvs)
  keys : kvs.map (·.1) = rows.map fun r => Sum.inr r.1
  row : ∀ r ∈ rows, ∃ (p ch : Addr) (ks : List Addr), valV kvs (Sum.inr r.1) = some (.ref p) ∧ H p = some (.tup [.str r.2.1, .ref ch]) ∧ Kids H ch ks r.2.2
  few : rows.length ≤ 40
  nam : ∀ r ∈ rows, isNam (.str r.1) = true ∧ isNam (.str r.2.1) = true
  bare : b.length ≤ 1000
  topl : ts.length ≤ 60 ∧ ∀ y ∈ ts, y.length ≤ 1000
  topj : (Txt.join " " ts).length ≤ 100000
def rowOf (rows : List FD) (y : Str) : FD := (rows.find? fun r => decide (r.1 = y)).getD ("", "", [])
def lineOf (rows : List FD) (y : Str) : Str := lineT (rowOf rows y).1 (rowOf rows y).2.1 (rowOf rows y).2.2
theorem rowOf_mem {rows : List FD} {y : Str} (h : y ∈ rows.map (·.1)) : rowOf rows y ∈ rows ∧ (rowOf rows y).1 = y := by
  obtain ⟨r, hr, rfl⟩ := List.mem_map.mp h
  unfold rowOf
  cases e : rows.find? fun q => decide (q.1 = r.1) with
  | none =>
    have := List.find?_eq_none.mp e r hr
    simp at this
  | some q =>
    have h1 := List.mem_of_find?_eq_some e
    have h2 := List.find?_some e
    exact ⟨h1, by simpa using h2⟩
def spSL : Sp := fun vs H Q _ => ∃ (a tl d : Addr) (b : Str) (ts : List Str) (rows : List FD) (kvs : List (L2.Key × V)), vs = [.ref a] ∧ PlainAt H a tl d b ts rows kvs ∧
  ∀ (p : Addr) (ys : List Str) (H' : Hp), Same H H' → H p = none → H' p = some (.lst (("bare " ++ b) :: ("tops " ++ Txt.join " " ts) :: ys.map (lineOf rows) |>.map V.str)) → ys.Perm (rows.map (·.1)) → sortedS ys = true → Q (.ref p) H'
section
variable {P : Program} {w : World} {K : PySem.W.Frag} {mg : Str → Option Value} {base : Heap}
theorem ok_l_scheme_lines (D : Df K mg "_law_scheme_lines" s_l_scheme_lines ["_law_plain"]) (z_sorted : mg "sorted" = none) (z_str : mg "str" = none) : Cg P w K mg base 1 "_law_scheme_lines" spSL := by
  refine D.ok sc_l_scheme_lines (fun vs H Q E h => ?_) (fun cdv A outer s H vs Q E f hc hr h => ?_)
  · obtain ⟨a, tl, d, b, ts, rows, kvs, rfl, _⟩ := h
    rfl
  · obtain ⟨a, tl, d, b, ts, rows, kvs, rfl, pa, q⟩ := h
    refine ⟨_, (pss_cons (ps_set (i := 1) sc_l_scheme_lines.nd rfl (Or.inl rfl) (pe_lst (pa_cons (pe_op op_add_str pe_str (pe_ix (ix_list : IxR _ (rIxL K)) (pv 0) pe_int (fun _ _ => rfl))) (pa_cons (pe_op op_add_str pe_str (pe_join pe_str (pe_ix (ix_list : IxR _ (rIxL K)) (pv 0) pe_int (fun _ _ => rfl)))) pa_nil))))
      (pss_cons (ps_for PassesOwn.never rfl (pi_list (pe_callB (call_sortedD rfl) (by rfl) z_sorted (by decide +kernel) (pa_cons (pe_ix (ix_list : IxR _ (rIxL K)) (pv 0) pe_int (fun _ _ => rfl)) pa_nil))) (pg_name (i := 2) sc_l_scheme_lines.nd rfl (Or.inl rfl))
      (pss_cons (ps_asg (pe_dget (hu_of hr) (pe_ix (ix_list : IxR _ (rIxL K)) (pv 0) pe_int (fun _ _ => rfl)) (pv 2) (fun _ _ => rfl)) (pg_tup (by rfl) (pgs_cons (pg_name (i := 3) sc_l_scheme_lines.nd rfl (Or.inl rfl)) (pgs_cons (pg_name (i := 4) sc_l_scheme_lines.nd rfl (Or.inl rfl)) pgs_nil))))
      (pss_one (ps_expr (pe_bm PySem.F.plainAttrs_list PySem.F.slot_list_append PySem.F.type_list_append mt_append (pv 1) (pa_cons (pe_join pe_str (pe_op op_cat (pe_lst (pa_cons pe_str (pa_cons (pv 2) (pa_cons (pv 3) pa_nil)))) (pe_lc (own := [("_law_child", 5), ("_law_step", 6)]) (g := gTup K 2 (gCons (gName 5) (gCons (gName 6) gNil))) (by rfl) sc_l_scheme_lines.nd (pi_tup (pv 4)) (blkOk_by (own := [("_law_child", 5), ("_law_step", 6)]) (N := ["_law_plain", "_law_lines", "_law_name", "_law_sort", "_law_children", "_law_child", "_law_step"]) (sc := defScope s_l_scheme_lines) (by decide +kernel)) (fun _ _ _ _ _ => pg_tup (by rfl) (pgs_cons (pg_name (i := 5) sc_l_scheme_lines.nd rfl (Or.inl rfl)) (pgs_cons (pg_name (i := 6) sc_l_scheme_lines.nd rfl (Or.inl rfl)) pgs_nil))) (fun _ _ _ _ _ => pts_nil) (fun _ _ _ _ _ => (pe_op op_add_str (pv 5) (pe_callTy call_str_int (by rfl) z_str (by decide +kernel) (pa_cons (pv 6) pa_nil))))))) pa_nil))))))
      (pss_one (ps_ret (pv 1))))), ?_⟩
    have hA : ∀ {H' : Hp}, Same H H' → SqL K H' a [.str b, .ref tl, .ref d] := fun s => .inl (.inl (s _ _ pa.at_))
    have l5 : ("bare " : Str).length = 5 := by decide +kernel
    have t5 : ("tops " : Str).length = 5 := by decide +kernel
    refine ⟨_, rfl, a, _, _, _, rfl, rfl, hA (Same.refl _), rfl, "bare ", b, rfl, rfl, by rw [l5]; exact fits_million (by have := pa.bare; omega), ?_⟩
    have l1' : (" " : Str).length = 1 := by decide +kernel
    have tsum := words_sum ts 1000 pa.topl.2
    refine ⟨⟨_, rfl⟩, _, rfl, a, _, _, _, rfl, rfl, hA (Same.refl _), rfl, " ", tl, ts, rfl, rfl, .inl (.inl (.inl pa.tops)), ?_, "tops ", _, rfl, rfl, by rw [t5]; exact fits_million (by have := pa.topj; omega), by show 2 ≤ sizeLine; decide, fun l nl => ?_⟩
    · rw [l1']
      have := pa.topl.1
      have : ts.length * 1000 ≤ 60 * 1000 := Nat.mul_le_mul_right _ this
      omega
    have sl := same_new (o := .lst [.str ("bare " ++ b), .str ("tops " ++ Txt.join " " ts)]) nl
    generalize eH1 : upd H l (.lst [.str ("bare " ++ b), .str ("tops " ++ Txt.join " " ts)]) = H1 at sl ⊢
    have h1l : H1 l = some (.lst [.str ("bare " ++ b), .str ("tops " ++ Txt.join " " ts)]) := by rw [← eH1, upd_same]
    have kl : (rows.map (·.1)).length ≤ 40 := by rw [List.length_map]; exact pa.few
    refine ⟨_, rfl, a, _, _, _, rfl, rfl, hA sl, rfl, d, kvs, rows.map (·.1), rfl, .inl (sl _ _ pa.dict), by rw [pa.keys, List.map_map]; rfl, by omega, fun ys p pm srt np => ?_⟩
    have sp := same_new (o := .lst (ys.map V.str)) np
    generalize eH2 : upd H1 p (.lst (ys.map V.str)) = H2 at sp ⊢
    have h2p : H2 p = some (.lst (ys.map V.str)) := by rw [← eH2, upd_same]
    have lp : p ≠ l := fun z => by
      rw [z, h1l] at np
      cases np
    have yl : ys.length ≤ 40 := by rw [pm.length_eq]; exact kl
    have sH : Same H H2 := sl.trans sp
    have big : ∀ {n : Nat}, n ≤ 100 → n < sizeLine := fun h => Nat.lt_of_le_of_lt h (by decide)
    refine ⟨p, rfl, ⟨_, .inl (.inl h2p)⟩, for_list (K := K) (a := p) (xs := ys.map V.str) (fun i σ H' => (∃ o2 o3 o4 o5 o6, σ = [some (.ref a), some (.ref l), o2, o3, o4, o5, o6]) ∧ (∀ b x, b ≠ l → H2 b = some x → H' b = some x) ∧ H' l = some (.lst ((("bare " ++ b) :: ("tops " ++ Txt.join " " ts) :: (ys.take i).map (lineOf rows)).map V.str)))
      ⟨⟨none, none, none, none, none, rfl⟩, fun _ _ _ e => e, sp _ _ h1l⟩ (fun i σ H' _ h => .inl (.inl (h.2.1 _ _ lp h2p))) (fun i x σ H3 hx h => ?_) (fun σ H3 h => ?_)⟩
    · obtain ⟨⟨o2, o3, o4, o5, o6, rfl⟩, k3, e3⟩ := h
      have s3 : Same H H3 := fun b x e => k3 b x (ne_of_none e nl) (sH _ _ e)
      rw [List.getElem?_map] at hx
      obtain ⟨y, hy, rfl⟩ := Option.map_eq_some_iff.mp hx
      have ym : y ∈ rows.map (·.1) := pm.mem_iff.mp (List.mem_of_getElem? hy)
      obtain ⟨rm, ry⟩ := rowOf_mem ym
      have lo : lineOf rows y = lineT (rowOf rows y).1 (rowOf rows y).2.1 (rowOf rows y).2.2 := rfl
      generalize rowOf rows y = r at rm ry lo
      obtain ⟨q', ch, ks, ev, eq', kk⟩ := pa.row r rm
      obtain ⟨n1, n2⟩ := pa.nam r rm
      rw [ry] at ev
      refine ⟨_, rfl, a, _, _, _, rfl, rfl, hA s3, rfl, _, rfl, d, .ref q', rfl, .inl ⟨kvs, Sum.inr y, .inl (s3 _ _ pa.dict), rfl, ev.symm⟩, q', _, rfl, .inl (.inl (s3 _ _ eq')), rfl, .str r.2.1, _, rfl, .ref ch, _, rfl, rfl, ?_⟩
      refine ⟨.ref l, rfl, .inl ⟨rfl, _, .inl (.inl e3)⟩, ⟨_, rfl⟩, _, rfl, _, rfl, (by show 3 ≤ sizeLine; decide), fun l1 nl1 => ⟨_, rfl, ch, rfl, ⟨_, .inl (.inl ((same_new nl1) _ _ (s3 _ _ kk.at_)))⟩, fun D nD => ?_⟩⟩
      have s1 := same_new (o := .lst [.str "form", .str y, .str r.2.1]) nl1
      have kk1 := kk.same (s3.trans s1)
      refine lc_tup (K := K) (a := ch) (xs := ks.map V.ref) (g := gTup K 2 (gCons (gName 5) (gCons (gName 6) gNil))) (vs := [5, 6]) (fun i H' => Same (upd H3 l1 (.lst [.str "form", .str y, .str r.2.1])) H' ∧ H' D = some (.lst (((r.2.2.take i).map wordT).map V.str))) ⟨same_put nD (Same.refl _), upd_same⟩
        (fun i H' _ h => .inl (.inl (h.1 _ _ kk1.at_))) (fun i x H6 hx h => ?_) (fun H6 h => ?_)
      · obtain ⟨s6, e6⟩ := h
        rw [List.getElem?_map] at hx
        obtain ⟨u, hu, rfl⟩ := Option.map_eq_some_iff.mp hx
        obtain ⟨⟨m, k⟩, hc', kt⟩ := kk1.get hu
        have kt1 := kt.same s6
        have ml' := (nam_len kt.nam).2.1
        refine ⟨u, _, rfl, .inl (.inl kt1.at_), rfl, .str m, _, rfl, .int k, _, rfl, rfl, rfl, _, rfl, _, rfl, k, rfl, log_small kt.lo kt.hi, m, _, rfl, rfl, ?_, ?_⟩
        · rw [one_sign kt.lo kt.hi]
          exact fits_million (by simp only at ml'; omega)
        · refine ⟨_, e6, ?_, same_put nD s6, ?_⟩
          · rw [List.length_map, List.length_map, List.length_take]
            have := kk.len
            have := kk.hi
            exact big (by omega)
          · rw [upd_same, List.take_add_one, hc', List.map_append, List.map_append]
            rfl
      · obtain ⟨s6, e6⟩ := h
        rw [List.length_map, kk.len, List.take_of_length_le (Nat.le_refl _)] at e6
        have c4 : r.2.2.length ≤ 4 := by
          have := kk.len
          have := kk.hi
          omega
        refine ⟨l1, D, _, _, rfl, rfl, s6 _ _ upd_same, e6, ?_, fun l3 nl3 => ⟨" ", l3, "form" :: y :: r.2.1 :: r.2.2.map wordT, rfl, rfl, .inl (.inl (.inl ?_)), ?_, ?_⟩⟩
        · simp only [List.length_cons, List.length_nil, List.length_map]
          exact Nat.le_of_lt (big (by omega))
        · rw [upd_same]
          rfl
        · have wl : ∀ z ∈ r.2.2.map wordT, z.length ≤ 9 := fun z hz => by
            obtain ⟨c, hc', rfl⟩ := List.mem_map.mp hz
            obtain ⟨j, hj⟩ := List.mem_iff_getElem?.mp hc'
            have jl := (List.getElem?_eq_some_iff.mp hj).1
            have kj := kk.kid j (ks[j]'(by have := kk.len; omega)) c (List.getElem?_eq_getElem _) hj
            exact word_len kj
          have sm := words_sum (r.2.2.map wordT) 9 wl
          have l4 : ("form" : Str).length = 4 := by decide +kernel
          have h1 := (nam_len n1).2.1
          rw [ry] at h1
          have h2 := (nam_len n2).2.1
          rw [List.length_map] at sm
          simp only [List.map_cons, List.sum_cons, List.length_cons, List.length_map]
          rw [l4, l1']
          omega
        · have s16 := s1.trans s6
          have s17 := s16.trans (same_new (o := .lst ([.str "form", .str y, .str r.2.1] ++ ((r.2.2.map wordT).map V.str))) nl3)
          refine ⟨l, _, _, rfl, rfl, s17 _ _ e3, ?_, ⟨_, _, _, _, _, rfl⟩, fun b x bl e => ?_, ?_⟩
          · simp only [List.length_map, List.length_cons, List.length_take]
            exact big (by omega)
          · rw [upd_ne bl]
            exact s17 _ _ (k3 b x bl e)
          · rw [upd_same, List.take_add_one, hy]
            simp only [Option.toList, List.map_append, List.map_cons, List.map_nil, lo, ry, List.cons_append]
            rfl
    · obtain ⟨⟨o2, o3, o4, o5, o6, rfl⟩, k3, e3⟩ := h
      have s3 : Same H H3 := fun b x e => k3 b x (ne_of_none e nl) (sH _ _ e)
      rw [List.length_map, List.take_of_length_le (Nat.le_refl _)] at e3
      exact ⟨_, rfl, q l ys _ s3 nl e3 pm srt⟩
end
end K04
set_option Elab.async false
set_option linter.all false
set_option autoImplicit false
set_option maxRecDepth 100000
set_option maxHeartbeats 4000000
namespace K04
open PySem PySem.Spec PyProof.Rows L2 Vb Wd Xd Xo
/-- what the written part tells of the class Scheme -/
structure SchemeC (K : PySem.W.Frag) (C : Addr) : Prop where
  c : Cls K C
  n : ∀ f ∈ ["_bare", "_tops", "_by_name", "_names", "_forms", "_sorts"], NoAttr K C f
/-- a getter: the field f -/
def spFld (C : Addr) (f : Str) : Sp := fun vs H Q _ => ∃ (a dx : Addr) (fs : List (Str × V)) (v : V), vs = [.ref a] ∧ H a = some (.ins C dx fs) ∧ fs.lookup f = some v ∧ Q v H
abbrev s_S_bare : Stmt := inB (topS 24) 2
theorem sc_S_bare : FnScope ["self"] ["self"] (defScope s_S_bare) := ⟨rfl, rfl, rfl, by decide +kernel, rfl, by decide +kernel, by decide +kernel⟩
abbrev s_S_tops : Stmt := inB (topS 24) 3
theorem sc_S_tops : FnScope ["self"] ["self"] (defScope s_S_tops) := ⟨rfl, rfl, rfl, by decide +kernel, rfl, by decide +kernel, by decide +kernel⟩
abbrev s_S_forms : Stmt := inB (topS 24) 4
theorem sc_S_forms : FnScope ["self"] ["self"] (defScope s_S_forms) := ⟨rfl, rfl, rfl, by decide +kernel, rfl, by decide +kernel, by decide +kernel⟩
abbrev s_S_names : Stmt := inB (topS 24) 5
theorem sc_S_names : FnScope ["self"] ["self"] (defScope s_S_names) := ⟨rfl, rfl, rfl, by decide +kernel, rfl, by decide +kernel, by decide +kernel⟩
abbrev s_S_sorts : Stmt := inB (topS 24) 6
theorem sc_S_sorts : FnScope ["self"] ["self"] (defScope s_S_sorts) := ⟨rfl, rfl, rfl, by decide +kernel, rfl, by decide +kernel, by decide +kernel⟩
section
variable {P : Program} {w : World} {K : PySem.W.Frag} {mg : Str → Option Value} {base : Heap} {C : Addr}
theorem ok_S_bare {f : Addr} {fd : FuncData} (F : Fun K "bare" "Scheme.bare" s_S_bare f fd) (T : SchemeC K C) : FnG P w K mg base 1 f fd ["self"] (spFld C "_bare") := by
  refine goes_by F sc_S_bare (fun vs H Q E h => ?_) (fun cdv A outer s H vs Q E hc hr h => ?_)
  · obtain ⟨a, dx, fs, v, rfl, _⟩ := h
    rfl
  · obtain ⟨a, dx, fs, v, rfl, ha, hv, q⟩ := h
    exact ⟨_, pss_one (ps_ret (pe_fld (f := "_bare") (pv 0) (by rfl))), _, rfl, a, C, dx, fs, v, rfl, ha, T.c, T.n _ (by simp), hv, q⟩
theorem ok_S_tops {f : Addr} {fd : FuncData} (F : Fun K "tops" "Scheme.tops" s_S_tops f fd) (T : SchemeC K C) : FnG P w K mg base 1 f fd ["self"] (spFld C "_tops") := by
  refine goes_by F sc_S_tops (fun vs H Q E h => ?_) (fun cdv A outer s H vs Q E hc hr h => ?_)
  · obtain ⟨a, dx, fs, v, rfl, _⟩ := h
    rfl
  · obtain ⟨a, dx, fs, v, rfl, ha, hv, q⟩ := h
    exact ⟨_, pss_one (ps_ret (pe_fld (f := "_tops") (pv 0) (by rfl))), _, rfl, a, C, dx, fs, v, rfl, ha, T.c, T.n _ (by simp), hv, q⟩
theorem ok_S_forms {f : Addr} {fd : FuncData} (F : Fun K "forms" "Scheme.forms" s_S_forms f fd) (T : SchemeC K C) : FnG P w K mg base 1 f fd ["self"] (spFld C "_forms") := by
  refine goes_by F sc_S_forms (fun vs H Q E h => ?_) (fun cdv A outer s H vs Q E hc hr h => ?_)
  · obtain ⟨a, dx, fs, v, rfl, _⟩ := h
    rfl
  · obtain ⟨a, dx, fs, v, rfl, ha, hv, q⟩ := h
    exact ⟨_, pss_one (ps_ret (pe_fld (f := "_forms") (pv 0) (by rfl))), _, rfl, a, C, dx, fs, v, rfl, ha, T.c, T.n _ (by simp), hv, q⟩
theorem ok_S_names {f : Addr} {fd : FuncData} (F : Fun K "names" "Scheme.names" s_S_names f fd) (T : SchemeC K C) : FnG P w K mg base 1 f fd ["self"] (spFld C "_names") := by
  refine goes_by F sc_S_names (fun vs H Q E h => ?_) (fun cdv A outer s H vs Q E hc hr h => ?_)
  · obtain ⟨a, dx, fs, v, rfl, _⟩ := h
    rfl
  · obtain ⟨a, dx, fs, v, rfl, ha, hv, q⟩ := h
    exact ⟨_, pss_one (ps_ret (pe_fld (f := "_names") (pv 0) (by rfl))), _, rfl, a, C, dx, fs, v, rfl, ha, T.c, T.n _ (by simp), hv, q⟩
theorem ok_S_sorts {f : Addr} {fd : FuncData} (F : Fun K "sorts" "Scheme.sorts" s_S_sorts f fd) (T : SchemeC K C) : FnG P w K mg base 1 f fd ["self"] (spFld C "_sorts") := by
  refine goes_by F sc_S_sorts (fun vs H Q E h => ?_) (fun cdv A outer s H vs Q E hc hr h => ?_)
  · obtain ⟨a, dx, fs, v, rfl, _⟩ := h
    rfl
  · obtain ⟨a, dx, fs, v, rfl, ha, hv, q⟩ := h
    exact ⟨_, pss_one (ps_ret (pe_fld (f := "_sorts") (pv 0) (by rfl))), _, rfl, a, C, dx, fs, v, rfl, ha, T.c, T.n _ (by simp), hv, q⟩
end
end K04
set_option Elab.async false
set_option linter.all false
set_option autoImplicit false
set_option maxRecDepth 100000
set_option maxHeartbeats 4000000
namespace K04
open PySem PySem.Spec PyProof.Rows L2 Vb Wd Xd Xo Xq Xv StX
abbrev s_S_lines : Stmt := inB (topS 24) 7
theorem sc_S_lines : FnScope ["self", "forms", "form"] ["self"] (defScope s_S_lines) := ⟨rfl, rfl, rfl, by decide +kernel, rfl, by decide +kernel, by decide +kernel⟩
def fldsS (b : Str) (t bn nm f so : Addr) : List (Str × V) := [("_bare", .str b), ("_tops", .ref t), ("_by_name", .ref bn), ("_names", .ref nm), ("_forms", .ref f), ("_sorts", .ref so)]
def lineF (d : FD) : Str := lineT d.1 d.2.1 d.2.2
def spLinesS (C CS : Addr) : Sp := fun vs H Q _ => ∃ (a dx t bn nm f so : Addr) (b : Str) (ys : List Str) (fs : List Addr) (ds : List FD), vs = [.ref a] ∧ H a = some (.ins CS dx (fldsS b t bn nm f so)) ∧ H t = some (.tup (ys.map V.str)) ∧ H f = some (.tup (fs.map V.ref)) ∧ Forms H C fs ds ∧
  b.length ≤ 1000 ∧ ys.length ≤ 60 ∧ (∀ y ∈ ys, y.length ≤ 1000) ∧ fs.length ≤ 40 ∧ (∀ d ∈ ds, d.1.length ≤ 1000 ∧ d.2.1.length ≤ 1000) ∧
  ∀ (p : Addr) (H' : Hp), Same H H' → H' p = some (.tup ((("bare " ++ b) :: Txt.join " " ("tops" :: ys) :: ds.map lineF).map V.str)) → Q (.ref p) H'
section
variable {P : Program} {w : World} {K : PySem.W.Frag} {mg : Str → Option Value} {base : Heap} {C CS : Addr}
theorem ok_S_lines {f fS : Addr} {fd fdS : FuncData} (F : Fun K "lines" "Scheme.lines" s_S_lines f fd) (T : SchemeC K CS) (FS : FnG P w K mg base 1 fS fdS ["self"] (spStr C)) (eS : PySem.W.findIn K (.ref C) "__str__" = some (some (.ref fS))) (tS : PySem.W.isFn K (.ref fS) = true) (bS : Binds K fdS ["self"] []) (z_str : mg "str" = none) : FnG P w K mg base 4 f fd ["self"] (spLinesS C CS) := by
  refine goes_by F sc_S_lines (fun vs H Q E h => ?_) (fun cdv A outer s H vs Q E hc hr h => ?_)
  · obtain ⟨a, dx, t, bn, nm, f, so, b, ys, fs, ds, rfl, _⟩ := h
    rfl
  · obtain ⟨a, dx, t, bn, nm, f, so, b, ys, fs, ds, rfl, ha, ht, hf, FF, lb, ly, lys, lf, ld, q⟩ := h
    refine ⟨_, (pss_cons (ps_setLc (i := 1) (own := [("form", 2)]) (g := gName 2) (by rfl) sc_S_lines.nd rfl rfl (sw_true rfl rfl rfl (by decide +kernel)) (pi_tup (pe_fld (f := "_forms") (pv 0) (by rfl)))
        (blkOk_by (own := [("form", 2)]) (N := ["self", "forms", "form"]) (sc := defScope s_S_lines) (by decide +kernel)) (fun _ _ _ _ _ => pg_name (i := 2) sc_S_lines.nd rfl (Or.inl rfl)) (fun _ _ _ _ _ => pts_nil)
        (fun _ _ _ _ _ => (pe_callTy (call_strO FS eS tS bS hc (hr.mono (by decide))) (by rfl) z_str (by decide +kernel) (pa_cons (pv 2) pa_nil))))
      (pss_one (ps_ret (pe_tup (pa_cons (pe_joined (.cons pe_str (.cons (pe_fmt (pe_fld (f := "_bare") (pv 0) (by rfl))) .nil))) (pa_cons (pe_join pe_str (pe_lst (pa_cons pe_str (pa_star (pe_fld (f := "_tops") (pv 0) (by rfl)) pa_nil)))) (pa_star (pv 1) pa_nil))))))), ?_⟩
    have big : ∀ {n : Nat}, n ≤ 100 → n < sizeLine := fun h => Nat.lt_of_le_of_lt h (by decide)
    refine ⟨_, rfl, a, CS, dx, _, .ref f, rfl, ha, T.c, T.n "_forms" (by simp), by rfl, f, rfl, ⟨_, .inl (.inl hf)⟩, fun D nD => ?_⟩
    refine lc_tup (K := K) (a := f) (xs := fs.map V.ref) (g := gName 2) (vs := [2]) (fun i H' => Same H H' ∧ H' D = some (.lst (((ds.take i).map lineF).map V.str))) ⟨same_put nD (Same.refl H), upd_same⟩ (fun i H' _ h => .inl (.inl (h.1 _ _ hf))) (fun i x H1 hx h => ?_) (fun H1 h => ?_)
    · obtain ⟨s1, e1⟩ := h
      rw [List.getElem?_map] at hx
      obtain ⟨a', ha', rfl⟩ := Option.map_eq_some_iff.mp hx
      have il : i < ds.length := by
        have := (List.getElem?_eq_some_iff.mp ha').1
        have := FF.len
        omega
      obtain ⟨ch, ts, FA⟩ := FF.at_ i a' ds[i] ha' (List.getElem?_eq_getElem il)
      have hd : ds[i]? = some ds[i] := List.getElem?_eq_getElem il
      generalize ds[i] = d at FA hd
      obtain ⟨h1, h2⟩ := ld d (List.mem_of_getElem? hd)
      have F1 := FA.sm s1
      obtain ⟨⟨dx', fa⟩, _⟩ := id F1
      refine ⟨rfl, _, rfl, a', dx', _, rfl, fa, a', ch, d.1, d.2.1, ts, d.2.2, rfl, F1, h1, h2, fun H2 s2 => ⟨_, rfl, _, s2 _ _ e1, ?_, same_put nD (s1.trans s2), ?_⟩⟩
      · rw [List.length_map, List.length_map, List.length_take]
        have := FF.len
        exact big (by omega)
      · rw [upd_same, List.take_add_one, hd, List.map_append, List.map_append]
        rfl
    · obtain ⟨s1, e1⟩ := h
      rw [List.length_map, FF.len, List.take_of_length_le (Nat.le_refl _)] at e1
      have l5 : ("bare " : Str).length = 5 := by decide +kernel
      have l4 : ("tops" : Str).length = 4 := by decide +kernel
      have l1' : (" " : Str).length = 1 := by decide +kernel
      have tsum := words_sum ys 1000 lys
      have tm : ys.length * 1000 ≤ 60 * 1000 := Nat.mul_le_mul_right _ ly
      refine ⟨"bare ", rfl, by rw [empty_app, l5]; decide, _, rfl, a, CS, dx, _, .str b, rfl, s1 _ _ ha, T.c, T.n "_bare" (by simp), by rfl, .inl ⟨b, rfl, fits_million (by omega), b, rfl, by rw [empty_app, PySem.Str.length_append, l5]; exact fits_million (by omega), ?_⟩⟩
      refine ⟨⟨_, rfl⟩, _, rfl, a, CS, dx, _, .ref t, rfl, s1 _ _ ha, T.c, T.n "_tops" (by simp), by rfl, t, _, rfl, .inl (.inl (.inl (s1 _ _ ht))), ?_, fun p np => ⟨" ", p, "tops" :: ys, rfl, rfl, .inl (.inl (.inl ?_)), ?_, ?_⟩⟩
      · simp only [List.length_cons, List.length_append, List.length_map, List.length_nil]
        exact Nat.le_of_lt (big (by omega))
      · rw [upd_same, List.append_nil]
        rfl
      · simp only [List.map_cons, List.sum_cons, List.length_cons]
        rw [l4, l1']
        omega
      · have sp := same_new (o := .lst (V.str "tops" :: (ys.map V.str ++ []))) np
        have eD := sp _ _ e1
        refine ⟨_, rfl, D, _, rfl, .inr (.inl (.inl eD)), ?_, fun r nr => ?_⟩
        · simp only [List.length_cons, List.length_append, List.length_map, List.length_nil]
          have := FF.len
          exact Nat.le_of_lt (big (by omega))
        · refine q r _ ((s1.trans sp).trans (same_new nr)) ?_
          rw [upd_same, empty_app, List.append_nil]
          rfl
end
end K04
set_option Elab.async false
set_option linter.all false
set_option autoImplicit false
set_option maxRecDepth 100000
set_option maxHeartbeats 4000000
/-! Na: what a search among tuples of any depth asks of them; lists without repetition. -/
namespace Na
open PySem PySem.Spec PyProof.Rows L2 Vb
/-! ### lists without repetition -/
theorem same_count {α : Type} [DecidableEq α] : ∀ (ys out : List α), out.Nodup → (∀ k, k ∈ out ↔ k ∈ ys) → out.length ≤ ys.length ∧ (out.length = ys.length ↔ ys.Nodup)
  | [], out, nd, m => by
    have e : out = [] := List.eq_nil_iff_forall_not_mem.mpr fun k hk => nomatch (m k).mp hk
    subst e
    exact ⟨Nat.le_refl _, fun _ => List.nodup_nil, fun _ => rfl⟩
  | y :: ys, out, nd, m => by
    have few := Ts.nodup_len out (y :: ys) nd fun k hk => (m k).mp hk
    refine ⟨few, fun e => ?_, fun nd' => ?_⟩
    · by_cases hy : y ∈ ys
      · have := Ts.nodup_len out ys nd fun k hk => (List.mem_cons.mp ((m k).mp hk)).elim (fun q => q ▸ hy) id
        rw [List.length_cons] at e
        omega
      · have my : y ∈ out := (m y).mpr List.mem_cons_self
        have nd2 : (out.erase y).Nodup := nd.erase y
        have m2 : ∀ k, k ∈ out.erase y ↔ k ∈ ys := fun k => by
          rw [nd.mem_erase_iff]
          refine ⟨fun ⟨n, h⟩ => (List.mem_cons.mp ((m k).mp h)).resolve_left n, fun h => ⟨fun q => hy (q ▸ h), (m k).mpr (List.mem_cons_of_mem _ h)⟩⟩
        have l2 : (out.erase y).length = ys.length := by
          rw [List.length_erase_of_mem my, e]
          rfl
        exact List.nodup_cons.mpr ⟨hy, ((same_count ys (out.erase y) nd2 m2).2).mp l2⟩
    · exact Nat.le_antisymm few (Ts.nodup_len (y :: ys) out nd' fun k hk => (m k).mpr hk)
/-! ### what is asked of a tuple -/
section
variable {P : Program} {w : World} {s : Shared}
/-- the question f about v is answered by some b of which p is true, and nothing else happens -/
def Ans (P : Program) (w : World) (f : Value → Sem Bool) (s : Shared) (p : Bool → Prop) (v : Value) : Prop := ∀ (A : Around) (E : Value → Shared → Prop) (Q : Bool → Shared → Prop), (∀ b, p b → Q b s) → wpAny (model P w) A (f v) Q E s
theorem cls_of_tup {n m : Nat} {a : Addr} {ob : Obj} {us : Array Value} (eo : s.heap.get? a = some ob) (ec : ob.cls = .type "tuple") (ed : ob.data = .seq us m) (all : ∀ u ∈ us.toList, Ans P w (ofAClassStatement n) s (· = false) u) :
    Ans P w (ofAClassStatement (n + 1)) s (· = false) (.ref a) := fun A E Q q => by
  have ty : s.TypeIs (.ref a) "tuple" := ⟨ob, eo, ec⟩
  unfold ofAClassStatement
  refine wpAny_bind (wpAny_typeOf ty ?_)
  dsimp only
  simp only [beq_self_eq_true, if_true]
  refine wpAny_bind (wpAny_pure ?_)
  simp only [Bool.not_true, Bool.false_eq_true, if_false]
  show wpAny _ _ (seqItems? (.ref a) >>= _) _ _ s
  refine wpAny_bind (wpAny_seqItems eo ed ?_)
  dsimp only
  refine wpAny_bind ?_
  show wpAny _ _ (forIn us _ _) _ _ s
  rw [← Array.forIn_toList]
  refine wpAny_forIn_list _ (fun l r s1 => s1 = s ∧ r.1 = none ∧ ∀ u ∈ l, Ans P w (ofAClassStatement n) s (· = false) u) _ ?_ ?_ _ _ ⟨rfl, rfl, all⟩
  · rintro u l r s1 ⟨rfl, er, h⟩
    refine wpAny_bind (h u List.mem_cons_self A _ _ fun b hb => ?_)
    subst hb
    simp only [Bool.false_eq_true, if_false]
    exact wpAny_pure ⟨rfl, rfl, fun u' hu => h u' (List.mem_cons_of_mem _ hu)⟩
  · rintro ⟨r1, r2⟩ s1 ⟨rfl, er, _⟩
    simp only at er
    subst er
    exact wpAny_pure (q false rfl)
theorem val_of_tup {n m : Nat} {a : Addr} {ob : Obj} {us : Array Value} (eo : s.heap.get? a = some ob) (ec : ob.cls = .type "tuple") (ed : ob.data = .seq us m) (all : ∀ u ∈ us.toList, Ans P w (hashByValue n) s (fun _ => True) u) :
    Ans P w (hashByValue (n + 1)) s (fun _ => True) (.ref a) := fun A E Q q => by
  have ty : s.TypeIs (.ref a) "tuple" := ⟨ob, eo, ec⟩
  unfold hashByValue
  refine wpAny_bind (wpAny_specialOf ty PySem.F.slot_tuple_hash.lookup ?_)
  show wpAny _ _ (seqItems? (.ref a) >>= _) _ _ s
  refine wpAny_bind (wpAny_seqItems eo ed (wpAny_bind ?_))
  show wpAny _ _ (forIn us _ _) _ _ s
  rw [← Array.forIn_toList]
  refine wpAny_forIn_list _ (fun l r s1 => s1 = s ∧ r.1 = none ∧ ∀ u ∈ l, Ans P w (hashByValue n) s (fun _ => True) u) _ ?_ ?_ _ _ ⟨rfl, rfl, all⟩
  · rintro u l r s1 ⟨rfl, er, h⟩
    refine wpAny_bind (h u List.mem_cons_self A _ _ fun b _ => ?_)
    cases b with
    | true =>
      simp only [Bool.not_true, Bool.false_eq_true, if_false]
      exact wpAny_pure ⟨rfl, rfl, fun u' hu => h u' (List.mem_cons_of_mem _ hu)⟩
    | false =>
      simp only [Bool.not_false, if_true]
      exact wpAny_pure (wpAny_pure (q false trivial))
  · rintro ⟨r1, r2⟩ s1 ⟨rfl, er, _⟩
    simp only at er
    subst er
    exact wpAny_pure (q true trivial)
theorem cls_flat (n : Nat) {v : Value} (h : ∀ a, v ≠ .ref a) : Ans P w (ofAClassStatement n) s (· = false) v := fun A E Q q => by
  have e : ofAClassStatement n v = pure false := by
    cases v with
    | ref a => exact absurd rfl (h a)
    | _ => cases n <;> rfl
  rw [e]
  exact wpAny_pure (q false rfl)
mutual
theorem cls_key : ∀ (k : NestedKey) (v : Value) (n : Nat), NestedIs s.heap k v → k.depth ≤ n → Ans P w (ofAClassStatement n) s (· = false) v
  | .none, _, n, x, _ => by cases x; exact cls_flat n fun a z => nomatch z
  | .num _, _, n, x, _ => by cases x <;> exact cls_flat n fun a z => nomatch z
  | .text _, _, n, x, _ => by cases x; exact cls_flat n fun a z => nomatch z
  | .tup ks, _, n, x, d => by
    cases x with
    | tup eo ec ed al =>
      simp only [NestedKey.depth] at d
      cases n with
      | zero => omega
      | succ n => exact cls_of_tup eo ec ed (cls_keys ks _ n al (by omega))
theorem cls_keys : ∀ (ks : List NestedKey) (us : List Value) (n : Nat), NestedAll s.heap ks us → NestedKey.depthAll ks ≤ n → ∀ u ∈ us, Ans P w (ofAClassStatement n) s (· = false) u
  | [], _, _, x, _, u, hu => by cases x; cases hu
  | k :: ks, _, n, x, d, u, hu => by
    cases x with
    | cons x1 x2 =>
      simp only [NestedKey.depthAll] at d
      rcases List.mem_cons.mp hu with rfl | hu
      · exact cls_key k _ n x1 (by omega)
      · exact cls_keys ks _ n x2 (by omega) u hu
end
mutual
theorem val_key : ∀ (k : NestedKey) (v : Value) (n : Nat), NestedIs s.heap k v → k.depth ≤ n → Ans P w (hashByValue n) s (fun _ => True) v
  | .none, _, n, x, _ => by
    cases x
    exact fun A E Q q => by cases n <;> exact wpAny_pure (q true trivial)
  | .num _, _, n, x, _ => by cases x <;> exact fun A E Q q => by cases n <;> exact wpAny_pure (q true trivial)
  | .text _, _, n, x, _ => by
    cases x
    exact fun A E Q q => by cases n <;> exact wpAny_pure (q false trivial)
  | .tup ks, _, n, x, d => by
    cases x with
    | tup eo ec ed al =>
      simp only [NestedKey.depth] at d
      cases n with
      | zero => omega
      | succ n => exact val_of_tup eo ec ed (val_keys ks _ n al (by omega))
theorem val_keys : ∀ (ks : List NestedKey) (us : List Value) (n : Nat), NestedAll s.heap ks us → NestedKey.depthAll ks ≤ n → ∀ u ∈ us, Ans P w (hashByValue n) s (fun _ => True) u
  | [], _, _, x, _, u, hu => by cases x; cases hu
  | k :: ks, _, n, x, d, u, hu => by
    cases x with
    | cons x1 x2 =>
      simp only [NestedKey.depthAll] at d
      rcases List.mem_cons.mp hu with rfl | hu
      · exact val_key k _ n x1 (by omega)
      · exact val_keys ks _ n x2 (by omega) u hu
end
/-- the key k, a tuple, stands at b -/
def Key (h : Heap) (k : NestedKey) (b : Addr) : Prop := NestedIs h k (.ref b) ∧ k.depth ≤ 8
theorem Key.at {h h' : Heap} {k : NestedKey} {b : Addr} (x : Key h k b) (hk : ∀ c o us n, h.get? c = some o → o.data = .seq us n → h'.get? c = some o) : Key h' k b := ⟨x.1.at hk k _, x.2⟩
theorem Key.ext {h h' : Heap} {k : NestedKey} {b : Addr} (x : Key h k b) (hk : ∀ c o, h.get? c = some o → h'.get? c = some o) : Key h' k b := x.at fun c o _ _ e _ => hk c o e
theorem Key.but {h h' : Heap} {k : NestedKey} {a b : Addr} {ob : Obj} {es : Array (Int × Value)} {ep : Nat} {t : SetTable} (x : Key h k b) (eo : h.get? a = some ob) (ed : ob.data = .set es ep t) (sb : Heap.SameBut a h h') : Key h' k b :=
  x.at fun c o us n e d => (sb.2 c fun z => by
    rw [z, eo] at e
    cases e
    rw [ed] at d
    cases d).trans e
/-- a search among tuples shows nothing -/
theorem unseen {A : Around} {E : Value → Shared → Prop} {Q : Bool → Shared → Prop} {k : NestedKey} {b : Addr} (x : Key s.heap k b) {ys : List Value} (hy : ∀ y ∈ ys, ∃ k' c, y = Value.ref c ∧ Key s.heap k' c) (q : Q false s) : wpAny (model P w) A (searchCouldBeSeen (.ref b) ys) Q E s := by
  unfold searchCouldBeSeen
  refine wpAny_bind ?_
  refine wpAny_forIn_list _ (fun l r s1 => s1 = s ∧ r.1 = none ∧ ∀ y ∈ l, ∃ k' c, y = Value.ref c ∧ Key s.heap k' c) _ ?_ ?_ _ _ ⟨rfl, rfl, hy⟩
  · rintro y l r s1 ⟨rfl, er, h⟩
    obtain ⟨k', c, rfl, xc⟩ := h y List.mem_cons_self
    have h' : ∀ y ∈ l, ∃ k' c, y = Value.ref c ∧ Key s1.heap k' c := fun u hu => h u (List.mem_cons_of_mem _ hu)
    dsimp only
    by_cases same : (b == c || (carriedByValue (.ref b) && carriedByValue (.ref c))) = true
    · exact wp_if_pos same (wpAny_pure ⟨rfl, rfl, h'⟩)
    · refine wp_if_neg same (wpAny_bind ((nestedKind P w).quiet x ?_))
      simp only [Bool.not_true, Bool.false_eq_true, if_false]
      refine wpAny_bind ((nestedKind P w).quiet xc ?_)
      simp only [Bool.not_true, Bool.false_eq_true, if_false]
      refine wpAny_bind (cls_key k _ 8 x.1 x.2 A _ _ fun b1 e1 => ?_)
      subst e1
      simp only [Bool.false_eq_true, if_false]
      refine wpAny_bind (cls_key k' _ 8 xc.1 xc.2 A _ _ fun b1 e1 => ?_)
      subst e1
      simp only [Bool.false_eq_true, if_false]
      exact wpAny_pure ⟨rfl, rfl, h'⟩
  · rintro ⟨r1, r2⟩ s1 ⟨rfl, er, _⟩
    simp only at er
    subst er
    exact wpAny_pure q
end
end Na
set_option Elab.async false
set_option linter.all false
set_option autoImplicit false
set_option maxRecDepth 100000
set_option maxHeartbeats 4000000
/-! Nb: the table of a set of tuples of any depth: a search in it, one more put in, the table laid anew. -/
namespace Nb
open PySem PySem.Spec PyProof.Rows L2 Vb Na
section
variable {P : Program} {w : World} {A : Around} {E : Value → Shared → Prop} {s : Shared}
abbrev Mem := NestedKey × Addr
def ents (w : World) (ms : List Mem) : List (Int × Value) := ms.map fun m => (m.1.hash w, Value.ref m.2)
def hshs (w : World) (ms : List Mem) : List Int := ms.map fun m => m.1.hash w
/-- the state of a search behind c steps -/
def stn (m : Nat) (h : Int) (c : Nat) : SetTable.Probe := nth m (runAt m (SetTable.bits h % (m + 1)) (SetTable.bits h)) c
theorem stn_j (m : Nat) (h : Int) (c : Nat) : (stn m h c).j = way m h c := rfl
theorem stn_add (m : Nat) (h : Int) (c q : Nat) : nth m (stn m h c) q = stn m h (c + q) := (nth_add m c _ q).symm
theorem nth_dummy (m : Nat) : ∀ (n : Nat) (p : SetTable.Probe), p.dummy = none → (nth m p n).dummy = none
  | 0, _, h => h
  | n + 1, p, h => nth_dummy m n (adv m p) (by
      unfold adv
      split <;> exact h)
theorem stn_dummy (m : Nat) (h : Int) (c : Nat) : (stn m h c).dummy = none := nth_dummy m c _ rfl
/-- the set at a has just the keys of ms, each once -/
structure Tab (w : World) (h : Heap) (a : Addr) (ms : List Mem) (es : Array (Int × Value)) (ep : Nat) (t : SetTable) : Prop where
  obj : ∃ ob, h.get? a = some ob ∧ ob.ExactSet ∧ ob.data = .set es ep t
  rows : es.toList = ents w ms
  tab : TabOk t (hshs w ms)
  once : (ms.map (·.1)).Nodup
  keys : ∀ m ∈ ms, Key h m.1 m.2
  room : ms.length * 5 < t.mask * 3
  few : ms.length < 64
variable {a : Addr} {ms : List Mem} {es : Array (Int × Value)} {ep : Nat} {t : SetTable}
theorem ents_len (w : World) (ms : List Mem) : (ents w ms).length = ms.length := List.length_map ..
theorem hshs_len (w : World) (ms : List Mem) : (hshs w ms).length = ms.length := List.length_map ..
theorem Tab.size (T : Tab w s.heap a ms es ep t) : es.size = ms.length := by
  rw [← Array.length_toList, T.rows, ents_len]
theorem Tab.psize (T : Tab w s.heap a ms es ep t) : t.place.size = ms.length := T.tab.sz.trans (hshs_len w ms)
theorem fits_of {t : SetTable} {n : Nat} (dm : t.dummies = #[]) (p : t.place.size = n) (h : n ≤ t.mask) : t.fits n = true := by
  unfold SetTable.fits SetTable.fill
  rw [dm, p]
  simp only [List.size_toArray, List.length_nil, Nat.add_zero, beq_self_eq_true, Bool.true_and, decide_eq_true_eq]
  exact h
theorem Tab.fit (T : Tab w s.heap a ms es ep t) : t.fits es.size = true := fits_of T.tab.dm (T.psize.trans T.size.symm) (by
  have := T.room
  have := T.size
  omega)
theorem Tab.row (T : Tab w s.heap a ms es ep t) {i : Nat} {m : Mem} (e : ms[i]? = some m) : es[i]? = some (m.1.hash w, Value.ref m.2) := by
  have q : es.toList[i]? = some (m.1.hash w, Value.ref m.2) := by
    rw [T.rows]
    show (ms.map _)[i]? = _
    rw [List.getElem?_map, e]
    rfl
  rw [Array.getElem?_toList] at q
  exact q
theorem Tab.stays (T : Tab w s.heap a ms es ep t) : ¬ t.gaveWay = true := by
  unfold SetTable.gaveWay
  rw [mask_odd T.tab.mok]
  decide
/-- the search, c steps behind its start -/
theorem look_from (T : Tab w s.heap a ms es ep t) {k : NestedKey} {b : Addr} (x : Key s.heap k b) (hu : A.units + 8 < cLine) {z : Nat} (lz : z < 10 * SetTable.turns t.mask) (free : way t.mask (k.hash w) z ∉ t.place.toList) (full : ∀ c, c < z → way t.mask (k.hash w) c ∈ t.place.toList)
    {Q : SetFound → Shared → Prop} (there : k ∈ ms.map (·.1) → Q (.there none) s) (gone : k ∉ ms.map (·.1) → Q (.free (way t.mask (k.hash w) z) false) s) :
    ∀ (f c : Nat) (p : Option SetTable.Probe), p.getD (t.probeStart (k.hash w)) = stn t.mask (k.hash w) c → c ≤ z → z < f + c → (∀ (i : Nat) (m : Mem), ms[i]? = some m → m.1 = k → ∃ c', c ≤ c' ∧ c' < z ∧ t.place.toList[i]? = some (way t.mask (k.hash w) c')) →
      wpAny (model P w) A (setSearchFrom a (.ref b) (k.hash w) true f p) Q E s := by
  intro f
  induction f with
  | zero =>
    intro c p _ h1 h2 _
    omega
  | succ f again =>
    intro c p ep0 hc hf ahead
    obtain ⟨ob, eo, _, ed⟩ := T.obj
    have hashAt : ∀ (i : Nat) (m : Mem), ms[i]? = some m → (es[i]?.map (·.1)).getD 0 = m.1.hash w := fun i m e => by
      rw [T.row e]
      rfl
    have onway : ∀ q, (nth t.mask (stn t.mask (k.hash w) c) q).j = way t.mask (k.hash w) (c + q) := fun q => by
      rw [stn_add]
      rfl
    have spec := go_spec t T.tab.ris T.tab.dm (fun i => (es[i]?.map (·.1)).getD 0) (k.hash w) (10 * SetTable.turns t.mask) (z - c) (stn t.mask (k.hash w) c) (stn_dummy ..) (by omega)
      (fun q hq => by
        rw [onway]
        exact full _ (by omega))
      (by
        rw [onway, show c + (z - c) = z by omega]
        exact free)
    rw [setSearchFrom_succ]
    refine wpAny_bind (wpAny_setState_of eo ed T.fit ?_)
    dsimp only
    refine wp_if_neg T.stays ?_
    refine wpAny_bind (wpAny_pure ?_)
    rcases spec with ⟨q, i, hq, pi, _, earlier, found⟩ | ⟨never, found⟩
    · -- what has the same hash
      rw [onway] at pi
      have met : t.probe (fun i => (es[i]?.map (·.1)).getD 0) (k.hash w) (p.getD (t.probeStart (k.hash w))) = some (.candidate (way t.mask (k.hash w) (c + q)) i (stn t.mask (k.hash w) (c + (q + 1)))) := by
        rw [ep0, ← onway, ← stn_add]
        exact found
      rw [met]
      dsimp only
      have il : i < ms.length := by
        have h1 := (List.getElem?_eq_some_iff.mp pi).1
        have h2 := T.psize
        rw [Array.length_toList] at h1
        omega
      have em : ms[i]? = some ms[i] := List.getElem?_eq_getElem il
      generalize ms[i] = m at em
      have mm : m ∈ ms := List.mem_of_getElem? em
      have live : t.slot (way t.mask (k.hash w) (c + q)) = .live i := slot_live T.tab.ris pi
      have behind : wpAny (model P w) A (searchRest a (.ref b) (k.hash w) true f es t (way t.mask (k.hash w) (c + q)) i (stn t.mask (k.hash w) (c + (q + 1)))) Q E s := by
        unfold searchRest
        rw [T.row em]
        dsimp only
        refine wpAny_bind (wpAny_holding ((nestedKind P w).eqBool hu (T.keys m mm) x ?_))
        refine wpAny_bind (wpAny_setState_of eo ed T.fit ?_)
        dsimp only
        by_cases same : m.1 = k
        · refine wp_if_pos (by simp [same]) (wpAny_pure (there ?_))
          exact List.mem_map.mpr ⟨m, mm, same⟩
        · refine wp_if_neg (by simp [same]) ?_
          refine wpAny_bind (wpAny_pure ?_)
          rw [sameMem]
          dsimp only
          simp only [if_true, live, T.row em]
          refine wpAny_bind (wpAny_isSame_ref_self (wpAny_bind (wpAny_pure ?_)))
          simp only [if_true]
          refine wp_if_neg (by simp [same]) (again (c + (q + 1)) _ rfl (by omega) (by omega) fun i' m' e' k' => ?_)
          obtain ⟨c', l1, l2, pc⟩ := ahead i' m' e' k'
          refine ⟨c', ?_, l2, pc⟩
          rcases Nat.lt_trichotomy c' (c + q) with g | g | g
          · refine absurd ((hashAt i' m' e').trans (congrArg (NestedKey.hash w) k')) (earlier (c' - c) i' (by omega) ?_)
            rw [onway, show c + (c' - c) = c' by omega]
            exact pc
          · rw [g] at pc
            have l' := slot_live T.tab.ris pc
            rw [live] at l'
            cases l'
            cases em.symm.trans e'
            exact absurd k' same
          · omega
      by_cases led : t.led = true
      · refine wp_if_neg (by simp [led]) ?_
        exact wpAny_bind (wpAny_pure behind)
      · refine wp_if_pos (by simp [led]) (wpAny_bind (unseen x (fun y hy => ?_) ?_))
        · obtain ⟨e, he, rfl⟩ := List.mem_map.mp hy
          have he' : e ∈ es ∧ e.1 = k.hash w := by simpa using he
          have he2 : e ∈ ents w ms := by
            rw [← T.rows]
            simpa using he'.1
          obtain ⟨m', hm', rfl⟩ := List.mem_map.mp he2
          exact ⟨m'.1, m'.2, rfl, T.keys m' hm'⟩
        · refine wp_if_neg (by decide) ?_
          exact wpAny_bind (wpAny_pure behind)
    · -- the first free place
      have met : t.probe (fun i => (es[i]?.map (·.1)).getD 0) (k.hash w) (p.getD (t.probeStart (k.hash w))) = some (.empty (way t.mask (k.hash w) z) none) := by
        have e2 := onway (z - c)
        rw [show c + (z - c) = z by omega] at e2
        rw [ep0, ← e2]
        exact found
      rw [met]
      dsimp only
      refine wpAny_pure (gone fun mem => ?_)
      obtain ⟨m, hm, ek⟩ := List.mem_map.mp mem
      obtain ⟨i, il, e⟩ := List.getElem_of_mem hm
      have ei : ms[i]? = some m := by rw [List.getElem?_eq_getElem il, e]
      obtain ⟨c', l1, l2, pc⟩ := ahead i m ei ek
      refine never (c' - c) i (by omega) ?_ ((hashAt i m ei).trans (congrArg (NestedKey.hash w) ek))
      rw [onway, show c + (c' - c) = c' by omega]
      exact pc
/-- the search ahead of putting in -/
theorem look (T : Tab w s.heap a ms es ep t) {k : NestedKey} {b : Addr} (x : Key s.heap k b) (hu : A.units + 8 < cLine) {Q : SetFound → Shared → Prop} (there : k ∈ ms.map (·.1) → Q (.there none) s)
    (gone : ∀ z, k ∉ ms.map (·.1) → way t.mask (k.hash w) z ∉ t.place.toList → (∀ c, c < z → way t.mask (k.hash w) c ∈ t.place.toList) → Q (.free (way t.mask (k.hash w) z) false) s) : wpAny (model P w) A (setSearch a (.ref b) (k.hash w) true) Q E s := by
  have room := T.room
  obtain ⟨z, lz, free, full⟩ := T.tab.first (by
    rw [hshs_len]
    omega) (k.hash w)
  have turns : 10 * SetTable.turns t.mask < 100000 := by
    unfold SetTable.turns
    rcases T.tab.mok with e | e | e <;> omega
  unfold setSearch
  refine look_from T x hu lz free full there (fun n => gone z n free full) 100000 0 none rfl (Nat.zero_le _) (by omega) fun i m em ek => ?_
  have hi : (hshs w ms)[i]? = some (k.hash w) := by
    show (ms.map _)[i]? = _
    rw [List.getElem?_map, em, ← ek]
    rfl
  have il : i < t.place.toList.length := by
    have h1 := (List.getElem?_eq_some_iff.mp em).1
    have h2 := T.psize
    rw [Array.length_toList]
    omega
  obtain ⟨c, hc, e⟩ := T.tab.before free hi (List.getElem?_eq_getElem il)
  exact ⟨c, Nat.zero_le _, hc, by rw [List.getElem?_eq_getElem il, e]⟩
/-! ### one more -/
theorem ents_put (ms : List Mem) (p : Nat) (m : Mem) : ents w (ms.take p ++ m :: ms.drop p) = (ents w ms).take p ++ (m.1.hash w, Value.ref m.2) :: (ents w ms).drop p := by
  simp [ents, List.map_take, List.map_drop]
theorem hshs_put (ms : List Mem) (p : Nat) (m : Mem) : hshs w (ms.take p ++ m :: ms.drop p) = (hshs w ms).take p ++ m.1.hash w :: (hshs w ms).drop p := by
  simp [hshs, List.map_take, List.map_drop]
theorem picked {α : Type} (l : List α) : ∀ n, n ≤ l.length → (List.range n).filterMap (fun i => l[i]?) = l.take n
  | 0, _ => rfl
  | n + 1, h => by
    have lt : n < l.length := h
    rw [List.range_succ, List.filterMap_append, picked l n (Nat.le_of_lt lt), List.take_add_one, List.getElem?_eq_getElem lt]
    simp [List.filterMap_cons, List.getElem?_eq_getElem lt]
/-- entries taken in another order -/
theorem ents_order (ms : List Mem) (es : Array (Int × Value)) (r : es.toList = ents w ms) : ∀ l : List Nat, (∀ i ∈ l, i < ms.length) →
    ∃ ms', l.filterMap (fun i => ms[i]?) = ms' ∧ l.filterMap (fun i => es[i]?) = ents w ms' ∧ hshs w ms' = l.map fun i => (es.map (·.1)).getD i 0
  | [], _ => ⟨[], rfl, rfl, rfl⟩
  | i :: l, h => by
    obtain ⟨ms', e1, e2, e3⟩ := ents_order ms es r l fun j hj => h j (List.mem_cons_of_mem _ hj)
    have il := h i List.mem_cons_self
    have en : es[i]? = some ((ms[i]).1.hash w, Value.ref (ms[i]).2) := by
      rw [← Array.getElem?_toList, r]
      show (ms.map _)[i]? = _
      rw [List.getElem?_map, List.getElem?_eq_getElem il]
      rfl
    refine ⟨ms[i] :: ms', ?_, ?_, ?_⟩
    · rw [List.filterMap_cons_some (List.getElem?_eq_getElem il), e1]
    · rw [List.filterMap_cons_some en, e2]
      rfl
    · have e5 : (es.map (·.1))[i]? = some ((ms[i]).1.hash w) := by
        rw [Array.getElem?_map, en]
        rfl
      rw [List.map_cons, ← e3, Array.getD_eq_getD_getElem?, e5]
      rfl
/-- the table is laid anew, and is larger -/
theorem relay {ob : Obj} (eo : s.heap.get? a = some ob) (ex : ob.ExactSet) (ed : ob.data = .set es ep t) (r : es.toList = ents w ms) (dm : t.dummies = #[]) (ps : t.place.size = ms.length) (le : ms.length ≤ t.mask) (once : (ms.map (·.1)).Nodup) (keys : ∀ m ∈ ms, Key s.heap m.1 m.2) (few : ms.length < 64)
    {n M : Nat} (hM : SetTable.sizeAbove n - 1 = M) (ok : MaskOk M) (small : SetTable.sizeAbove n ≤ 128) (room : ms.length * 5 < M * 3) {Q : Unit → Shared → Prop} (q : ∀ h' ms' es' ep' t', Heap.SameBut a s.heap h' → Tab w h' a ms' es' ep' t' → ms'.Perm ms → Q () { s with heap := h' }) :
    wpAny (model P w) A (setRelay a n) Q E s := by
  have sz : es.size = ms.length := by rw [← Array.length_toList, r, ents_len]
  obtain ⟨t', order, e, pm, T, em, _, _, _⟩ := relaid_ok t (hs := es.map (·.1)) (wanted := n) hM ok (by
    rw [Array.size_map, sz]
    omega)
  rw [Array.size_map, sz] at pm
  obtain ⟨ms', o1, o2, o3⟩ := ents_order (w := w) ms es r order.toList fun i hi => List.mem_range.mp (pm.mem_iff.mp hi)
  rw [← o3] at T
  have pm' : ms'.Perm ms := by
    rw [← o1]
    have := pm.filterMap fun i => ms[i]?
    rw [picked ms ms.length (Nat.le_refl _), List.take_length] at this
    exact this
  have r' : (order.filterMap (es[·]?)).toList = ents w ms' := by
    rw [Array.toList_filterMap]
    exact o2
  have sz' : (order.filterMap (es[·]?)).size = ms.length := by rw [← Array.length_toList, r', ents_len, pm'.length_eq]
  have fit : t.fits es.size = true := fits_of dm (ps.trans sz.symm) (by omega)
  rw [setRelay_eq]
  refine wpAny_bind (wpAny_setState_of eo ed fit ?_)
  dsimp only
  refine wp_if_neg (by
    rw [sizeLine_eq]
    omega) ?_
  rw [e]
  dsimp only
  refine wpAny_bind ?_
  refine wp_if_neg (by
    rw [sz', sz]
    simp) (wpAny_pure ?_)
  dsimp only
  have sb : Heap.SameBut a s.heap (s.heap.update a (Obj.putSet (order.filterMap (es[·]?)) t')) := Heap.SameBut.update ..
  refine wpAny_storeSet_of eo ed ?_ (by
    rw [sz', sizeLine_eq]
    omega)
  refine q _ ms' (order.filterMap (es[·]?)) (ep + 1) t' sb ?_ pm'
  exact ⟨⟨_, store_at eo ed, ⟨ex.1, ex.2.1, ex.2.2⟩, rfl⟩, r', T, (pm'.map (·.1)).nodup_iff.mpr once, fun m hm => (keys m (pm'.mem_iff.mp hm)).but eo ed sb, by
    rw [pm'.length_eq, em]
    exact room, by
    rw [pm'.length_eq]
    exact few⟩
/-- one key is added -/
theorem add (T : Tab w s.heap a ms es ep t) {k : NestedKey} {b : Addr} (x : Key s.heap k b) (hu : A.units + 8 < cLine) (lt : ms.length + 1 < 64) {Q : Bool → Shared → Prop}
    (q : ∀ d h' ms' es' ep' t', Heap.SameBut a s.heap h' → Tab w h' a ms' es' ep' t' → (k ∈ ms.map (·.1) → ms' = ms) → (k ∉ ms.map (·.1) → ms'.Perm ((k, b) :: ms)) → Q d { s with heap := h' }) : wpAny (model P w) A (setAddHashed a (.ref b) (k.hash w)) Q E s := by
  obtain ⟨ob, eo, ex, ed⟩ := T.obj
  have sz := T.size
  have room := T.room
  unfold setAddHashed
  refine wpAny_holding ?_
  rw [show (100000 : Nat) = 99999 + 1 from rfl, setAddHashedIn_succ]
  refine wpAny_bind (wpAny_setState_of eo ed T.fit ?_)
  dsimp only
  refine wp_if_neg (by simp [byScan, Value.scannable]) ?_
  refine wpAny_bind (look T x hu (fun mem => ?_) fun z out free full => ?_)
  · exact wpAny_pure (q false s.heap ms es ep t (Heap.SameBut.refl a s.heap) T (fun _ => rfl) fun n => absurd mem n)
  · dsimp only
    refine wpAny_bind (wpAny_setState_of eo ed T.fit ?_)
    dsimp only
    obtain ⟨p1, p2, p3, p4, _, _, _, _, p9⟩ := T.tab.put free full
    generalize way t.mask (k.hash w) z = j at p1 p2 p3 p4 p9 ⊢
    generalize t.put j = pt at p1 p2 p3 p4 p9 ⊢
    obtain ⟨t1, pl⟩ := pt
    dsimp only at p1 p2 p3 p4 p9 ⊢
    rw [← p1] at p2 p3
    rw [hshs_len] at p2
    have mid := put_perm ms pl (k, b)
    rw [← hshs_put ms pl (k, b)] at p3
    have rows1 : (SetTable.insertAt es pl (k.hash w, Value.ref b)).toList = ents w (ms.take pl ++ (k, b) :: ms.drop pl) := by rw [SetTable.toList_insertAt, ents_put, T.rows]
    have len1 : (ms.take pl ++ (k, b) :: ms.drop pl).length = ms.length + 1 := mid.length_eq
    have once1 : ((ms.take pl ++ (k, b) :: ms.drop pl).map (·.1)).Nodup := (mid.map (·.1)).nodup_iff.mpr (List.nodup_cons.mpr ⟨out, T.once⟩)
    have size1 : (SetTable.insertAt es pl (k.hash w, Value.ref b)).size = ms.length + 1 := by rw [← Array.length_toList, rows1, ents_len, len1]
    generalize SetTable.insertAt es pl (k.hash w, Value.ref b) = es1 at rows1 size1 ⊢
    generalize ms.take pl ++ (k, b) :: ms.drop pl = ms1 at mid p3 rows1 len1 once1
    have rest : ∀ t2 : SetTable, t2.place = t1.place → t2.mask = t1.mask → t2.dummies = t1.dummies → wpAny (model P w) A (do
          storeSet a es1 t2
          if (!false && t2.tooFull) = true then setRelay a (SetTable.grown (es.size + 1))
          return true) Q E s := fun t2 ePl eMa eDu => by
      have tab2 : TabOk t2 (hshs w ms1) := ⟨by rw [ePl]; exact p3.ris, by rw [eDu]; exact p3.dm, by rw [ePl]; exact p3.sz, by rw [eMa]; exact p3.mok, by rw [ePl, eMa]; exact p3.bd, by rw [ePl, eMa]; exact p3.reach⟩
      have fill2 : t2.fill = ms.length + 1 := by
        have : t2.fill = t1.fill := by
          unfold SetTable.fill
          rw [ePl, eDu]
        rw [this, p9, hshs_len]
      have mask2 : t2.mask = t.mask := eMa.trans p4
      have ps2 : t2.place.size = ms1.length := tab2.sz.trans (hshs_len ..)
      refine wpAny_bind (wpAny_storeSet_of eo ed ?_ (by
        rw [size1, sizeLine_eq]
        omega))
      have sb : Heap.SameBut a s.heap (s.heap.update a (Obj.putSet es1 t2)) := Heap.SameBut.update ..
      have eo1 := store_at (es' := es1) (t' := t2) eo ed
      generalize s.heap.update a (Obj.putSet es1 t2) = h1 at sb eo1 ⊢
      have keys1 : ∀ m ∈ ms1, Key h1 m.1 m.2 := fun m hm => by
        rcases List.mem_cons.mp (mid.mem_iff.mp hm) with rfl | hm
        · exact x.but eo ed sb
        · exact (T.keys m hm).but eo ed sb
      by_cases full2 : t2.tooFull = true
      · refine wp_if_pos (by simp [full2]) (wpAny_bind ?_)
        have over : (ms.length + 1) * 5 ≥ t2.mask * 3 := by
          have h := full2
          unfold SetTable.tooFull at h
          rw [decide_eq_true_eq, fill2] at h
          exact h
        rw [sz]
        have cs : (t.mask = 7 ∧ ms.length = 4) ∨ (t.mask = 31 ∧ ms.length = 18) := by
          rcases T.tab.mok with e | e | e
          · rw [mask2, e] at over
            rw [e] at room
            exact .inl ⟨e, by omega⟩
          · rw [mask2, e] at over
            rw [e] at room
            exact .inr ⟨e, by omega⟩
          · rw [mask2, e] at over
            omega
        have go : ∀ M, SetTable.sizeAbove (SetTable.grown (ms.length + 1)) - 1 = M → MaskOk M → SetTable.sizeAbove (SetTable.grown (ms.length + 1)) ≤ 128 → (ms.length + 1) * 5 < M * 3 →
            wpAny (model P w) A (setRelay a (SetTable.grown (ms.length + 1))) (fun _ s' => wpAny (model P w) A (pure true) Q E s') E { s with heap := h1 } := fun M g1 g2 g3 g4 => by
          refine relay (s := { s with heap := h1 }) eo1 ⟨ex.1, ex.2.1, ex.2.2⟩ rfl rows1 tab2.dm ps2 (by
            rw [len1, mask2]
            rcases cs with ⟨e, e2⟩ | ⟨e, e2⟩ <;> omega) once1 keys1 (by
            rw [len1]
            exact lt) g1 g2 g3 (by
            rw [len1]
            exact g4) fun h2 ms2 es2 ep2 t3 sb2 T2 pm2 => ?_
          exact wpAny_pure (q true h2 ms2 es2 ep2 t3 (sb.trans sb2) T2 (fun y => absurd y out) fun _ => pm2.trans mid)
        rcases cs with ⟨_, e2⟩ | ⟨_, e2⟩
        · exact go 31 (by rw [e2, size_20]) (.inr (.inl rfl)) (by rw [e2, size_20]; decide) (by omega)
        · exact go 127 (by rw [e2, size_76]) (.inr (.inr rfl)) (by rw [e2, size_76]; decide) (by omega)
      · refine wp_if_neg (by simp [full2]) (wpAny_pure (q true h1 ms1 es1 (ep + 1) t2 sb ⟨⟨_, eo1, ⟨ex.1, ex.2.1, ex.2.2⟩, rfl⟩, rows1, tab2, once1, keys1, ?_, by
          rw [len1]
          exact lt⟩ (fun y => absurd y out) fun _ => mid))
        have h := full2
        unfold SetTable.tooFull at h
        rw [decide_eq_true_eq, fill2] at h
        rw [len1]
        omega
    by_cases plain : t1.plain = true
    · refine wp_if_pos plain (wpAny_bind (val_key k _ 8 x.1 x.2 A _ _ fun v _ => ?_))
      cases v with
      | true =>
        simp only [if_true]
        exact rest t1 rfl rfl rfl
      | false =>
        simp only [Bool.false_eq_true, if_false]
        exact rest { t1 with plain := false } rfl rfl rfl
    · refine wp_if_neg plain (wpAny_bind (wpAny_pure ?_))
      simp only [if_true]
      exact rest t1 rfl rfl rfl
end
end Nb
set_option Elab.async false
set_option linter.all false
set_option autoImplicit false
set_option maxRecDepth 100000
set_option maxHeartbeats 4000000
/-! Nc: set(xs) of a list of tuples of any depth; len of a set. -/
namespace Nc
open PySem PySem.Spec PyProof.Rows L2 Vb Na Nb
section
variable {P : Program} {w : World} {A : Around} {E : Value → Shared → Prop} {s : Shared}
/-- what is in behind i items -/
structure In (xs : List Mem) (i : Nat) (ms : List Mem) : Prop where
  of : ∀ m ∈ ms, m ∈ xs.take i
  all : ∀ m ∈ xs.take i, m.1 ∈ ms.map (·.1)
  few : ms.length ≤ i
theorem In.old {xs ms : List Mem} {i : Nat} {x : Mem} (g : In xs i ms) (e : xs[i]? = some x) (h : x.1 ∈ ms.map (·.1)) : In xs (i + 1) ms := by
  have et : xs.take (i + 1) = xs.take i ++ [x] := by
    rw [List.take_add_one, e]
    rfl
  refine ⟨fun m hm => ?_, fun m hm => ?_, Nat.le_succ_of_le g.few⟩
  · rw [et]
    exact List.mem_append_left _ (g.of m hm)
  · rw [et] at hm
    rcases List.mem_append.mp hm with q | q
    · exact g.all m q
    · rw [List.mem_singleton.mp q]
      exact h
theorem In.new {xs ms ms' : List Mem} {i : Nat} {x : Mem} (g : In xs i ms) (e : xs[i]? = some x) (pm : ms'.Perm (x :: ms)) : In xs (i + 1) ms' := by
  have et : xs.take (i + 1) = xs.take i ++ [x] := by
    rw [List.take_add_one, e]
    rfl
  refine ⟨fun m hm => ?_, fun m hm => ?_, ?_⟩
  · rw [et]
    rcases List.mem_cons.mp (pm.mem_iff.mp hm) with rfl | q
    · exact List.mem_append_right _ List.mem_cons_self
    · exact List.mem_append_left _ (g.of m q)
  · rw [(pm.map (·.1)).mem_iff, List.map_cons]
    rw [et] at hm
    rcases List.mem_append.mp hm with q | q
    · exact List.mem_cons_of_mem _ (g.all m q)
    · rw [List.mem_singleton.mp q]
      exact List.mem_cons_self
  · rw [pm.length_eq]
    exact Nat.succ_le_succ g.few
theorem tab_keep {h h' : Heap} {a : Addr} {ms : List Mem} {es : Array (Int × Value)} {ep : Nat} {t : SetTable} (T : Tab w h a ms es ep t) (ka : ∀ o, h.get? a = some o → h'.get? a = some o) (kk : ∀ m ∈ ms, Na.Key h' m.1 m.2) : Tab w h' a ms es ep t := by
  obtain ⟨ob, eo, r⟩ := T.obj
  exact ⟨⟨ob, ka ob eo, r⟩, T.rows, T.tab, T.once, kk, T.room, T.few⟩
theorem tab_new {h : Heap} {a : Addr} {led : Bool} (e : h.get? a = some { cls := .type "set", dict := none, data := .set #[] 0 (.fresh 0 0 led) }) : Tab w h a [] #[] 0 (.fresh 0 0 led) :=
  ⟨⟨_, e, ⟨rfl, rfl, rfl⟩, rfl⟩, rfl, ⟨List.Pairwise.nil, rfl, rfl, .inl rfl, fun x hx => (by cases hx), fun i h j hi => (by simp [hshs] at hi)⟩, List.nodup_nil, (fun m hm => nomatch hm), (by show 0 * 5 < 7 * 3; decide), (by show 0 < 64; decide)⟩
/-- the loop that puts all items in -/
theorem fill_keys {I : Addr} {fp wr : List Addr} {G : Array GenState → Array GenState → Prop} {n : Nat} {Pv : Nat → Value → Prop} {St : Nat → Shared → Prop} {R : Result → Shared → Prop} (W : WalksS P w A.in1 I fp wr G n Pv St) (D : Addr) (hD : D ∉ fp) (xs : List Mem)
    (hn : xs.length = n) (few : n < 64) (val : ∀ i v, Pv i v → ∃ m, xs[i]? = some m ∧ v = .ref m.2) (h0 : Heap) (kx : ∀ m ∈ xs, Na.Key h0 m.1 m.2) (D0 : h0.get? D = none) (wr0 : ∀ b ∈ wr, h0.get? b = none) (hu : A.in1.units + 8 < cLine) :
    ∀ (left i : Nat) (s : Shared), n - i = left → i ≤ n → St i s → (∀ b o, h0.get? b = some o → s.heap.get? b = some o) → (∃ ms es ep t, Tab w s.heap D ms es ep t ∧ In xs i ms) →
      (∀ s' ms es ep t, Moved (D :: wr) G s s' → Tab w s'.heap D ms es ep t → In xs n ms → R (.ok (.ret .none)) s') → codeAny (model P w) A (.builtin "set.update.loop" ⟨[.ref D, .ref I], []⟩) R s := by
  have hDw : D ∉ wr := fun h => hD (W.sub _ h)
  have up : ∀ b ∈ wr, b ∈ D :: wr := fun b hb => List.mem_cons_of_mem _ hb
  have go : ∀ {s s' : Shared}, Moved wr G s s' → (∀ b o, h0.get? b = some o → s.heap.get? b = some o) → ∀ b o, h0.get? b = some o → s'.heap.get? b = some o := fun m k b o e =>
    m.heap b o (fun hb => by
      rw [wr0 b hb] at e
      cases e) (k b o e)
  have sub : ∀ {i : Nat} {ms : List Mem}, In xs i ms → ∀ m ∈ ms, m ∈ xs := fun g m hm => List.mem_of_mem_take (g.of m hm)
  intro left
  induction left with
  | zero =>
    intro i s hl hi hst k0 ⟨ms, es, ep, t, T, g⟩ hR
    obtain rfl : i = n := by omega
    refine codeAny_builtin PyProof.Rows.F.entry_set_update_loop ?_
    rw [Around.under_plainId PyProof.Rows.F.plain_set_update_loop _]
    show wpAny _ A.in1 (pyNext (.ref I) >>= _) _ _ s
    refine wpAny_bind (W.done s _ _ hst fun s' hm => ?_)
    show wpAny _ A.in1 (ret Value.none) _ _ s'
    exact wpAny_pure (hR s' ms es ep t (hm.mono up) (tab_keep T (fun o e => hm.heap D o hDw e) fun m h => (kx m (sub g m h)).ext (go hm k0)) g)
  | succ left ih =>
    intro i s hl hi hst k0 ⟨ms, es, ep, t, T, g⟩ hR
    have lt : i < n := by omega
    refine codeAny_builtin PyProof.Rows.F.entry_set_update_loop ?_
    rw [Around.under_plainId PyProof.Rows.F.plain_set_update_loop _]
    show wpAny _ A.in1 (pyNext (.ref I) >>= _) _ _ s
    refine wpAny_bind (W.item i s _ _ lt hst fun v s' hP hst' hm => ?_)
    obtain ⟨m, em, rfl⟩ := val i v hP
    have k1 := go hm k0
    have T1 : Tab w s'.heap D ms es ep t := tab_keep T (fun o e => hm.heap D o hDw e) fun m h => (kx m (sub g m h)).ext k1
    have x : Na.Key s'.heap m.1 m.2 := (kx m (List.mem_of_getElem? em)).ext k1
    show wpAny _ A.in1 (holding [Value.ref m.2] (setAdd D (.ref m.2)) >>= _) _ _ s'
    refine wpAny_bind (wpAny_holding ?_)
    unfold setAdd
    refine wpAny_holding (wpAny_bind ((nestedKind P w).pyHash hu x ?_))
    refine add (s := { s' with toks := s'.toks + m.1.draws }) T1 x hu (by
      have := g.few
      omega) fun d h' ms' es' ep' t' sb T2 c1 c2 => ?_
    have g2 : In xs (i + 1) ms' := by
      by_cases mem : m.1 ∈ ms.map (·.1)
      · rw [c1 mem]
        exact g.old em mem
      · exact g.new em (c2 mem)
    have k2 : ∀ b o, h0.get? b = some o → h'.get? b = some o := fun b o e => (sb.2 b fun z => by
      rw [z, D0] at e
      cases e).trans (k1 b o e)
    refine wpAny_pure ⟨plainId_quiet PyProof.Rows.F.plain_set_update_loop _, ih (i + 1) _ (by omega) lt (W.frame _ s' _ _ hst' (Nat.le_add_right _ _) fun b hb o e => ?_) k2 ⟨ms', es', ep', t', T2, g2⟩ fun s3 ms3 es3 ep3 t3 hm3 T3 g3 => ?_⟩
    · rw [sb.2 b fun z : b = D => hD (z ▸ hb)]
      exact e
    · refine hR s3 ms3 es3 ep3 t3 (Moved.trans W.gtrans ((hm.mono up).then_heap (Nat.le_add_right _ _) fun b o hb e => ?_) hm3) T3 g3
      rw [sb.2 b fun z : b = D => hb (z ▸ List.mem_cons_self)]
      exact e
set_option maxHeartbeats 8000000 in
/-- set(xs) -/
theorem set_of_keys {l : Addr} {items : Array Value} {xs : List Mem} {Q : Value → Shared → Prop} (hh : A.handled = none) (hl : s.heap.IsList l items) (hi : items.toList = xs.map fun m => Value.ref m.2) (kx : ∀ m ∈ xs, Na.Key s.heap m.1 m.2) (few : xs.length < 64) (hu : A.units + 16 < cLine)
    (hQ : ∀ (h' : Heap) (tk : Nat) ms es ep t, Tab w h' s.heap.objs.size ms es ep t → In xs xs.length ms → (∀ b o, s.heap.get? b = some o → h'.get? b = some o) → Q (.ref s.heap.objs.size) { s with heap := h', toks := tk }) :
    wpAny (model P w) A (call (.type "set") [.ref l]) Q E s := by
  have hz : xs.length = items.size := by rw [← Array.length_toList, hi, List.length_map]
  obtain ⟨c, tl, hmro⟩ := PySem.F.called_set.mro
  have made := PySem.F.called_set.made
  have subs := PySem.F.called_set.sub
  refine wpAny_call (codeAny_of_tree ?_)
  show wpAny _ _ (callAny (.type "set") _) _ _ _
  refine wpAny_pure ⟨Code.quiet_builtin _ (by decide +kernel), codeAny_builtin PySem.F.entry_type_call ?_⟩
  rw [Around.under_plain (weight_type_call_type "set" [.ref l] []) rfl]
  have k1 := PySem.F.called_set.notType
  have k2 := PySem.F.called_set.canCreate
  have k3 := PySem.F.typeCall_set_1 (.ref l)
  repeat (any_goals (first | assumption | wp_step))
  refine codeAny_mono (code_set_led1 (.ref l) (E := E) (Q₁ := fun obj s₁ => obj = .ref s.heap.objs.size ∧ s₁ = { s with heap := s.heap.push { cls := .type "set", dict := none, data := .set #[] 0 (.fresh 0 0 (!w.params.followText "set-order")) } }) ⟨rfl, rfl⟩) fun r s₁ hr => ?_
  match r, hr with
  | .error _, hr => exact hr
  | .ok .next, hr => exact hr.elim
  | .ok .brk, hr => exact hr.elim
  | .ok .cont, hr => exact hr.elim
  | .ok (.ret obj), hr =>
    obtain ⟨rfl, rfl⟩ := hr
    have hS : (s.heap.push { cls := .type "set", dict := none, data := .set #[] 0 (.fresh 0 0 (!w.params.followText "set-order")) }).get? s.heap.objs.size = some { cls := .type "set", dict := none, data := .set #[] 0 (.fresh 0 0 (!w.params.followText "set-order")) } := Heap.get?_push_size _ rfl
    have hT : Shared.TypeIs { s with heap := s.heap.push { cls := .type "set", dict := none, data := .set #[] 0 (.fresh 0 0 (!w.params.followText "set-order")) } } (.ref s.heap.objs.size) "set" := ⟨_, hS, rfl⟩
    have k4 := PySem.F.called_set.init.lookup
    have k5 := PySem.F.called_set.init.bind (.ref s.heap.objs.size)
    repeat (any_goals (first | assumption | wp_step))
    refine codeAny_mono (codeAny_call_builtin (R := wants (fun r s₂ => r = .none ∧ ∃ h' tk ms es ep t, s₂ = { s with heap := h', toks := tk } ∧ Tab w h' s.heap.objs.size ms es ep t ∧ In xs xs.length ms ∧ (∀ b o, s.heap.get? b = some o → h'.get? b = some o)) E)
      PySem.F.called_set.init.plain PySem.F.entry_set_init (check_set_init_1 hT ?_)) fun r₂ s₂ hr₂ => ?_
    · obtain ⟨⟨ocls, odict, odata, oslots⟩, hol, hcl, nl, hdl⟩ := hl
      simp only at hcl hdl
      subst hcl
      subst hdl
      have hol' : (s.heap.push { cls := .type "set", dict := none, data := .set #[] 0 (.fresh 0 0 (!w.params.followText "set-order")) }).get? l = some { cls := .type "list", dict := odict, data := .seq items nl, slots := oslots } := Heap.get?_push_of_some _ hol
      have k6 := PySem.F.sub_list_set
      have k7 := PySem.F.sub_list_frozenset
      have k8 : (Value.type "list" == Value.type "dict") = false := by decide
      have hl1 : (s.heap.push { cls := .type "set", dict := none, data := .set #[] 0 (.fresh 0 0 (!w.params.followText "set-order")) }).IsList l items := ⟨_, hol', rfl, nl, rfl⟩
      unfold Builtin.«set.__init__» noKeywords Builtin.Frozenset.updateFrom
      generalize hPI : pyIter = PI
      wp_walk
      subst hPI
      refine wpAny_pyIter_list hl1 (wpAny_bind (wpAny_runValue ?_))
      have lS : l < s.heap.objs.size := Heap.lt_size hol
      have lI : l ≠ (s.heap.push { cls := .type "set", dict := none, data := .set #[] 0 (.fresh 0 0 (!w.params.followText "set-order")) }).objs.size := by
        rw [Heap.size_push]
        exact Nat.ne_of_lt (Nat.lt_succ_of_lt lS)
      have nS : s.heap.objs.size ∉ [(s.heap.push { cls := .type "set", dict := none, data := .set #[] 0 (.fresh 0 0 (!w.params.followText "set-order")) }).objs.size, l] := by
        rw [Heap.size_push]
        simp only [List.mem_cons, List.not_mem_nil, or_false, not_or]
        exact ⟨Nat.ne_of_lt (Nat.lt_succ_self _), Nat.ne_of_gt lS⟩
      have nothing : ∀ b, s.heap.objs.size ≤ b → s.heap.get? b = none := fun b hb => by
        cases q : s.heap.get? b with
        | none => rfl
        | some o => exact absurd (Nat.lt_of_lt_of_le (Heap.lt_size q) hb) (Nat.lt_irrefl _)
      refine fill_keys ((Walks.list (by simp [hh]) _ l lI items).toS) s.heap.objs.size nS xs hz (by omega) (fun i v hv => ?_) s.heap kx (nothing _ (Nat.le_refl _)) (fun b hb => nothing b (by
          rw [List.mem_singleton.mp hb, Heap.size_push]
          exact Nat.le_succ _)) (by simp only [Around.in1_units]; omega) (items.size - 0) 0 _ rfl (Nat.zero_le _) ⟨⟨_, Heap.get?_push_size _ rfl, rfl, rfl⟩, (hl1.push _)⟩ (fun b o e => Heap.get?_push_of_some _ (Heap.get?_push_of_some _ e)) ?e0 ?e1
      · have q : items.toList[i]? = some v := by rw [Array.getElem?_toList]; exact hv
        rw [hi, List.getElem?_map] at q
        obtain ⟨m, em, e⟩ := Option.map_eq_some_iff.mp q
        exact ⟨m, em, e.symm⟩
      case e0 => exact ⟨[], #[], 0, _, tab_new (Heap.get?_push_of_some _ hS), ⟨(fun m h => nomatch h), (fun m h => (by simp at h)), Nat.le_refl _⟩⟩
      case e1 =>
        intro s' ms es ep t hm T g
        obtain ⟨h', g2, d', tk', os'⟩ := s'
        have eg : g2 = s.gens := hm.gens
        have ed : d' = s.drawn := hm.drawn
        have eo : os' = s.os := hm.os
        subst eg
        subst ed
        subst eo
        show wpAny _ _ _ _ _ _
        refine wpAny_pure ?_
        show wpAny _ _ (ret Value.none) _ _ _
        rw [← hz] at g
        refine wpAny_pure ⟨rfl, h', tk', ms, es, ep, t, rfl, T, g, fun b o e => hm.heap b o ?_ (Heap.get?_push_of_some _ (Heap.get?_push_of_some _ e))⟩
        have lb : b < s.heap.objs.size := Heap.lt_size e
        rw [Heap.size_push]
        simp only [List.mem_cons, List.not_mem_nil, or_false, not_or]
        exact ⟨Nat.ne_of_lt lb, Nat.ne_of_lt (Nat.lt_succ_of_lt lb)⟩
    · match r₂, hr₂ with
      | .error _, hr₂ => exact hr₂
      | .ok .next, hr₂ => exact hr₂.elim
      | .ok .brk, hr₂ => exact hr₂.elim
      | .ok .cont, hr₂ => exact hr₂.elim
      | .ok (.ret r), hr₂ =>
        obtain ⟨rfl, h', tk, ms, es, ep, t, rfl, T, g, hk⟩ := hr₂
        repeat (any_goals (first | assumption | wp_step))
        exact hQ _ _ _ _ _ _ T g hk
end
/-! ### over the layer -/
section
variable {K : PySem.W.Frag}
/-- a set with n members -/
def SetN (a : Addr) (n : Nat) : HO := .ext fun h => ∃ (o : Obj) (es : Array (Int × Value)) (ep : Nat) (t : SetTable), h.get? a = some o ∧ o.ExactSet ∧ o.data = .set es ep t ∧ t.fits es.size = true ∧ es.size = n
theorem setN_new {P : Program} {w : World} {H : Hp} {h : Heap} {a : Addr} {n : Nat} (R : ∃ (o : Obj) (es : Array (Int × Value)) (ep : Nat) (t : SetTable), h.get? a = some o ∧ o.ExactSet ∧ o.data = .set es ep t ∧ t.fits es.size = true ∧ es.size = n) : ObjOk P w H h a (SetN a n) := by
  have ⟨o, es, ep, t, eo, q⟩ := R
  exact ⟨R, ⟨o, eo⟩, fun h1 h2 p k => by
    obtain ⟨o', es', ep', t', eo', q'⟩ := p
    exact ⟨o', es', ep', t', k o' eo', q'⟩⟩
mutual
/-- data that is a key -/
theorem key_of_data {X : Cx} {pins : List (Addr × Obj)} {σ : L2.St} {H : Hp} {s : Shared} (I : Inv X pins σ H s) : ∀ (k : NestedKey) (v : V) (u : Value), Dp X.K H v k.data → RelV v u → NestedIs s.heap k u
  | .none, _, _, d, r => by
    cases d
    cases r
    exact .none
  | .num i, _, _, d, r => by
    cases d
    obtain ⟨t, rfl⟩ := r
    exact .int i t
  | .text x, _, _, d, r => by
    cases d
    obtain ⟨t, rfl⟩ := r
    exact .text x t
  | .tup ks, _, _, d, r => by
    cases d with
    | tup sq al =>
      cases r
      obtain ⟨its, rv, ⟨o, eo, ec, n, ed⟩, _⟩ := I.tuple sq
      exact .tup eo ec ed (by
        have := keys_of_data I ks _ _ al rv
        simpa using this)
theorem keys_of_data {X : Cx} {pins : List (Addr × Obj)} {σ : L2.St} {H : Hp} {s : Shared} (I : Inv X pins σ H s) : ∀ (ks : List NestedKey) (vs : List V) (us : List Value), DpAll X.K H vs (NestedKey.datas ks) → Vals vs us → NestedAll s.heap ks us
  | [], _, _, d, r => by
    cases d
    cases r
    exact .nil
  | k :: ks, _, _, d, r => by
    cases d with
    | cons d1 d2 =>
      cases r with
      | cons r1 r2 => exact .cons (key_of_data I k _ _ d1 r1) (keys_of_data I ks _ _ d2 r2)
end
section
variable {X : Cx}
/-- set(xs), xs a list of tuples -/
def rSetKeys (K : PySem.W.Frag) : List V → Hp → VK → Prop := fun xs H Q => ∃ (l : Addr) (ks : List Mem), xs = [.ref l] ∧ SqL K H l (ks.map fun m => V.ref m.2) ∧ (∀ m ∈ ks, Dp K H (.ref m.2) m.1.data ∧ m.1.depth ≤ 8) ∧ ks.length < 64 ∧
  ∀ a n, H a = none → n ≤ ks.length → (n = ks.length ↔ (ks.map (·.1)).Nodup) → Q (.ref a) (upd H a (SetN a n))
theorem refs_vals : ∀ {ks : List Mem} {us : List Value}, Vals (ks.map fun m => V.ref m.2) us → us = ks.map fun m => Value.ref m.2
  | [], _, .nil => rfl
  | m :: ks, _, .cons r t => by
    cases r
    rw [refs_vals t]
    rfl
theorem cr_setKeys (hc : X.calm = true) (hu : X.A.units + 64 < cLine) : CallR X (.type "set") (rSetKeys X.K) := by
  intro pins s σ H xs us Q I r h
  obtain ⟨l, ks, rfl, hl, hk, few, q⟩ := h
  rw [Vals.ref1 r]
  obtain ⟨its, rv, pl, hz⟩ := I.list hl
  have hn : H s.heap.objs.size = none := I.hok.fresh (Nat.le_refl _)
  refine set_of_keys (P := X.prog) (w := X.w) (xs := ks) (I.ok.hd hc) pl.isList (by simpa using refs_vals rv) (fun m hm => ⟨key_of_data I m.1 _ _ (hk m hm).1 rfl, (hk m hm).2⟩) few (by omega) fun h' tk ms es ep t T g k => ?_
  obtain ⟨o, eo, ex, ed⟩ := T.obj
  have cnt := same_count (ks.map (·.1)) (ms.map (·.1)) T.once fun y => by
    constructor
    · intro hy
      obtain ⟨m, hm, rfl⟩ := List.mem_map.mp hy
      exact List.mem_map.mpr ⟨m, List.mem_of_mem_take (g.of m hm), rfl⟩
    · intro hy
      obtain ⟨m, hm, rfl⟩ := List.mem_map.mp hy
      exact g.all m (by rw [List.take_length]; exact hm)
  rw [List.length_map, List.length_map] at cnt
  exact ⟨.ref s.heap.objs.size, upd H s.heap.objs.size (SetN s.heap.objs.size ms.length), I.laid (t' := tk) k (Nat.le_refl _) (setN_new ⟨o, es, ep, t, eo, ex, ed, Tab.fit (s := { s with heap := h' }) T, Tab.size (s := { s with heap := h' }) T⟩), rfl, q _ ms.length hn cnt.1 cnt.2⟩
/-- set(xs), xs a list or a tuple of texts; how many there are -/
def rSetCnt (K : PySem.W.Frag) : List V → Hp → VK → Prop := fun xs H Q => ∃ (l : Addr) (ys : List Str), xs = [.ref l] ∧ (SqL K H l (ys.map V.str) ∨ SqT K H l (ys.map V.str)) ∧ ys.length ≤ 1000 ∧
  ∀ a n, H a = none → n ≤ ys.length → (n = ys.length ↔ ys.Nodup) → Q (.ref a) (upd H a (SetN a n))
theorem cnt_of {P : Program} {w : World} {h : Heap} {a : Addr} {ys : List Str} {c : Nat} (T : Ts.TxtSet P w h a (Ts.among ys ys.length) c) : c ≤ ys.length ∧ (c = ys.length ↔ ys.Nodup) := by
  obtain ⟨o, es, ep, t, _, _, _, G, ec⟩ := T
  obtain ⟨_, nd, mem⟩ := Ts.Good.texts G (List.Perm.refl _)
  have cnt := same_count ys _ nd fun k => by
    rw [mem k]
    unfold Ts.among
    rw [List.take_length, decide_eq_true_eq]
  rw [List.length_map, List.length_map, Array.length_toList, ec] at cnt
  exact cnt
theorem txt_setN {P : Program} {w : World} {h : Heap} {a : Addr} {S : Str → Bool} {c : Nat} (T : Ts.TxtSet P w h a S c) : ∃ (o : Obj) (es : Array (Int × Value)) (ep : Nat) (t : SetTable), h.get? a = some o ∧ o.ExactSet ∧ o.data = .set es ep t ∧ t.fits es.size = true ∧ es.size = c := by
  obtain ⟨o, es, ep, t, eo, ex, ed, G, ec⟩ := T
  exact ⟨o, es, ep, t, eo, ex, ed, G.fit, ec⟩
theorem cr_setCnt (hc : X.calm = true) : CallR X (.type "set") (rSetCnt X.K) := by
  intro pins s σ H xs us Q I r h
  obtain ⟨l, ys, rfl, hl, few, q⟩ := h
  rw [Vals.ref1 r]
  have hn : H s.heap.objs.size = none := I.hok.fresh (Nat.le_refl _)
  have sc : ys.length + 1 < scanBound := by unfold scanBound; omega
  have fin : ∀ (h' : Heap) (tk c : Nat), Ts.TxtSet X.prog X.w h' s.heap.objs.size (Ts.among ys ys.length) c → (∀ b o, s.heap.get? b = some o → h'.get? b = some o) → EP X pins σ Q (.ref s.heap.objs.size) { s with heap := h', toks := tk } := fun h' tk c T k =>
    ⟨.ref s.heap.objs.size, upd H s.heap.objs.size (SetN s.heap.objs.size c), I.laid (t' := tk) k (Nat.le_refl _) (setN_new (txt_setN T)), rfl, q _ c hn (cnt_of T).1 (cnt_of T).2⟩
  rcases hl with hl | hl
  · obtain ⟨its, rv, pl, hz⟩ := I.list hl
    exact Ts.set_of_list (P := X.prog) (w := X.w) (I.ok.hd hc) pl.isList (by simpa using rv.strs) sc fun h' tk c T _ k => fin h' tk c T k
  · obtain ⟨its, rv, pl, hz⟩ := I.tuple hl
    exact Ts.set_of_tuple (P := X.prog) (w := X.w) (I.ok.hd hc) pl (by simpa using rv.strs) sc fun h' tk c T _ k => fin h' tk c T k
/-- len(s) -/
def rLenSet : List V → Hp → VK → Prop := fun xs H Q => ∃ (a : Addr) (n : Nat), xs = [.ref a] ∧ H a = some (SetN a n) ∧ n ≤ 1000 ∧ Q (.int n) H
theorem cr_lenSet : CallR X (.builtin "len") rLenSet := by
  intro pins s σ H xs us Q I r h
  obtain ⟨a, n, rfl, ha, few, q⟩ := h
  rw [Vals.ref1 r]
  obtain ⟨o, es, ep, t, eo, ex, ed, ef, rfl⟩ := (I.hok a _ ha).1
  exact call_len_set eo ex ed ef (by omega) ⟨.int es.size, H, I.tok _, ⟨_, rfl⟩, q⟩
end
end
end Nc
set_option Elab.async false
set_option linter.all false
set_option autoImplicit false
set_option maxRecDepth 100000
set_option maxHeartbeats 4000000
/-! Nd: data that is a key stays one while lists change. -/
namespace Nd
open PySem PySem.Spec PyProof.Rows L2 Vb Na Nb Nc
section
variable {K : PySem.W.Frag} {H H' : Hp} {D : Addr} {xs : List V}
theorem seqT_but (hD : H D = some (.lst xs)) (h : ∀ b x, b ≠ D → H b = some x → H' b = some x) {a : Addr} {ys : List V} (s : SqT K H a ys) : SqT K H' a ys := by
  rcases s with (s | ⟨o, s⟩) | s
  · exact .inl (.inl (h _ _ (fun e => by
      rw [e, hD] at s
      cases s) s))
  · exact .inl (.inr ⟨o, h _ _ (fun e => by
      rw [e, hD] at s
      cases s) s⟩)
  · exact .inr s
mutual
theorem dp_but (hD : H D = some (.lst xs)) (h : ∀ b x, b ≠ D → H b = some x → H' b = some x) : ∀ (k : NestedKey) (v : V), Dp K H v k.data → Dp K H' v k.data
  | .none, _, d => by
    cases d
    exact .non
  | .num i, _, d => by
    cases d
    exact .int i
  | .text x, _, d => by
    cases d
    exact .str x
  | .tup ks, _, d => by
    cases d with
    | tup sq al => exact .tup (seqT_but hD h sq) (dps_but hD h ks _ al)
theorem dps_but (hD : H D = some (.lst xs)) (h : ∀ b x, b ≠ D → H b = some x → H' b = some x) : ∀ (ks : List NestedKey) (vs : List V), DpAll K H vs (NestedKey.datas ks) → DpAll K H' vs (NestedKey.datas ks)
  | [], _, d => by
    cases d
    exact .nil
  | k :: ks, _, d => by
    cases d with
    | cons d1 d2 => exact .cons (dp_but hD h k _ d1) (dps_but hD h ks _ d2)
end
end
end Nd
set_option Elab.async false
set_option linter.all false
set_option autoImplicit false
set_option maxRecDepth 100000
set_option maxHeartbeats 4000000
namespace K04
open PySem PySem.Spec PyProof.Rows L2 Vb Wd Xd Xo Ts K01 Nc Nd
abbrev s_is_scheme : Stmt := topS 28
theorem sc_is_scheme : FnScope ["bare", "tops", "forms", "names", "kinds", "form"] ["bare", "tops", "forms"] (defScope s_is_scheme) := ⟨rfl, rfl, rfl, by decide +kernel, rfl, by decide +kernel, by decide +kernel⟩
/-- the tops that a value tells, if it does -/
def TopsAt (K : PySem.W.Frag) (H : Hp) (tv : V) : Option (List Str) → Prop
  | some ys => ∃ t, tv = .ref t ∧ H t = some (.tup (ys.map V.str)) ∧ (∀ y ∈ ys, Fine y) ∧ ys.length ≤ 60 ∧ (ys.all nam && asc ys) = true
  | none => Asked K H tv false
/-- a kind of forms as a key -/
def kidK (c : Str × Int) : NestedKey := .tup [.text c.1, .num c.2]
def kindK (d : Str × List (Str × Int)) : NestedKey := .tup [.text d.1, .tup (d.2.map kidK)]
theorem kidK_inj {c d : Str × Int} (h : kidK c = kidK d) : c = d := by
  obtain ⟨a, i⟩ := c
  obtain ⟨b, j⟩ := d
  unfold kidK at h
  injection h with h
  injection h with h1 h2
  injection h1 with h1
  injection h2 with h2
  injection h2 with h2
  exact Prod.ext h1 h2
theorem kidsK_inj : ∀ {cs ds : List (Str × Int)}, cs.map kidK = ds.map kidK → cs = ds
  | [], [], _ => rfl
  | [], _ :: _, h => by cases h
  | _ :: _, [], h => by cases h
  | c :: cs, d :: ds, h => by
    rw [List.map_cons, List.map_cons] at h
    injection h with h1 h2
    rw [kidK_inj h1, kidsK_inj h2]
theorem kindK_inj {c d : Str × List (Str × Int)} (h : kindK c = kindK d) : c = d := by
  obtain ⟨a, cs⟩ := c
  obtain ⟨b, ds⟩ := d
  unfold kindK at h
  injection h with h
  injection h with h1 h2
  injection h1 with h1
  injection h2 with h2
  injection h2 with h2
  exact Prod.ext h1 (kidsK_inj h2)
theorem kids_datas : ∀ cs : List (Str × Int), NestedKey.datas (cs.map kidK) = cs.map kidD
  | [] => rfl
  | c :: cs => by
    rw [List.map_cons, List.map_cons, NestedKey.datas, kids_datas cs]
    rfl
theorem kids_depth : ∀ cs : List (Str × Int), NestedKey.depthAll (cs.map kidK) ≤ 1
  | [] => Nat.zero_le _
  | c :: cs => by
    rw [List.map_cons, NestedKey.depthAll]
    exact Nat.max_le.mpr ⟨Nat.le_refl 1, kids_depth cs⟩
theorem kind_data (d : Str × List (Str × Int)) : (kindK d).data = .tuple [.str d.1, .tuple (d.2.map kidD)] := by
  show PyData.tuple [.str d.1, .tuple (NestedKey.datas (d.2.map kidK))] = _
  rw [kids_datas]
theorem kind_depth (d : Str × List (Str × Int)) : (kindK d).depth ≤ 8 := by
  have h := kids_depth d.2
  show max 0 (max (NestedKey.depthAll (d.2.map kidK) + 1) 0) + 1 ≤ 8
  omega
theorem nodup_kinds (ds : List FD) : (ds.map fun d => kindK d.2).Nodup ↔ (ds.map (·.2)).Nodup := by
  unfold List.Nodup
  rw [List.pairwise_map, List.pairwise_map]
  exact ⟨fun h => h.imp fun n e => n (congrArg kindK e), fun h => h.imp fun n e => n (kindK_inj e)⟩
/-- how many different texts there are -/
def dd : List Str → List Str
  | [] => []
  | y :: l => if y ∈ l then dd l else y :: dd l
theorem mem_dd : ∀ (l : List Str) (k : Str), k ∈ dd l ↔ k ∈ l
  | [], k => Iff.rfl
  | y :: l, k => by
    unfold dd
    by_cases h : y ∈ l
    · rw [if_pos h, mem_dd l k, List.mem_cons]
      exact ⟨.inr, fun q => q.elim (fun e => e ▸ h) id⟩
    · rw [if_neg h, List.mem_cons, List.mem_cons, mem_dd l k]
theorem nodup_dd : ∀ l : List Str, (dd l).Nodup
  | [] => List.nodup_nil
  | y :: l => by
    unfold dd
    by_cases h : y ∈ l
    · rw [if_pos h]
      exact nodup_dd l
    · rw [if_neg h]
      exact List.nodup_cons.mpr ⟨fun q => h ((mem_dd l y).mp q), nodup_dd l⟩
theorem len_dd {zs l : List Str} (nd : zs.Nodup) (m : ∀ k, k ∈ zs ↔ k ∈ l) : zs.length = (dd l).length :=
  Nat.le_antisymm (nodup_len zs (dd l) nd fun k hk => (mem_dd l k).mpr ((m k).mp hk)) (nodup_len (dd l) zs (nodup_dd l) fun k hk => (m k).mpr ((mem_dd l k).mp hk))
/-- whether these make a scheme -/
def schB (bare : V) : Option (List Str) → List FD → Bool
  | none, _ => false
  | some ys, ds => inV bare (ys.map V.str) && (decide (1 ≤ ds.length) && decide (ds.length ≤ 24)) && decide ((dd (ys ++ said ds)).length ≤ 8) && (decide (ds.map (·.1)).Nodup && decide (ds.map (·.2)).Nodup)
theorem schB_some (bare : V) (ys : List Str) (ds : List FD) : schB bare (some ys) ds = (inV bare (ys.map V.str) && (decide (1 ≤ ds.length) && decide (ds.length ≤ 24)) && decide ((dd (ys ++ said ds)).length ≤ 8) && (decide (ds.map (·.1)).Nodup && decide (ds.map (·.2)).Nodup)) := rfl
def spIsS (K : PySem.W.Frag) (C : Addr) : Sp := fun vs H Q _ => ∃ (bv tv : V) (to : Option (List Str)) (f : Addr) (fs : List Addr) (ds : List FD) (L : List Str), vs = [bv, tv, .ref f] ∧ flatV bv = true ∧ TopsAt K H tv to ∧ H f = some (.tup (fs.map V.ref)) ∧ Forms H C fs ds ∧ fs.length ≤ 40 ∧
  (∀ ys, to = some ys → ∀ y ∈ ys ++ said ds, y ∈ L) ∧ L.length < 64 ∧ ∀ H', Same H H' → Q (.bl (schB bv to ds)) H'
theorem flat_strs (ys : List Str) : (ys.map V.str).all flatV = true := List.all_eq_true.mpr fun x hx => by
  obtain ⟨y, _, rfl⟩ := List.mem_map.mp hx
  rfl
theorem chain_dec {a b n : Nat} {p q : Prop} [Decidable p] [Decidable q] (ha : a = n ↔ p) (hb : b = n ↔ q) : (if decide (V.int (a : Int) = V.int (b : Int)) = true then decide (V.int (b : Int) = V.int (n : Int)) else false) = (decide p && decide q) := by
  have e : ∀ x y : Nat, decide (V.int (x : Int) = V.int (y : Int)) = decide (x = y) := fun x y => decide_eq_decide.mpr ⟨fun z => by have := V.int.inj z; omega, fun z => by rw [z]⟩
  rw [e, e, show decide p = decide (a = n) from (decide_eq_decide.mpr ha).symm, show decide q = decide (b = n) from (decide_eq_decide.mpr hb).symm]
  by_cases h1 : a = n <;> by_cases h2 : b = n <;> by_cases h3 : a = b <;> simp_all
section
variable {P : Program} {w : World} {K : PySem.W.Frag} {mg : Str → Option Value} {base : Heap} {C : Addr}
theorem ki_tu : kitB "tuple" "tuple" = some true := by decide +kernel
theorem ok_is_scheme {tf ts' : Tok} (D : Df K mg "_is_scheme" s_is_scheme ["bare", "tops", "forms"]) (T : FormC K C) (TI : FormI K C) (TP : FormP P w K mg base C) (gF : mg "Form" = some (.ref C)) (G_is_names : Cg P w K mg base 2 "is_names" (spNames K)) (G_sorts_of : Cg P w K mg base 3 "_sorts_of" (spSorts K C))
    (z_isinstance : mg "isinstance" = none) (z_tuple : mg "tuple" = none) (z_all : mg "all" = none) (z_len : mg "len" = none) (z_set : mg "set" = none) (c_MAX_FORMS : mg "MAX_FORMS" = some (.int 24 tf)) (c_MAX_SORTS : mg "MAX_SORTS" = some (.int 8 ts')) : Cg P w K mg base 4 "_is_scheme" (spIsS K C) := by
  obtain ⟨p1, g1, fd1, o1, G1, b1⟩ := TP.get ("called", "_called") (by simp)
  obtain ⟨p2, g2, fd2, o2, G2, b2⟩ := TP.get ("sort_name", "_sort_name") (by simp)
  obtain ⟨p3, g3, fd3, o3, G3, b3⟩ := TP.get ("children", "_children") (by simp)
  refine D.ok sc_is_scheme (fun vs H Q E h => ?_) (fun cdv A outer s H vs Q E f0 hc hr h => ?_)
  · obtain ⟨bv, tv, to, f, fs, ds, L, rfl, _⟩ := h
    rfl
  · obtain ⟨bv, tv, to, f, fs, ds, L, rfl, fl, ta, hf, F, lf, sub, lL, q⟩ := h
    refine ⟨_, (pss_cons (ps_if (PW.pt (pw_or (pt_not (pt_val (pe_cg G_is_names hc hr (by rfl) (pa_cons (pv 1) pa_nil)))) (pw_or1 (pt_cmpR op_notIn_seq (pv 0) (pv 1) (by rfl)))))
      (pss_one (ps_ret pe_bl))
      pss_nil)
      (pss_cons (ps_if (PW.pt (pw_or (pt_not (pt_val (pe_callB call_isi (by rfl) z_isinstance (by decide +kernel) (pa_cons (pv 2) (pa_cons (pe_bltn (v := .ty "tuple") (by rfl) z_tuple (by decide +kernel) rfl) pa_nil))))) (pw_or1 (pt_not (pt_val (pe_callB (cr_all rfl) (by rfl) z_all (by decide +kernel)
        (pa_cons (pe_lc (own := [("form", 5)]) (g := gName 5) (by rfl) sc_is_scheme.nd (pi_tup (pv 2)) (blkOk_by (own := [("form", 5)]) (N := ["bare", "tops", "forms", "names", "kinds", "form"]) (sc := defScope s_is_scheme) (by decide +kernel)) (fun _ _ _ _ _ => pg_name (i := 5) sc_is_scheme.nd rfl (Or.inl rfl)) (fun _ _ _ _ _ => pts_nil)
          (fun _ _ _ _ _ => (pe_callB (call_isi : CallR _ _ (rIsi K)) (by rfl) z_isinstance (by decide +kernel) (pa_cons (pv 5) (pa_cons (pe_glob (v := .ref C) (by rfl) gF rfl) pa_nil))))) pa_nil)))))))
      (pss_one (ps_ret pe_bl))
      pss_nil)
      (pss_cons (ps_if (PW.pt (pw_or (pt_not (pt_chain op_le op_le pe_int (pe_callB call_len_seq (by rfl) z_len PySem.boot_len (pa_cons (pv 2) pa_nil)) (pe_glob (v := .int 24) rfl c_MAX_FORMS ⟨_, rfl⟩)))
        (pw_or1 (pt_cmpR op_gt (pe_callB call_len_seq (by rfl) z_len PySem.boot_len (pa_cons (pe_cg G_sorts_of hc hr (by rfl) (pa_cons (pv 1) (pa_cons (pv 2) pa_nil))) pa_nil)) (pe_glob (v := .int 8) rfl c_MAX_SORTS ⟨_, rfl⟩) (nomark _)))))
      (pss_one (ps_ret pe_bl))
      pss_nil)
      (pss_cons (ps_set (i := 3) sc_is_scheme.nd rfl (Or.inl rfl) (pe_callB cr_lenSet (by rfl) z_len (by decide +kernel) (pa_cons (pe_callTy (cr_setCnt rfl) (by rfl) z_set (by decide +kernel)
        (pa_cons (pe_lc (own := [("form", 5)]) (g := gName 5) (by rfl) sc_is_scheme.nd (pi_tup (pv 2)) (blkOk_by (own := [("form", 5)]) (N := ["bare", "tops", "forms", "names", "kinds", "form"]) (sc := defScope s_is_scheme) (by decide +kernel)) (fun _ _ _ _ _ => pg_name (i := 5) sc_is_scheme.nd rfl (Or.inl rfl)) (fun _ _ _ _ _ => pts_nil)
          (fun _ _ _ _ _ => (pe_propG (n := "called") (pv 5) T.c o1 G1 hc (hr.mono (by decide)) b1))) pa_nil)) pa_nil)))
      (pss_cons (ps_set (i := 4) sc_is_scheme.nd rfl (Or.inl rfl) (pe_callB cr_lenSet (by rfl) z_len (by decide +kernel) (pa_cons (pe_callTy (cr_setKeys rfl hr.units) (by rfl) z_set (by decide +kernel)
        (pa_cons (pe_lc (own := [("form", 5)]) (g := gName 5) (by rfl) sc_is_scheme.nd (pi_tup (pv 2)) (blkOk_by (own := [("form", 5)]) (N := ["bare", "tops", "forms", "names", "kinds", "form"]) (sc := defScope s_is_scheme) (by decide +kernel)) (fun _ _ _ _ _ => pg_name (i := 5) sc_is_scheme.nd rfl (Or.inl rfl)) (fun _ _ _ _ _ => pts_nil)
          (fun _ _ _ _ _ => (pe_tup (pa_cons (pe_propG (n := "sort_name") (pv 5) T.c o2 G2 hc (hr.mono (by decide)) b2) (pa_cons (pe_propG (n := "children") (pv 5) T.c o3 G3 hc (hr.mono (by decide)) b3) pa_nil))))) pa_nil)) pa_nil)))
      (pss_one (ps_ret (pe_chain op_eq op_eq (pv 3) (pv 4) (pe_callB call_len_seq (by rfl) z_len PySem.boot_len (pa_cons (pv 2) pa_nil)))))))))), ?_⟩
    have big : ∀ {n : Nat}, n ≤ 200 → n < sizeLine := fun h => Nat.lt_of_le_of_lt h (by decide)
    cases to with
    | none =>
      exact ⟨_, rfl, tv, false, rfl, ta, fun H1 s1 => ⟨_, rfl, iteT (q H1 s1)⟩⟩
    | some ys =>
      obtain ⟨t, rfl, ht, fy, ly, ny⟩ := ta
      refine ⟨_, rfl, .ref t, true, rfl, .inl ⟨t, ys, rfl, ht, fy, by omega, ny.symm⟩, fun H1 s1 => ⟨_, rfl, iteF ⟨_, rfl, _, rfl, t, _, rfl, .inr (.inl (.inl (s1 _ _ ht))), fl, flat_strs ys, _, rfl, ?_⟩⟩⟩
      have q1 : ∀ H', Same H1 H' → Q (.bl (schB bv (some ys) ds)) H' := fun H' s => q H' (s1.trans s)
      rw [schB_some] at q1
      cases mem : inV bv (ys.map V.str) with
      | false =>
        rw [mem] at q1
        simp only [Bool.false_and] at q1
        exact iteT (q1 H1 (Same.refl _))
      | true =>
        rw [mem] at q1
        simp only [Bool.true_and] at q1
        refine iteF ?_
        have hf1 := s1 _ _ hf
        have F1 : ∀ {H' : Hp}, Same H1 H' → ∀ (i : Nat) (a : Addr) (d : FD), fs[i]? = some a → ds[i]? = some d → ∃ ch ts, FormAt H' C a ch d.1 d.2.1 ts d.2.2 := fun s i a d e1 e2 => by
          obtain ⟨ch, ts, FA⟩ := F.at_ i a d e1 e2
          exact ⟨ch, ts, FA.sm (s1.trans s)⟩
        have hT : ∀ {H' : Hp}, Same H1 H' → SqT K H' f (fs.map V.ref) := fun s => .inl (.inl (s _ _ hf1))
        have next : ∀ {i : Nat} {x : V}, (fs.map V.ref)[i]? = some x → ∃ a d, x = .ref a ∧ fs[i]? = some a ∧ ds[i]? = some d := fun {i x} hx => by
          rw [List.getElem?_map] at hx
          obtain ⟨a, ha, rfl⟩ := Option.map_eq_some_iff.mp hx
          have il : i < ds.length := by
            have := (List.getElem?_eq_some_iff.mp ha).1
            have := F.len
            omega
          exact ⟨a, ds[i], rfl, ha, List.getElem?_eq_getElem il⟩
        refine ⟨_, rfl, _, _, _, _, true, rfl, .ty _, .base (.tup hf1), kit_ty ki_tu, _, rfl, iteF ⟨_, rfl, f, rfl, ⟨_, hT (Same.refl _)⟩, fun D1 nD1 => ?_⟩⟩
        refine lc_tup (K := K) (a := f) (xs := fs.map V.ref) (fun i H' => Same H1 H' ∧ H' D1 = some (.lst ((List.replicate i true).map V.bl))) ⟨same_put nD1 (Same.refl _), upd_same⟩ (fun i H' _ h => hT h.1) (fun i x H2 hx h => ?_) (fun H2 h => ?_)
        · obtain ⟨s2, e2⟩ := h
          obtain ⟨a, d, rfl, ha, hd⟩ := next hx
          obtain ⟨ch, ts, ⟨dx, fa⟩, _⟩ := F1 s2 i a d ha hd
          refine ⟨rfl, _, rfl, _, _, _, _, true, rfl, .own C, .base (.ins fa T.c TI.ca TI.sp TI.tk TI.mo), TI.yes, _, e2, ?_, same_put nD1 s2, ?_⟩
          · rw [List.length_map, List.length_replicate]
            have := (List.getElem?_eq_some_iff.mp ha).1
            exact big (by omega)
          · rw [upd_same, List.replicate_succ', List.map_append]
            rfl
        · obtain ⟨s2, e2⟩ := h
          refine ⟨D1, List.replicate (fs.map V.ref).length true, rfl, .inl (.inl e2), _, rfl, ?_⟩
          have al : (List.replicate (fs.map V.ref).length true).all id = true := List.all_eq_true.mpr fun b hb => (List.mem_replicate.mp hb).2
          rw [al]
          refine iteF ?_
          have ln : ds.length = fs.length := F.len.symm
          have len : (fs.map V.ref).length = ds.length := by rw [List.length_map, F.len]
          -- how many forms there are
          have q2 : ∀ H', Same H2 H' → Q _ H' := fun H' s => q1 H' (s2.trans s)
          refine ⟨_, rfl, f, _, rfl, .inr (hT s2), _, _, rfl, rfl, _, rfl, ?_⟩
          rw [len]
          by_cases h1 : 1 ≤ ds.length
          · rw [decide_eq_true (show (1 : Int) ≤ (ds.length : Int) by omega)]
            rw [decide_eq_true h1, Bool.true_and] at q2
            refine iteT ⟨_, _, rfl, rfl, _, rfl, ?_⟩
            by_cases h24 : ds.length ≤ 24
            · rw [decide_eq_true (show (ds.length : Int) ≤ 24 by omega)]
              rw [decide_eq_true h24, Bool.true_and] at q2
              have s12 := s1.trans s2
              refine iteF ⟨_, rfl, _, rfl, t, f, ys, L, fs, ds, rfl, s12 _ _ ht, s2 _ _ hf1, ⟨F.len, F1 s2⟩, ly, lf, sub ys rfl, lL, fun p zs H3 s3 e3 mz srt nd => ?_⟩
              refine ⟨p, _, rfl, .inr (.inl (.inl e3)), _, _, rfl, rfl, _, rfl, ?_⟩
              have lz : zs.length = (dd (ys ++ said ds)).length := len_dd nd mz
              rw [List.length_map, lz]
              have q3 : ∀ H', Same H3 H' → Q _ H' := fun H' s => q2 H' (s3.trans s)
              have s13 := s2.trans s3
              by_cases h8 : (dd (ys ++ said ds)).length ≤ 8
              · rw [decide_eq_false (show ¬ (8 : Int) < ((dd (ys ++ said ds)).length : Int) by omega)]
                rw [decide_eq_true h8, Bool.true_and] at q3
                refine iteF ?_
                -- the names
                refine ⟨_, rfl, f, rfl, ⟨_, hT s13⟩, fun D2 nD2 => ?_⟩
                refine lc_tup (K := K) (a := f) (xs := fs.map V.ref) (fun i H' => Same H3 H' ∧ H' D2 = some (.lst (((ds.take i).map (·.1)).map V.str))) ⟨same_put nD2 (Same.refl _), upd_same⟩ (fun i H' _ h => hT (s13.trans h.1)) (fun i x H4 hx h => ?_) (fun H4 h => ?_)
                · obtain ⟨s4, e4⟩ := h
                  obtain ⟨a, d, rfl, ha, hd⟩ := next hx
                  obtain ⟨ch, ts, ⟨dx, fa⟩, _⟩ := F1 (s13.trans s4) i a d ha hd
                  refine ⟨rfl, _, rfl, a, dx, _, rfl, fa, a, ch, dx, d.1, d.2.1, .str d.1, rfl, fa, by rfl, _, e4, ?_, same_put nD2 s4, ?_⟩
                  · rw [List.length_map, List.length_map, List.length_take]
                    exact big (by omega)
                  · rw [upd_same, List.take_add_one, hd, List.map_append, List.map_append]
                    rfl
                · obtain ⟨s4, e4⟩ := h
                  rw [len, List.take_of_length_le (Nat.le_refl _)] at e4
                  refine ⟨D2, ds.map (·.1), rfl, .inl (.inl (.inl e4)), by rw [List.length_map]; omega, fun st n1 nst le1 cnt1 => ?_⟩
                  have s5 := same_new (o := SetN st n1) nst
                  rw [List.length_map] at le1 cnt1
                  refine ⟨st, n1, rfl, upd_same, by omega, ?_⟩
                  have s14 := (s13.trans s4).trans s5
                  generalize upd H4 st (SetN st n1) = H5 at s5 s14 ⊢
                  -- the kinds
                  refine ⟨_, rfl, f, rfl, ⟨_, hT s14⟩, fun D3 nD3 => ?_⟩
                  refine lc_tup (K := K) (a := f) (xs := fs.map V.ref) (fun i H' => Same H5 H' ∧ ∃ ms : List Nb.Mem, H' D3 = some (.lst (ms.map fun m => V.ref m.2)) ∧ ms.map (·.1) = (ds.take i).map (fun d => kindK d.2) ∧ ∀ m ∈ ms, Dp K H' (.ref m.2) m.1.data) ⟨same_put nD3 (Same.refl _), [], upd_same, rfl, fun m hm => nomatch hm⟩
                    (fun i H' _ h => hT (s14.trans h.1)) (fun i x H6 hx h => ?_) (fun H6 h => ?_)
                  · obtain ⟨s6, ms, e6, em, dm⟩ := h
                    obtain ⟨a, d, rfl, ha, hd⟩ := next hx
                    obtain ⟨ch, ts, ⟨dx, fa⟩, kd⟩ := F1 (s14.trans s6) i a d ha hd
                    refine ⟨rfl, _, rfl, a, dx, _, rfl, fa, a, ch, dx, d.1, d.2.1, .str d.2.1, rfl, fa, by rfl, _, rfl, a, dx, _, rfl, fa, a, ch, dx, d.1, d.2.1, .ref ch, rfl, fa, by rfl, by show 2 ≤ sizeLine; decide, fun u nu => ?_⟩
                    have s7 := same_new (o := .tup [.str d.2.1, .ref ch]) nu
                    have tD : u ≠ D3 := fun z => by
                      rw [z, e6] at nu
                      cases nu
                    have ml : ms.length ≤ i := by
                      have := congrArg List.length em
                      rw [List.length_map, List.length_map, List.length_take] at this
                      omega
                    have il : i < 24 := by
                      have := (List.getElem?_eq_some_iff.mp hd).1
                      omega
                    refine ⟨_, s7 _ _ e6, by rw [List.length_map]; exact big (by omega), same_put nD3 (s6.trans s7), ms ++ [(kindK d.2, u)], ?_, ?_, fun m hm => ?_⟩
                    · rw [upd_same, List.map_append]
                      rfl
                    · rw [List.map_append, em, List.take_add_one, hd, List.map_append]
                      rfl
                    · have keep : ∀ b x, b ≠ D3 → (upd H6 u (.tup [.str d.2.1, .ref ch])) b = some x → (upd (upd H6 u (.tup [.str d.2.1, .ref ch])) D3 (.lst (ms.map (fun m => V.ref m.2) ++ [.ref u]))) b = some x := fun b x n e => by rw [upd_ne n]; exact e
                      refine dp_but (s7 _ _ e6) keep _ _ ?_
                      rcases List.mem_append.mp hm with hm | hm
                      · exact Gd.Dp.same s7 _ _ (dm m hm)
                      · cases List.mem_singleton.mp hm
                        show Dp K _ (.ref u) (kindK d.2).data
                        rw [kind_data]
                        exact .tup (.inl (.inl upd_same)) (.cons (.str _) (.cons (kd.same s7).dp .nil))
                  · obtain ⟨s6, ms, e6, em, dm⟩ := h
                    rw [len, List.take_of_length_le (Nat.le_refl _)] at em
                    have lm : ms.length = ds.length := by
                      have := congrArg List.length em
                      rw [List.length_map, List.length_map] at this
                      exact this
                    refine ⟨D3, ms, rfl, .inl (.inl e6), fun m hm => ⟨dm m hm, ?_⟩, by omega, fun st2 n2 nst2 le2 cnt2 => ?_⟩
                    · have : m.1 ∈ ds.map fun d => kindK d.2 := by
                        rw [← em]
                        exact List.mem_map.mpr ⟨m, hm, rfl⟩
                      obtain ⟨d, _, e⟩ := List.mem_map.mp this
                      rw [← e]
                      exact kind_depth _
                    · have s8 := same_new (o := SetN st2 n2) nst2
                      rw [em, lm, nodup_kinds] at cnt2
                      refine ⟨st2, n2, rfl, upd_same, by omega, ?_⟩
                      have s15 := (s14.trans s6).trans s8
                      have fin := q3 _ (((s4.trans s5).trans s6).trans s8)
                      rw [← chain_dec cnt1 cnt2] at fin
                      refine ⟨_, rfl, _, rfl, rfl, _, rfl, ?_⟩
                      cases e12 : decide (V.int (n1 : Int) = V.int (n2 : Int)) with
                      | false =>
                        rw [e12] at fin
                        exact iteF fin
                      | true =>
                        rw [e12] at fin
                        refine iteT ⟨_, rfl, f, _, rfl, .inr (hT s15), rfl, ?_⟩
                        rw [len]
                        exact fin
              · rw [decide_eq_true (show (8 : Int) < ((dd (ys ++ said ds)).length : Int) by omega)]
                rw [decide_eq_false h8, Bool.false_and] at q3
                exact iteT (q3 H3 (Same.refl _))
            · rw [decide_eq_false (show ¬ (ds.length : Int) ≤ 24 by omega)]
              rw [decide_eq_false h24, Bool.false_and, Bool.false_and] at q2
              exact iteT (q2 H2 (Same.refl _))
          · rw [decide_eq_false (show ¬ (1 : Int) ≤ (ds.length : Int) by omega)]
            rw [decide_eq_false h1, Bool.false_and, Bool.false_and, Bool.false_and] at q2
            exact iteF ⟨_, rfl, iteT (q2 H2 (Same.refl _))⟩
end
end K04
set_option Elab.async false
set_option linter.all false
set_option autoImplicit false
set_option maxRecDepth 100000
set_option maxHeartbeats 4000000
namespace K04
open PySem PySem.Spec PyProof.Rows L2 Vb Wd Xd Xo Ts K01
abbrev s_S_init : Stmt := inB (topS 24) 0
theorem sc_S_init : FnScope ["self", "bare", "tops", "forms", "by_name", "form", "name"] ["self", "bare", "tops", "forms"] (defScope s_S_init) := ⟨rfl, rfl, rfl, by decide +kernel, rfl, by decide +kernel, by decide +kernel⟩
/-- all but what stands at a stays -/
def But (a : Addr) (H H' : Hp) : Prop := ∀ x o, x ≠ a → H x = some o → H' x = some o
theorem But.refl (a : Addr) (H : Hp) : But a H H := fun _ _ _ e => e
theorem But.trans {a : Addr} {H H1 H2 : Hp} (s : But a H H1) (t : But a H1 H2) : But a H H2 := fun x o n e => t x o n (s x o n e)
theorem But.of {a : Addr} {H H1 : Hp} (s : Same H H1) : But a H H1 := fun x o _ e => s x o e
theorem But.put {a : Addr} {H : Hp} (o : HO) : But a H (upd H a o) := fun x y n e => by
  rw [upd_ne n]
  exact e
theorem Kid.but {H H' : Hp} {a t : Addr} {n : Str} {s : Int} {C dx : Addr} {gs : List (Str × V)} (ha : H a = some (.ins C dx gs)) (b : But a H H') (k : Kid H t n s) : Kid H' t n s :=
  ⟨b _ _ (fun z => by
    have := k.at_
    rw [z, ha] at this
    cases this) k.at_, k.nam, k.plain, k.lo, k.hi⟩
theorem Kids.but {H H' : Hp} {a c : Addr} {ts : List Addr} {cs : List (Str × Int)} {C dx : Addr} {gs : List (Str × V)} (ha : H a = some (.ins C dx gs)) (b : But a H H') (k : Kids H c ts cs) : Kids H' c ts cs :=
  ⟨b _ _ (fun z => by
    have := k.at_
    rw [z, ha] at this
    cases this) k.at_, k.len, k.lo, k.hi, fun i t c' h1 h2 => (k.kid i t c' h1 h2).but ha b⟩
/-- the scheme at a: its bare sort, its tops, its forms ascending by name -/
structure SchemeAt (H : Hp) (C CS a : Addr) (b : Str) (ys : List Str) (ds : List FD) : Prop where
  ex : ∃ (dx t bn nm f so : Addr) (kvs : List (L2.Key × V)) (fs : List Addr) (zs : List Str), H a = some (.ins CS dx (fldsS b t bn nm f so)) ∧ H t = some (.tup (ys.map V.str)) ∧ H nm = some (.tup ((ds.map (·.1)).map V.str)) ∧ H f = some (.tup (fs.map V.ref)) ∧ Forms H C fs ds ∧
    H bn = some (.dK kvs) ∧ (∀ (i : Nat) (a' : Addr) (d : FD), fs[i]? = some a' → ds[i]? = some d → valV kvs (Sum.inr d.1) = some (.ref a')) ∧ H so = some (.tup (zs.map V.str)) ∧ (∀ k, k ∈ zs ↔ k ∈ ys ++ said ds) ∧ sortedS zs = true ∧ zs.Nodup
  srt : sortedS (ds.map (·.1)) = true
  once : (ds.map (·.1)).Nodup
  few : 1 ≤ ds.length ∧ ds.length ≤ 24
  nams : ∀ d ∈ ds, isNam (.str d.1) = true ∧ isNam (.str d.2.1) = true
  tops : (∀ y ∈ ys, Fine y) ∧ ys.length ≤ 60 ∧ (ys.all nam && asc ys) = true ∧ b ∈ ys
  sorts : (dd (ys ++ said ds)).length ≤ 8
theorem inV_str {v : V} (fl : flatV v = true) {ys : List Str} (h : inV v (ys.map V.str) = true) : ∃ b, v = .str b ∧ b ∈ ys := by
  unfold inV at h
  obtain ⟨y, hy, e⟩ := List.any_eq_true.mp h
  obtain ⟨z, hz, rfl⟩ := List.mem_map.mp hy
  cases v with
  | str b =>
    have : z = b := by simpa [eqV] using e
    exact ⟨b, rfl, this ▸ hz⟩
  | non => simp [eqV] at e
  | bl _ => simp [eqV] at e
  | int _ => simp [eqV] at e
  | byt _ => cases fl
  | flt _ => cases fl
  | ref _ => cases fl
  | ty _ => cases fl
/-- what a call of Scheme is asked with -/
structure SArgs (K : PySem.W.Frag) (H : Hp) (C f : Addr) (bv tv : V) (to : Option (List Str)) (fs : List Addr) (ds : List FD) (L : List Str) : Prop where
  flat : flatV bv = true
  tops : TopsAt K H tv to
  at_ : H f = some (.tup (fs.map V.ref))
  forms : Forms H C fs ds
  few : fs.length ≤ 40
  sub : ∀ ys, to = some ys → ∀ y ∈ ys ++ said ds, y ∈ L
  lL : L.length < 64
  nams : ∀ d ∈ ds, isNam (.str d.1) = true ∧ isNam (.str d.2.1) = true
def spInitS (K : PySem.W.Frag) (C CS CI : Addr) : Sp := fun vs H Q E => ∃ (a dx f : Addr) (bv tv : V) (to : Option (List Str)) (fs : List Addr) (ds : List FD) (L : List Str), vs = [.ref a, bv, tv, .ref f] ∧ H a = some (.ins CS dx []) ∧ SArgs K H C f bv tv to fs ds L ∧
  (∀ b ys, bv = .str b → to = some ys → schB bv to ds = true → ∀ H' ds', But a H H' → SchemeAt H' C CS a b ys ds' → ds'.Perm ds → Q .non H') ∧ (schB bv to ds = false → ∀ H', Same H H' → E (.ref CI) none H')
/-! ### forms by their names -/
def kvsP (ps : List (FD × Addr)) : List (L2.Key × V) := ps.map fun p => (Sum.inr p.1.1, V.ref p.2)
def pOf (ps : List (FD × Addr)) (y : Str) : FD × Addr := (ps.find? fun p => decide (p.1.1 = y)).getD (("", "", []), 0)
theorem pOf_mem {ps : List (FD × Addr)} {y : Str} (h : y ∈ ps.map (·.1.1)) : pOf ps y ∈ ps ∧ (pOf ps y).1.1 = y := by
  obtain ⟨p, hp, rfl⟩ := List.mem_map.mp h
  have hs : (ps.find? fun q => decide (q.1.1 = p.1.1)).isSome = true := List.find?_isSome.mpr ⟨p, hp, by simp⟩
  obtain ⟨q, hq⟩ := Option.isSome_iff_exists.mp hs
  have e : pOf ps p.1.1 = q := by
    unfold pOf
    rw [hq]
    rfl
  rw [e]
  have := List.find?_some hq
  exact ⟨List.mem_of_find?_eq_some hq, of_decide_eq_true this⟩
theorem once_at {ps : List (FD × Addr)} (nd : (ps.map (·.1.1)).Nodup) {p q : FD × Addr} (hp : p ∈ ps) (hq : q ∈ ps) (e : p.1.1 = q.1.1) : p = q := by
  induction ps with
  | nil => cases hp
  | cons r ps ih =>
    rw [List.map_cons] at nd
    obtain ⟨n1, n2⟩ := List.nodup_cons.mp nd
    rcases List.mem_cons.mp hp with ep | hp2
    · rcases List.mem_cons.mp hq with eq | hq2
      · rw [ep, eq]
      · exact (n1 (List.mem_map.mpr ⟨q, hq2, by rw [← e, ep]⟩)).elim
    · rcases List.mem_cons.mp hq with eq | hq2
      · exact (n1 (List.mem_map.mpr ⟨p, hp2, by rw [e, eq]⟩)).elim
      · exact ih n2 hp2 hq2
theorem pOf_self {ps : List (FD × Addr)} (nd : (ps.map (·.1.1)).Nodup) {p : FD × Addr} (hp : p ∈ ps) : pOf ps p.1.1 = p := by
  obtain ⟨h1, h2⟩ := pOf_mem (List.mem_map.mpr ⟨p, hp, rfl⟩)
  exact once_at nd h1 hp h2
theorem pOf_perm {ps : List (FD × Addr)} (nd : (ps.map (·.1.1)).Nodup) {ys : List Str} (pm : ys.Perm (ps.map (·.1.1))) : (ys.map (pOf ps)).Perm ps := by
  have h := pm.map (pOf ps)
  rw [List.map_map] at h
  have e : ps.map (pOf ps ∘ fun p => p.1.1) = ps := by
    have : ps.map (pOf ps ∘ fun p => p.1.1) = ps.map id := List.map_congr_left fun p hp => pOf_self nd hp
    rw [this, List.map_id]
  rw [e] at h
  exact h
theorem kvsP_keys (ps : List (FD × Addr)) : (kvsP ps).map (·.1) = (ps.map (·.1.1)).map Sum.inr := by
  unfold kvsP
  rw [List.map_map, List.map_map]
  rfl
theorem kvsP_nodup {ps : List (FD × Addr)} (nd : (ps.map (·.1.1)).Nodup) : ((kvsP ps).map (·.1)).Nodup := by
  rw [kvsP_keys]
  unfold List.Nodup
  rw [List.pairwise_map]
  exact List.Pairwise.imp (fun n e => n (Sum.inr.inj e)) nd
theorem kvsP_val {ps : List (FD × Addr)} (nd : (ps.map (·.1.1)).Nodup) {p : FD × Addr} (hp : p ∈ ps) : valV (kvsP ps) (Sum.inr p.1.1) = some (.ref p.2) := by
  have := val_nodup (kvsP_nodup nd) (Sum.inr p.1.1, V.ref p.2) (List.mem_map.mpr ⟨p, hp, rfl⟩)
  exact this
theorem kvsP_put {ps : List (FD × Addr)} {p : FD × Addr} (h : p.1.1 ∉ ps.map (·.1.1)) : putK (kvsP ps) (Sum.inr p.1.1) (V.ref p.2) = kvsP (ps ++ [p]) := by
  have none_ : valV (kvsP ps) (Sum.inr p.1.1) = none := by
    cases e : valV (kvsP ps) (Sum.inr p.1.1) with
    | none => rfl
    | some v =>
      have m := valV_in e
      rw [kvsP_keys] at m
      obtain ⟨y, hy, e2⟩ := List.mem_map.mp m
      exact absurd (Sum.inr.inj e2 ▸ hy) h
  rw [putK_new _ none_]
  unfold kvsP
  rw [List.map_append]
  rfl
theorem said_perm {ds ds' : List FD} (pm : ds'.Perm ds) (k : Str) : k ∈ said ds' ↔ k ∈ said ds := by
  unfold said
  rw [List.mem_flatMap, List.mem_flatMap]
  exact ⟨fun ⟨d, h, m⟩ => ⟨d, pm.mem_iff.mp h, m⟩, fun ⟨d, h, m⟩ => ⟨d, pm.mem_iff.mpr h, m⟩⟩
/-- what is known of an error class without an __init__ of its own, over ValueError -/
structure ErrC (K : PySem.W.Frag) (mg : Str → Option Value) (x : Str) (C : Addr) : Prop where
  e : PySem.W.excIn K C [.type "ValueError", .type "Exception", .type "BaseException", .type "object"] "ValueError.__new__" = true
  g : mg x = some (.ref C)
  k : PySem.W.keepIn K (.ref C) = true
  b : PySem.W.subIn K (.ref C) (.type "BaseException") = some true
  t : PySem.W.typeIn K (.ref C) = some (.type "type")
section
variable {P : Program} {w : World} {K : PySem.W.Frag} {mg : Str → Option Value} {base : Heap} {C CS CI : Addr}
theorem ok_S_init {f0 : Addr} {fd : FuncData} (F : Fun K "__init__" "Scheme.__init__" s_S_init f0 fd) (T : FormC K C) (TS : SchemeC K CS) (TP : FormP P w K mg base C) (TE : ErrC K mg "InvalidScheme" CI) (G_is_scheme : Cg P w K mg base 4 "_is_scheme" (spIsS K C)) (G_sorts_of : Cg P w K mg base 3 "_sorts_of" (spSorts K C))
    (z_tuple : mg "tuple" = none) (z_sorted : mg "sorted" = none) : FnE P w K mg base 5 f0 fd ["self", "bare", "tops", "forms"] (spInitS K C CS CI) := by
  obtain ⟨p1, g1, fd1, o1, G1, b1⟩ := TP.get ("called", "_called") (by simp)
  refine goes_exc F sc_S_init (fun vs H Q E h => ?_) (fun cdv A outer s H vs Q E hc hr tk h => ?_)
  · obtain ⟨a, dx, f, bv, tv, to, fs, ds, L, rfl, _⟩ := h
    rfl
  · obtain ⟨a, dx, f, bv, tv, to, fs, ds, L, rfl, ha, X, q1, q2⟩ := h
    refine ⟨_, (pss_cons (ps_if (pt_not (pt_val (pe_cg G_is_scheme hc hr (by rfl) (pa_cons (pv 1) (pa_cons (pv 2) (pa_cons (pv 3) pa_nil))) (hx := pass0)))) (pss_one (ps_raise (by rfl) tk (pmk_own PySem.F.excBase_ValueError TE.e TE.g TE.k (raises_own TE.b TE.t) (by rfl)))) pss_nil)
      (pss_cons (ps_set (i := 4) sc_S_init.nd rfl (Or.inr rfl) (pe_dc (own := [("form", 5)]) (g := gName 5) (by rfl) sc_S_init.nd (pi_tup (pv 3)) (blkOk_by (own := [("form", 5)]) (N := ["self", "bare", "tops", "forms", "by_name", "form", "name"]) (sc := defScope s_S_init) (by decide +kernel)) (fun _ _ _ _ _ => pg_name (i := 5) sc_S_init.nd rfl (Or.inl rfl)) (fun _ _ _ _ _ => pts_nil)
        (fun _ _ _ _ _ => (pe_propG (n := "called") (pv 5) T.c o1 G1 hc (hr.mono (by decide)) b1)) (fun _ _ _ _ _ => pv 5)))
      (pss_cons (ps_fld (f := "_bare") (pv 0) (pv 1) (by rfl))
      (pss_cons (ps_fld (f := "_tops") (pv 0) (pv 2) (by rfl))
      (pss_cons (ps_fld (f := "_by_name") (pv 0) (pv 4) (by rfl))
      (pss_cons (ps_fld (f := "_names") (pv 0) (pe_callTy (cr_tuple : CallR _ _ (rTup K)) (by rfl) z_tuple (by decide +kernel) (pa_cons (pe_callB (call_sortedD rfl) (by rfl) z_sorted (by decide +kernel) (pa_cons (pv 4) pa_nil)) pa_nil)) (by rfl))
      (pss_cons (ps_fld (f := "_forms") (pv 0) (pe_callTy (cr_tuple : CallR _ _ (rTup K)) (by rfl) z_tuple (by decide +kernel) (pa_cons (pe_lc (own := [("name", 6)]) (g := gName 6) (by rfl) sc_S_init.nd (pi_tup (pe_fld (f := "_names") (pv 0) (by rfl))) (blkOk_by (own := [("name", 6)]) (N := ["self", "bare", "tops", "forms", "by_name", "form", "name"]) (sc := defScope s_S_init) (by decide +kernel)) (fun _ _ _ _ _ => pg_name (i := 6) sc_S_init.nd rfl (Or.inl rfl)) (fun _ _ _ _ _ => pts_nil)
        (fun _ _ _ _ _ => (pe_dget (hu_of hr) (pv 4) (pv 6) (fun _ _ => rfl)))) pa_nil)) (by rfl))
      (pss_one (ps_fld (f := "_sorts") (pv 0) (pe_cg G_sorts_of hc hr (by rfl) (pa_cons (pv 2) (pa_cons (pv 3) pa_nil)) (hx := pass0)) (by rfl)))))))))), ?_⟩
    refine ⟨_, rfl, _, rfl, _, rfl, bv, tv, to, f, fs, ds, L, rfl, X.flat, X.tops, X.at_, X.forms, X.few, X.sub, X.lL, fun H1 s1 => ⟨_, rfl, ?_⟩⟩
    cases e : schB bv to ds with
    | false => exact iteT (q2 e H1 s1)
    | true =>
      have big : ∀ {n : Nat}, n ≤ 200 → n < sizeLine := fun h => Nat.lt_of_le_of_lt h (by decide)
      cases to with
      | none => cases e
      | some ys =>
        have es := e
        rw [schB_some] at es
        simp only [Bool.and_eq_true, decide_eq_true_eq] at es
        obtain ⟨⟨⟨mem, d1, d24⟩, d8⟩, once, kinds⟩ := es
        obtain ⟨b, rfl, bm⟩ := inV_str X.flat mem
        obtain ⟨t, rfl, ht, fy, ly, ny⟩ := X.tops
        have FL := X.forms.len
        generalize eps : ds.zip fs = ps
        have psl : ps.length = ds.length := by rw [← eps, List.length_zip, FL, Nat.min_self]
        have ps1 : ps.map (·.1) = ds := by rw [← eps]; exact List.map_fst_zip (by omega)
        have psn : ps.map (·.1.1) = ds.map (·.1) := by rw [← ps1, List.map_map]; rfl
        have nd : (ps.map (·.1.1)).Nodup := by rw [psn]; exact once
        have atp : ∀ p ∈ ps, ∃ i : Nat, ds[i]? = some p.1 ∧ fs[i]? = some p.2 := fun p hp => by
          obtain ⟨i, hi⟩ := List.mem_iff_getElem?.mp hp
          rw [← eps, List.getElem?_zip_eq_some] at hi
          exact ⟨i, hi.1, hi.2⟩
        have hf1 := s1 _ _ X.at_
        have ha1 := s1 _ _ ha
        have ht1 := s1 _ _ ht
        refine iteF ⟨_, rfl, f, rfl, ⟨_, .inl (.inl hf1)⟩, fun D nD => ?_⟩
        refine dc_tup (K := K) (a := f) (xs := fs.map V.ref) (fun i H' => Same H1 H' ∧ H' D = some (.dK (kvsP (ps.take i)))) ⟨same_put nD (Same.refl _), by rw [upd_same]; rfl⟩ (fun i H' _ h => .inl (.inl (h.1 _ _ hf1))) (fun i x H2 hx h => ?_) (fun H2 h => ?_)
        · obtain ⟨s2, e2⟩ := h
          rw [List.getElem?_map] at hx
          obtain ⟨a', ha', rfl⟩ := Option.map_eq_some_iff.mp hx
          have il : i < ds.length := by
            have := (List.getElem?_eq_some_iff.mp ha').1
            omega
          obtain ⟨ch, ts, FA⟩ := X.forms.at_ i a' ds[i] ha' (List.getElem?_eq_getElem il)
          have hd : ds[i]? = some ds[i] := List.getElem?_eq_getElem il
          generalize ds[i] = d at FA hd
          obtain ⟨⟨dx', fa⟩, _⟩ := FA.sm (s1.trans s2)
          have hp : ps[i]? = some (d, a') := by rw [← eps, List.getElem?_zip_eq_some]; exact ⟨hd, ha'⟩
          have out : d.1 ∉ (ps.take i).map (·.1.1) := fun m => by
            obtain ⟨q, hq, eq⟩ := List.mem_map.mp m
            have hq' := List.mem_of_mem_take hq
            have := once_at nd hq' (List.mem_of_getElem? hp) eq
            rw [this] at hq
            obtain ⟨j, hj⟩ := List.mem_iff_getElem?.mp hq
            rw [List.getElem?_take] at hj
            split at hj
            · rename_i ji
              have nd2 : ps.Nodup := by
                unfold List.Nodup at nd ⊢
                rw [List.pairwise_map] at nd
                exact nd.imp fun n e => n (by rw [e])
              have := (List.getElem?_inj (by rw [psl]; omega) nd2).mp (hj.trans hp.symm)
              omega
            · cases hj
          refine ⟨rfl, _, rfl, a', dx', _, rfl, fa, a', ch, dx', d.1, d.2.1, .str d.1, rfl, fa, by rfl, _, rfl, kvsP (ps.take i), Sum.inr d.1, rfl, e2, ?_, same_put nD s2, ?_⟩
          · unfold kvsP
            rw [List.length_map, List.length_take]
            exact big (by omega)
          · rw [upd_same, List.take_add_one, hp]
            exact congrArg (fun z => some (HO.dK z)) (kvsP_put (p := (d, a')) out)
        · obtain ⟨s2, e2⟩ := h
          rw [List.length_map, FL, ← psl, List.take_length] at e2
          have aD : a ≠ D := fun z => by
            rw [z] at ha1
            rw [ha1] at nD
            cases nD
          refine ⟨_, rfl, _, rfl, a, CS, dx, _, rfl, s2 _ _ ha1, TS.c, TS.n _ (by simp), by decide, _, rfl, _, rfl, a, CS, dx, _, rfl, upd_same, TS.c, TS.n _ (by simp), by show 1 < 1000; decide, _, rfl, _, rfl, a, CS, dx, _, rfl, upd_same, TS.c, TS.n _ (by simp), by show 2 < 1000; decide, ?_⟩
          rw [upd_upd, upd_upd]
          have s12 := s1.trans s2
          generalize eg3 : (upd H2 a _ : Hp) = H3
          have b3 : But a H2 H3 := by rw [← eg3]; exact But.put _
          have a3 : H3 a = some (.ins CS dx [("_bare", .str b), ("_tops", .ref t), ("_by_name", .ref D)]) := by rw [← eg3]; exact upd_same
          have e3 : H3 D = some (.dK (kvsP ps)) := b3 _ _ (fun z => aD z.symm) e2
          refine ⟨_, rfl, D, kvsP ps, ds.map (·.1), rfl, Rd.of e3, by rw [kvsP_keys, psn], by rw [List.length_map]; omega, fun zs p pm srt np => ?_⟩
          have zl : zs.length = ds.length := by rw [pm.length_eq, List.length_map]
          refine ⟨p, _, rfl, .inl ⟨.inl (.inl upd_same), fun nm nnm => ?_⟩⟩
          have s4 := (same_new (o := .lst (zs.map V.str)) np).trans (same_new (o := .tup (zs.map V.str)) nnm)
          generalize eg4 : upd (upd H3 p (.lst (zs.map V.str))) nm (.tup (zs.map V.str)) = H4 at s4 ⊢
          have n4 : H4 nm = some (.tup (zs.map V.str)) := by rw [← eg4]; exact upd_same
          have anm : nm ≠ a := fun z => by
            have := s4 _ _ a3
            rw [← z, n4] at this
            cases this
          refine ⟨_, rfl, a, CS, dx, _, rfl, s4 _ _ a3, TS.c, TS.n _ (by simp), by show 3 < 1000; decide, ?_⟩
          have b5 : ∀ o, But a H4 (upd H4 a o) := fun o => But.put o
          generalize eg5 : (upd H4 a _ : Hp) = H5
          have b5 : But a H4 H5 := by rw [← eg5]; exact But.put _
          have a5 : H5 a = some (.ins CS dx [("_bare", .str b), ("_tops", .ref t), ("_by_name", .ref D), ("_names", .ref nm)]) := by rw [← eg5]; exact upd_same
          have n5 := b5 _ _ anm n4
          have e5 := b5 _ _ (fun z => aD z.symm) (s4 _ _ e3)
          refine ⟨_, rfl, a, CS, dx, _, .ref nm, rfl, a5, TS.c, TS.n _ (by simp), by rfl, nm, rfl, ⟨_, .inl (.inl n5)⟩, fun D2 nD2 => ?_⟩
          generalize eqs : zs.map (pOf ps) = qs
          have qpm : qs.Perm ps := by rw [← eqs]; exact pOf_perm nd (by rw [psn]; exact pm)
          refine lc_tup (K := K) (a := nm) (xs := zs.map V.str) (fun i H' => Same H5 H' ∧ H' D2 = some (.lst ((qs.take i).map fun q => V.ref q.2))) ⟨same_put nD2 (Same.refl _), upd_same⟩ (fun i H' _ h => .inl (.inl (h.1 _ _ n5))) (fun i x H6 hx h => ?_) (fun H6 h => ?_)
          · obtain ⟨s6, e6⟩ := h
            rw [List.getElem?_map] at hx
            obtain ⟨z, hz, rfl⟩ := Option.map_eq_some_iff.mp hx
            have hq : qs[i]? = some (pOf ps z) := by rw [← eqs, List.getElem?_map, hz]; rfl
            have zm : z ∈ ps.map (·.1.1) := by rw [psn]; exact pm.mem_iff.mp (List.mem_of_getElem? hz)
            obtain ⟨m1, m2⟩ := pOf_mem zm
            have vz := kvsP_val nd m1
            rw [m2] at vz
            refine ⟨rfl, _, rfl, _, rfl, D, .ref (pOf ps z).2, rfl, .inl ⟨kvsP ps, Sum.inr z, .inl (s6 _ _ e5), rfl, vz.symm⟩, _, e6, ?_, same_put nD2 s6, ?_⟩
            · rw [List.length_map, List.length_take]
              have := (List.getElem?_eq_some_iff.mp hz).1
              exact big (by omega)
            · rw [upd_same, List.take_add_one, hq, List.map_append]
              rfl
          · obtain ⟨s6, e6⟩ := h
            have ql : qs.length = ds.length := by rw [qpm.length_eq, psl]
            rw [List.length_map, zl, ← ql, List.take_length] at e6
            refine ⟨D2, _, rfl, .inl ⟨.inl (.inl e6), fun f2 nf2 => ?_⟩⟩
            have s7 := s6.trans (same_new (o := .tup (qs.map fun q => V.ref q.2)) nf2)
            generalize eg7 : upd H6 f2 (.tup (qs.map fun q => V.ref q.2)) = H7 at s7 ⊢
            have f7 : H7 f2 = some (.tup (qs.map fun q => V.ref q.2)) := by rw [← eg7]; exact upd_same
            have af : f2 ≠ a := fun z => by
              have := s7 _ _ a5
              rw [← z, f7] at this
              cases this
            refine ⟨_, rfl, a, CS, dx, _, rfl, s7 _ _ a5, TS.c, TS.n _ (by simp), by show 4 < 1000; decide, ?_⟩
            generalize eg8 : (upd H7 a _ : Hp) = H8
            have b8 : But a H7 H8 := by rw [← eg8]; exact But.put _
            have a8 : H8 a = some (.ins CS dx [("_bare", .str b), ("_tops", .ref t), ("_by_name", .ref D), ("_names", .ref nm), ("_forms", .ref f2)]) := by rw [← eg8]; exact upd_same
            -- all that was there is there
            have bb : But a H1 H8 := ((((But.of s2).trans b3).trans (But.of s4)).trans b5).trans ((But.of s7).trans b8)
            have fa : ∀ {g : Addr} {xs : List V}, H1 g = some (.tup xs) → g ≠ a := fun {g xs} h z => by
              rw [z, ha1] at h
              cases h
            have forms8 : ∀ (i : Nat) (a' : Addr) (d : FD), fs[i]? = some a' → ds[i]? = some d → ∃ ch ts, FormAt H8 C a' ch d.1 d.2.1 ts d.2.2 := fun i a' d h1 h2 => by
              obtain ⟨ch, ts, FA⟩ := X.forms.at_ i a' d h1 h2
              obtain ⟨⟨dx', q⟩, kd⟩ := FA.sm s1
              refine ⟨ch, ts, ⟨dx', bb _ _ (fun z => ?_) q⟩, kd.but ha1 bb⟩
              rw [z, ha1] at q
              cases q
            refine ⟨_, rfl, _, rfl, t, f, ys, L, fs, ds, rfl, bb _ _ (fa ht1) ht1, bb _ _ (fa hf1) hf1, ⟨FL, forms8⟩, ly, X.few, X.sub ys rfl, X.lL, fun so zs' H9 s9 e9 mz srt9 nd9 => ?_⟩
            have aso : so ≠ a := fun z => by
              have := s9 _ _ a8
              rw [← z, e9] at this
              cases this
            refine ⟨_, rfl, a, CS, dx, _, rfl, s9 _ _ a8, TS.c, TS.n _ (by simp), by show 5 < 1000; decide, ?_⟩
            have b9 : But a H9 (upd H9 a (.ins CS dx (fldsS b t D nm f2 so))) := But.put _
            have dpm : (qs.map (·.1)).Perm ds := by
              have := qpm.map (·.1)
              rw [ps1] at this
              exact this
            have bend := (bb.trans (But.of s9)).trans b9
            have names : (qs.map (·.1)).map (·.1) = zs := by
              rw [← eqs, List.map_map, List.map_map]
              have : zs.map (fun z => (pOf ps z).1.1) = zs.map id := List.map_congr_left fun z hz => by
                have zm : z ∈ ps.map (·.1.1) := by rw [psn]; exact pm.mem_iff.mp hz
                exact (pOf_mem zm).2
              rw [List.map_id] at this
              exact this
            have mz' : ∀ k, k ∈ zs' ↔ k ∈ ys ++ said (qs.map (·.1)) := fun k => by
              rw [mz k, List.mem_append, List.mem_append, said_perm dpm k]
            refine q1 b ys rfl rfl e (upd H9 a (.ins CS dx (fldsS b t D nm f2 so))) (qs.map (·.1)) ?_ ⟨⟨dx, t, D, nm, f2, so, kvsP ps, qs.map (·.2), zs', upd_same, ?_, ?_, ?_, ⟨?_, ?_⟩, ?_, ?_, ?_, mz', srt9, nd9⟩, ?_, ?_, ?_, ?_, ⟨fy, ly, ny, bm⟩, ?_⟩ dpm
            · exact fun x o n h => bend x o n (s1 x o h)
            · exact bend _ _ (fa ht1) ht1
            · rw [names]
              exact b9 _ _ anm (s9 _ _ (b8 _ _ anm (s7 _ _ n5)))
            · rw [List.map_map]
              exact b9 _ _ af (s9 _ _ (b8 _ _ af f7))
            · rw [List.length_map, List.length_map]
            · intro i a' d h1 h2
              rw [List.getElem?_map] at h1 h2
              obtain ⟨q, hq, rfl⟩ := Option.map_eq_some_iff.mp h1
              rw [hq] at h2
              cases h2
              obtain ⟨j, j1, j2⟩ := atp q (qpm.mem_iff.mp (List.mem_of_getElem? hq))
              obtain ⟨ch, ts, FA⟩ := X.forms.at_ j _ _ j2 j1
              obtain ⟨⟨dx', q'⟩, kd⟩ := FA.sm s1
              refine ⟨ch, ts, ⟨dx', bend _ _ (fun z => ?_) q'⟩, kd.but ha1 bend⟩
              rw [z, ha1] at q'
              cases q'
            · exact b9 _ _ (fun z => aD z.symm) (s9 _ _ (b8 _ _ (fun z => aD z.symm) (s7 _ _ e5)))
            · intro i a' d h1 h2
              rw [List.getElem?_map] at h1 h2
              obtain ⟨q, hq, rfl⟩ := Option.map_eq_some_iff.mp h1
              rw [hq] at h2
              cases h2
              exact kvsP_val nd (qpm.mem_iff.mp (List.mem_of_getElem? hq))
            · exact b9 _ _ aso e9
            · rw [names]
              exact srt
            · exact ((dpm.map (·.1)).nodup_iff.mpr once)
            · rw [dpm.length_eq]
              exact ⟨d1, d24⟩
            · exact fun d hd => X.nams d (dpm.mem_iff.mp hd)
            · rw [← len_dd nd9 mz', len_dd nd9 mz]
              exact d8
end
end K04
set_option Elab.async false
set_option linter.all false
set_option autoImplicit false
set_option maxRecDepth 100000
set_option maxHeartbeats 4000000
/-! Zt: what stays while dice, lists and dicts change: tuples; small helps. -/
namespace Zt
open PySem PySem.Spec PyProof.Rows L2 Vb Wd
/-- all tuples stay -/
def Tups (H H' : Hp) : Prop := ∀ b xs, H b = some (.tup xs) → H' b = some (.tup xs)
theorem Tups.refl (H : Hp) : Tups H H := fun _ _ e => e
theorem Tups.trans {H H1 H2 : Hp} (s : Tups H H1) (t : Tups H1 H2) : Tups H H2 := fun b xs e => t b xs (s b xs e)
theorem Tups.of {H H1 : Hp} (s : Same H H1) : Tups H H1 := fun b xs e => s b _ e
theorem Tups.past {d : Addr} {H H1 : Hp} (hd : Dice H d) (p : Past d H H1) : Tups H H1 := fun b xs e => p.1 b _ (fun z => by
  obtain ⟨g, s, c, q⟩ := hd
  rw [z, q] at e
  cases e) e
theorem Tups.put {H : Hp} {a : Addr} (o : HO) (n : ∀ xs, H a ≠ some (.tup xs)) : Tups H (upd H a o) := fun b xs e => by
  have ne : b ≠ a := fun z => by
    rw [z] at e
    exact n xs e
  rw [upd_ne ne]
  exact e
theorem Tups.putL {H : Hp} {a : Addr} {ys : List V} (o : HO) (h : H a = some (.lst ys)) : Tups H (upd H a o) := Tups.put o fun xs e => by
  rw [h] at e
  cases e
theorem Tups.putD {H : Hp} {a : Addr} {kvs : List (L2.Key × V)} (o : HO) (h : H a = some (.dK kvs)) : Tups H (upd H a o) := Tups.put o fun xs e => by
  rw [h] at e
  cases e
theorem Tups.new {H : Hp} {a : Addr} (o : HO) (h : H a = none) : Tups H (upd H a o) := Tups.put o fun xs e => by
  rw [h] at e
  cases e
/-- a new thing changes, the dice roll -/
theorem past_put {d D : Addr} {H H' : Hp} {o : HO} (nD : H D = none) (ne : D ≠ d) (p : Past d H H') : Past d H (upd H' D o) := by
  obtain ⟨k, g, s, c, q⟩ := p
  refine ⟨fun b x n e => ?_, g, s, c, ?_⟩
  · rw [upd_ne (ne_of_none e nD)]
    exact k b x n e
  · rw [upd_ne ne.symm]
    exact q
theorem nat_of {r : Int} (h : 0 ≤ r) : ∃ k : Nat, r = k := ⟨r.toNat, (Int.toNat_of_nonneg h).symm⟩
theorem fresh_of {d p : Addr} {H H' : Hp} (q : Past d H H') (n : H' p = none) (ne : p ≠ d) : H p = none := by
  cases z : H p with
  | none => rfl
  | some o =>
    rw [q.1 _ _ ne z] at n
    cases n
theorem units65 {k : Nat} {A : Around} (r : Room k A) : A.units + 65 < cLine := by
  have := r.un
  omega
theorem ne_dice {d a : Addr} {H : Hp} {o : HO} (hd : Dice H d) (e : H a = some o) (n : ∀ g s c, o ≠ dz g s c) : a ≠ d := fun z => by
  obtain ⟨g, s, c, q⟩ := hd
  rw [z, q] at e
  cases e
  exact n g s c rfl
/-- a new thing, by a name for the heap -/
theorem opened {d p : Addr} {H : Hp} (hd : Dice H d) (np : H p = none) (o : HO) : ∃ H1, upd H p o = H1 ∧ Past d H H1 ∧ H1 p = some o ∧ p ≠ d := ⟨_, rfl, Past.new hd np, upd_same, hd.ne np⟩
/-- a statement that leads on in more than one way -/
theorem seq_join {s u : TS} {D : Ends} {σ : L2.St} {H : Hp} (I : L2.St → Hp → Prop) (hs : ∀ nx : L2.St → Hp → Prop, (∀ σ H, I σ H → nx σ H) → s { D with nx := nx } σ H) (hu : ∀ σ H, I σ H → u D σ H) : tSeq s u D σ H := hs _ hu
/-- .. right behind a name was given a value -/
theorem name_join {s u : TS} {D : Ends} {σ : L2.St} {H : Hp} {i : Nat} {x : V} (I : L2.St → Hp → Prop) (hs : ∀ nx : L2.St → Hp → Prop, (∀ σ H, I σ H → nx σ H) → s { D with nx := nx } (σ.set i (some x)) H) (hu : ∀ σ H, I σ H → u D σ H) {rt : VK} {bk ct : L2.St → Hp → Prop} : gName i x σ H (Ends.mk (tSeq s u D) rt bk ct).nx := hs _ hu
/-! ### data that can be compared -/
def Lays (n : Nat) (d : PyData) : Prop := d.canLay0 = true ∧ d.depth ≤ n
theorem Lays.le {n m : Nat} {d : PyData} (h : Lays n d) (l : n ≤ m) : Lays m d := ⟨h.1, Nat.le_trans h.2 l⟩
theorem lays_str {z : Str} (a : Asc z) : Lays 0 (.str z) := ⟨by
  show z.cps.all (· < 0x110000) = true
  rw [← Array.all_toList, List.all_eq_true]
  exact fun c hc => decide_eq_true (Nat.lt_trans (a c hc) (by decide)), Nat.le_refl _⟩
theorem lays_int (i : Int) : Lays 0 (.int i) := ⟨rfl, Nat.le_refl _⟩
theorem lays_all {n : Nat} : ∀ {ds : List PyData}, (∀ d ∈ ds, Lays n d) → PyData.canLayAll0 ds = true ∧ PyData.depthAll ds ≤ n
  | [], _ => ⟨rfl, Nat.zero_le _⟩
  | d :: ds, h => by
    obtain ⟨h1, h2⟩ := h d List.mem_cons_self
    obtain ⟨h3, h4⟩ := lays_all fun x hx => h x (List.mem_cons_of_mem _ hx)
    refine ⟨?_, ?_⟩
    · show (PyData.canLay0 d && PyData.canLayAll0 ds) = true
      rw [h1, h3]
      rfl
    · show max (PyData.depth d) (PyData.depthAll ds) ≤ n
      omega
theorem lays_tup {n : Nat} {ds : List PyData} (h : ∀ d ∈ ds, Lays n d) : Lays (n + 1) (.tuple ds) := ⟨(lays_all h).1, Nat.succ_le_succ (lays_all h).2⟩
theorem lays_lst {n : Nat} {ds : List PyData} (h : ∀ d ∈ ds, Lays n d) : Lays (n + 1) (.list ds) := ⟨(lays_all h).1, Nat.succ_le_succ (lays_all h).2⟩
theorem Lays.shaped {n : Nat} {d : PyData} (h : Lays n d) (l : n ≤ 64) : SeqAt.shaped d = true := by
  show (PyData.canLay0 d && decide (PyData.depth d ≤ 64)) = true
  rw [h.1, Bool.true_and]
  exact decide_eq_true (Nat.le_trans h.2 l)
/-- one of some small numbers -/
theorem pick_nat {xs : List Int} {lo hi : Nat} (h : (xs.all fun x => decide ((lo : Int) ≤ x) && decide (x ≤ (hi : Int))) = true) : ∀ v ∈ xs.map V.int, ∃ m : Nat, v = .int m ∧ lo ≤ m ∧ m ≤ hi := fun v hv => by
  obtain ⟨x, hx, rfl⟩ := List.mem_map.mp hv
  have q := List.all_eq_true.mp h x hx
  rw [Bool.and_eq_true, decide_eq_true_eq, decide_eq_true_eq] at q
  obtain ⟨m, rfl⟩ := nat_of (r := x) (by omega)
  exact ⟨m, rfl, by omega, by omega⟩
end Zt
set_option Elab.async false
set_option linter.all false
set_option autoImplicit false
set_option maxRecDepth 100000
set_option maxHeartbeats 8000000
namespace K04
open PySem PySem.Spec PyProof.Rows L2 Vb Wd Xd Xo Ts K01 Zt
abbrev s_l_scheme : Stmt := topS 40
abbrev nS : List Str := ["_law_dice_here", "_law_sorts", "_law_forms", "_law_names_here", "_law_name", "_law_tops", "_law_called", "_law_table", "_law_done", "_law_many", "_law_level", "_law_levels", "_law_form", "_law_turn", "_law_step"]
theorem sc_l_scheme : FnScope nS ["_law_dice_here", "_law_sorts", "_law_forms"] (defScope s_l_scheme) := ⟨rfl, rfl, rfl, by decide +kernel, rfl, by decide +kernel, by decide +kernel⟩
theorem Kid.tups {H H' : Hp} {t : Addr} {n : Str} {s : Int} (b : Tups H H') (k : Kid H t n s) : Kid H' t n s := ⟨b _ _ k.at_, k.nam, k.plain, k.lo, k.hi⟩
theorem Kids.tups {H H' : Hp} {c : Addr} {ts : List Addr} {cs : List (Str × Int)} (b : Tups H H') (k : Kids H c ts cs) : Kids H' c ts cs := ⟨b _ _ k.at_, k.len, k.lo, k.hi, fun i t c' h1 h2 => (k.kid i t c' h1 h2).tups b⟩
/-- the row of a form: a tuple of its sort and its children -/
def RowAt (H : Hp) (q : Addr) (d : FD) : Prop := ∃ (ch : Addr) (ks : List Addr), H q = some (.tup [.str d.2.1, .ref ch]) ∧ Kids H ch ks d.2.2
theorem RowAt.tups {H H' : Hp} {q : Addr} {d : FD} (b : Tups H H') (r : RowAt H q d) : RowAt H' q d := by
  obtain ⟨ch, ks, e, k⟩ := r
  exact ⟨ch, ks, b _ _ e, k.tups b⟩
/-- the words of a scheme as the law draws it: sorts of zs, forms called by names of the pool -/
structure Fit (b : Str) (ts : List Str) (rows : List FD) : Prop where
  ex : ∃ zs : List Str, zs.Nodup ∧ zs.length ≤ 8 ∧ (∀ z ∈ zs, z ∈ pool) ∧ (∀ y ∈ ts, y ∈ zs) ∧ ∀ r ∈ rows, ∀ y ∈ saidBy r, y ∈ zs
  bt : b ∈ ts
  srt : sortedS ts = true
  nd : ts.Nodup
  once : (rows.map (·.1)).Nodup
  named : ∀ r ∈ rows, r.1 ∈ pool
  some_ : 1 ≤ rows.length
  kinds : (rows.map (·.2)).Nodup
/-- such a scheme as the law holds it -/
structure Held (H : Hp) (a tl tb : Addr) (b : Str) (ts : List Str) (ps : List (FD × Addr)) : Prop where
  at_ : H a = some (.lst [.str b, .ref tl, .ref tb])
  tops : H tl = some (.lst (ts.map V.str))
  dict : H tb = some (.dK (kvsP ps))
  row : ∀ p ∈ ps, RowAt H p.2 p.1
def spLS : Sp := fun vs H Q _ => ∃ (d : Addr) (so fo : Nat), vs = [.ref d, .int so, .int fo] ∧ Dice H d ∧ 1 ≤ so ∧ so ≤ 8 ∧ 1 ≤ fo ∧ fo ≤ 10 ∧
  ∀ (p tl tb : Addr) (b : Str) (ts : List Str) (ps : List (FD × Addr)) (H' : Hp), Past d H H' → H p = none → p ≠ d → Held H' p tl tb b ts ps → Fit b ts (ps.map (·.1)) → ps.length ≤ fo → Q (.ref p) H'
theorem cut1w {α : Type} (f : α → V) (ws : List α) : cutV (ws.map f) (some 1) none = (ws.drop 1).map f := by
  unfold cutV
  have e : HT.sIx (ws.map f).length 0 (some 1) = min 1 (ws.map f).length := HT.sIx_nat _ _ 1
  rw [e, HT.sIx_none, List.length_map]
  by_cases h : ws.length ≤ 1
  · rw [Nat.min_eq_right h, List.drop_of_length_le (by rw [List.length_map]; exact Nat.le_refl _), List.drop_of_length_le h, List.take_nil]
    rfl
  · rw [Nat.min_eq_left (by omega), List.take_of_length_le (by rw [List.length_drop, List.length_map]; exact Nat.le_refl _), List.map_drop]
theorem cut01 (ws : List Str) : cutV (ws.map V.str) none (some 1) = (ws.take 1).map V.str := cut_take ws 1
theorem eqv_kinds (d e : Str × List (Str × Int)) : PyData.eqv (kindK d).data (kindK e).data = decide (d = e) := by
  rw [kind_data, kind_data]
  show (PyData.eqv (.str d.1) (.str e.1) && (PyData.eqvAll (d.2.map kidD) (e.2.map kidD) && true)) = _
  rw [eqv_kids, Bool.and_true]
  obtain ⟨a, cs⟩ := d
  obtain ⟨b, ds⟩ := e
  by_cases h1 : a = b <;> by_cases h2 : cs = ds <;> simp [PyData.eqv, h1, h2]
theorem lays_kid {c : Str × Int} (a : Asc c.1) : Lays 1 (kidD c) := lays_tup fun d hd => by
  rcases List.mem_cons.mp hd with rfl | hd
  · exact lays_str a
  · cases List.mem_singleton.mp hd
    exact lays_int _
theorem lays_kind {d : Str × List (Str × Int)} (a : Asc d.1) (b : ∀ c ∈ d.2, Asc c.1) : Lays 3 (kindK d).data := by
  rw [kind_data]
  refine lays_tup fun x hx => ?_
  rcases List.mem_cons.mp hx with rfl | hx
  · exact (lays_str a).le (by decide)
  · cases List.mem_singleton.mp hx
    refine lays_tup fun y hy => ?_
    obtain ⟨c, hc, rfl⟩ := List.mem_map.mp hy
    exact lays_kid (b c hc)
theorem RowAt.dp {K : PySem.W.Frag} {H : Hp} {q : Addr} {d : FD} (r : RowAt H q d) : Dp K H (.ref q) (kindK d.2).data := by
  obtain ⟨ch, ks, e, k⟩ := r
  rw [kind_data]
  exact .tup (.inl (.inl e)) (.cons (.str _) (.cons k.dp .nil))
theorem rows_dp {K : PySem.W.Frag} {H : Hp} : ∀ {ps : List (FD × Addr)}, (∀ p ∈ ps, RowAt H p.2 p.1) → DpAll K H (ps.map fun p => V.ref p.2) (ps.map fun p => (kindK p.1.2).data)
  | [], _ => .nil
  | p :: ps, h => .cons (h p List.mem_cons_self).dp (rows_dp fun q hq => h q (List.mem_cons_of_mem _ hq))
theorem Kids.asc {H : Hp} {a : Addr} {ts : List Addr} {cs : List (Str × Int)} (k : Kids H a ts cs) : ∀ c ∈ cs, Asc c.1 := fun c hc => by
  obtain ⟨i, hi, e⟩ := List.mem_iff_getElem.mp hc
  have ti : i < ts.length := by rw [k.len]; exact hi
  exact (k.kid i ts[i] c (List.getElem?_eq_getElem ti) (by rw [List.getElem?_eq_getElem hi, e])).plain.2
theorem pool_nam : ∀ y ∈ pool, isNam (.str y) = true := by
  intro y hy
  have : pool.all (fun y => isNam (.str y)) = true := by decide +kernel
  exact List.all_eq_true.mp this y hy
section
variable {P : Program} {w : World} {K : PySem.W.Frag} {mg : Str → Option Value} {base : Heap}
theorem ok_l_scheme (D : Df K mg "_law_scheme" s_l_scheme ["_law_dice_here", "_law_sorts", "_law_forms"]) (G_l_roll : Cg P w K mg base 1 "_law_roll" spRoll) (G_l_pick : Cg P w K mg base 2 "_law_pick" (spPick K)) (G_l_names : Cg P w K mg base 3 "_law_names" spNms)
    (z_sorted : mg "sorted" = none) (z_range : mg "range" = none) (z_tuple : mg "tuple" = none) : Cg P w K mg base 4 "_law_scheme" spLS := by
  refine D.ok sc_l_scheme (fun vs H Q E h => ?_) (fun cdv A outer s H vs Q E f hc hr h => ?_)
  · obtain ⟨d, so, fo, rfl, _⟩ := h
    rfl
  · obtain ⟨d, so, fo, rfl, hd, so1, so8, fo1, fo10, q⟩ := h
    refine ⟨_, (pss_cons (ps_set (i := 3) sc_l_scheme.nd rfl (Or.inr rfl) (pe_cg G_l_names hc hr (by rfl) (pa_cons (pv 0) (pa_cons (pe_op op_add pe_int (pe_cg G_l_roll hc hr (by rfl) (pa_cons (pv 0) (pa_cons (pv 1) pa_nil)))) pa_nil))))
      (pss_cons (ps_set (i := 5) sc_l_scheme.nd rfl (Or.inl rfl) (pe_callB cr_sortedS (by rfl) z_sorted (by decide +kernel) (pa_cons (pe_op op_cat (pe_slice sl_list (pv 3) po_none (po_some pe_int)) (pe_lc (own := [("_law_name", 4)]) (g := gName 4) (by rfl) sc_l_scheme.nd (pi_list (pe_slice sl_list (pv 3) (po_some pe_int) po_none)) (blkOk_by (own := [("_law_name", 4)]) (N := nS) (sc := defScope s_l_scheme) (by decide +kernel)) (fun _ _ _ _ _ => pg_name (i := 4) sc_l_scheme.nd rfl (Or.inl rfl))
        (fun _ _ _ _ _ => (pts_one (pt_cmpR op_eq (pe_cg G_l_roll hc hr (by rfl) (pa_cons (pv 0) (pa_cons pe_int pa_nil))) pe_int (nomark _)))) (fun _ _ _ _ _ => (pv 4)))) pa_nil)))
      (pss_cons (ps_set (i := 6) sc_l_scheme.nd rfl (Or.inl rfl) (pe_cg G_l_names hc hr (by rfl) (pa_cons (pv 0) (pa_cons (pe_op op_add pe_int (pe_cg G_l_roll hc hr (by rfl) (pa_cons (pv 0) (pa_cons (pv 2) pa_nil)))) pa_nil))))
      (pss_cons (ps_par (i := 7) (j := 8) (by rfl) sc_l_scheme.nd rfl rfl (by decide) rfl rfl (pa_cons pe_dnewK (pa_cons (pe_lst pa_nil) pa_nil)) (by rfl))
      (pss_cons (ps_for PassesOwn.never rfl (pi_list (pv 6)) (pg_name (i := 4) sc_l_scheme.nd rfl (Or.inl rfl))
      (pss_cons (ps_set (i := 9) sc_l_scheme.nd rfl (Or.inl rfl) (pe_cg G_l_pick hc hr (by rfl) (pa_cons (pv 0) (pa_cons (pe_lst (pa_cons pe_int (pa_cons pe_int (pa_cons pe_int (pa_cons pe_int (pa_cons pe_int (pa_cons pe_int pa_nil))))))) pa_nil))))
      (pss_cons (ps_set (i := 10) sc_l_scheme.nd rfl (Or.inl rfl) (pe_cg G_l_pick hc hr (by rfl) (pa_cons (pv 0) (pa_cons (pe_lst (pa_cons pe_int (pa_cons pe_int (pa_cons pe_int (pa_cons pe_int (pa_cons pe_int (pa_cons pe_int (pa_cons pe_int (pa_cons pe_int pa_nil))))))))) pa_nil))))
      (pss_cons (ps_set (i := 11) sc_l_scheme.nd rfl (Or.inl rfl) (pe_op op_rep (pe_lst (pa_cons (pv 10) pa_nil)) (pv 9)))
      (pss_cons (ps_if (pt_cmpR op_eq (pe_cg G_l_roll hc hr (by rfl) (pa_cons (pv 0) (pa_cons pe_int pa_nil))) pe_int (nomark _))
      (pss_one (ps_setLc (i := 11) (own := [("_law_turn", 13)]) (g := gName 13) (by rfl) sc_l_scheme.nd rfl rfl (sw_true rfl rfl rfl (by decide +kernel)) (pi_range1 (by rfl) z_range (pa_cons (pv 9) pa_nil)) (blkOk_by (own := [("_law_turn", 13)]) (N := nS) (sc := defScope s_l_scheme) (by decide +kernel)) (fun _ _ _ _ _ => pg_name (i := 13) sc_l_scheme.nd rfl (Or.inl rfl)) (fun _ _ _ _ _ => pts_nil)
        (fun _ _ _ _ _ => (pe_cg G_l_pick hc hr (by rfl) (pa_cons (pv 0) (pa_cons (pe_lst (pa_cons pe_int (pa_cons pe_int (pa_cons pe_int (pa_cons pe_int (pa_cons pe_int pa_nil)))))) pa_nil))))))
      pss_nil)
      (pss_cons (ps_set (i := 12) sc_l_scheme.nd rfl (Or.inl rfl) (pe_tup (pa_cons (pe_cg G_l_pick hc hr (by rfl) (pa_cons (pv 0) (pa_cons (pv 3) pa_nil))) (pa_cons (pe_callTy (cr_tuple : CallR _ _ (rTup K)) (by rfl) z_tuple (by decide +kernel) (pa_cons (pe_lc (own := [("_law_step", 14)]) (g := gName 14) (by rfl) sc_l_scheme.nd (pi_list (pv 11)) (blkOk_by (own := [("_law_step", 14)]) (N := nS) (sc := defScope s_l_scheme) (by decide +kernel)) (fun _ _ _ _ _ => pg_name (i := 14) sc_l_scheme.nd rfl (Or.inl rfl)) (fun _ _ _ _ _ => pts_nil)
        (fun _ _ _ _ _ => (pe_tup (pa_cons (pe_cg G_l_pick hc hr (by rfl) (pa_cons (pv 0) (pa_cons (pv 3) pa_nil))) (pa_cons (pv 14) pa_nil))))) pa_nil)) pa_nil))))
      (pss_one (ps_if (pt_cmpR (op_notInD (units65 hr)) (pv 12) (pv 8) (by rfl))
      (pss_cons (ps_expr (pe_bm PySem.F.plainAttrs_list PySem.F.slot_list_append PySem.F.type_list_append mt_append (pv 8) (pa_cons (pv 12) pa_nil)))
      (pss_one (ps_dput (hu_of hr) (pv 7) (pv 4) (pv 12) (by rfl))))
      pss_nil))))))))
      (pss_one (ps_ret (pe_lst (pa_cons (pe_ix (ix_list : IxR _ (rIxL K)) (pv 3) pe_int (fun _ _ => rfl)) (pa_cons (pv 5) (pa_cons (pv 7) pa_nil))))))))))), ?_⟩
    have big : ∀ {n : Nat}, n ≤ 200 → n < sizeLine := fun h => Nat.lt_of_le_of_lt h (by decide)
    have dice : ∀ {H' : Hp}, Past d H H' → Dice H' d := fun p => p.2
    refine ⟨_, rfl, _, rfl, _, rfl, d, so, rfl, hd, by omega, small8000 (by omega), fun r H1 p1 r0 r1 => ?_⟩
    obtain ⟨k1, rfl⟩ := nat_of r0
    refine ⟨_, _, rfl, rfl, d, 1 + k1, rfl, p1.2, by omega, fun a1 zs H2 p2 n2 d2 e2 zl znd zp => ?_⟩
    have p02 := p1.trans p2
    have hd2 := p02.2
    obtain ⟨z0, zt, rfl⟩ : ∃ z0 zt, zs = z0 :: zt := by
      cases zs with
      | nil => simp at zl; omega
      | cons z0 zt => exact ⟨z0, zt, rfl⟩
    -- the tops
    refine ⟨_, rfl, _, rfl, a1, _, rfl, .inl (.inl e2), fun l1 nl1 => ?_⟩
    rw [cut01]
    obtain ⟨H3, eH3, p3, e3, d3⟩ := opened hd2 nl1 (.lst (((z0 :: zt).take 1).map V.str))
    rw [eH3]
    refine ⟨_, rfl, _, rfl, a1, _, rfl, .inl (.inl (p3.1 _ _ d2 e2)), fun l2 nl2 => ?_⟩
    rw [cut1w]
    obtain ⟨H4, eH4, p4, e4, d4⟩ := opened p3.2 nl2 (.lst (((z0 :: zt).drop 1).map V.str))
    rw [eH4]
    have zpool : ∀ z ∈ z0 :: zt, z ∈ pool := zp
    refine ⟨l2, rfl, ⟨_, .inl (.inl e4)⟩, fun D nD => ?_⟩
    have dD := p4.2.ne nD
    refine lc_list (K := K) (a := l2) (xs := zt.map V.str) (fun i H' => Past d H4 H' ∧ ∃ ws : List Str, H' D = some (.lst (ws.map V.str)) ∧ ws.Sublist (zt.take i)) ⟨past_put nD dD (Past.refl p4.2), [], upd_same, List.Sublist.refl _⟩ (fun i H' _ h => h.1.seq d4 (.inl (.inl e4))) (fun i x H5 hx h => ?_) (fun H5 h => ?_)
    · obtain ⟨p5, ws, e5, sub⟩ := h
      rw [List.getElem?_map] at hx
      obtain ⟨z, hz, rfl⟩ := Option.map_eq_some_iff.mp hx
      refine ⟨rfl, _, rfl, d, 3, rfl, p5.2, by decide, by decide +kernel, fun r H6 p6 r0 r1 => ⟨rfl, _, rfl, ?_⟩⟩
      have tk : zt.take (i + 1) = zt.take i ++ [z] := by
        rw [List.take_add_one, hz]
        rfl
      have e6 := p6.1 _ _ dD e5
      refine ite2 (fun _ => ⟨_, rfl, _, e6, ?_, past_put nD dD (p5.trans p6), ws ++ [z], ?_, ?_⟩) (fun _ => ⟨p5.trans p6, ws, e6, ?_⟩)
      · rw [List.length_map]
        have := sub.length_le
        rw [List.length_take] at this
        have := zt.length
        simp only [List.length_cons] at zl
        exact big (by omega)
      · rw [upd_same, List.map_append]
        rfl
      · rw [tk]
        exact sub.append (List.Sublist.refl _)
      · rw [tk]
        exact sub.trans (List.sublist_append_left _ _)
    · obtain ⟨p5, ws, e5, sub⟩ := h
      rw [List.length_map, List.take_of_length_le (Nat.le_refl _)] at sub
      simp only [List.length_cons] at zl
      have wl := sub.length_le
      have e3' := (p4.trans p5).1 _ _ d3 e3
      refine ⟨l1, D, _, _, rfl, rfl, e3', e5, by simp only [List.length_map, List.length_take, List.length_cons]; exact Nat.le_of_lt (big (by omega)), fun l3 nl3 => ?_⟩
      obtain ⟨H6, eH6, p6, e6, d6⟩ := opened p5.2 nl3 (.lst ((((z0 :: zt).take 1).map V.str) ++ ws.map V.str))
      rw [eH6]
      have e6' : H6 l3 = some (.lst ((z0 :: ws).map V.str)) := e6
      refine ⟨l3, z0 :: ws, rfl, .inl (.inl e6'), by simp only [List.length_cons]; omega, fun ts tl pm srt ntl => ?_⟩
      obtain ⟨H7, eH7, p7, e7, d7⟩ := opened p6.2 ntl (.lst (ts.map V.str))
      rw [eH7]
      -- the names of the forms
      refine ⟨_, rfl, _, rfl, _, rfl, d, fo, rfl, p7.2, by omega, small8000 (by omega), fun r H8 p8 r0 r1 => ?_⟩
      obtain ⟨k2, rfl⟩ := nat_of r0
      refine ⟨_, _, rfl, rfl, d, 1 + k2, rfl, p8.2, by omega, fun cl cs H9 p9 n9 d9 e9 cl9 cnd cp => ?_⟩
      refine fun tb ntb => ?_
      obtain ⟨H10, eH10, p10, e10, d10⟩ := opened p9.2 ntb (.dK [])
      rw [eH10]
      refine ⟨by show 0 ≤ sizeLine; decide, fun dn ndn => ?_⟩
      obtain ⟨H11, eH11, p11, e11, d11⟩ := opened p10.2 ndn (.lst [])
      rw [eH11]
      have ndn9 : H9 dn = none := fresh_of p10 ndn d11
      have tdn : tb ≠ dn := ne_of_none e10 ndn
      have a9 : H9 a1 = some (.lst ((z0 :: zt).map V.str)) := ((((((p3.trans p4).trans p5).trans p6).trans p7).trans p8).trans p9).1 _ _ d2 e2
      have t9 : H9 tl = some (.lst (ts.map V.str)) := (p8.trans p9).1 _ _ d7 e7
      have cp' : ∀ y ∈ cs, y ∈ pool := cp
      refine ⟨_, _, rfl, _, rfl, cl, rfl, ⟨_, .inl (.inl ((p10.trans p11).1 _ _ d9 e9))⟩, for_list (K := K) (a := cl) (xs := cs.map V.str) (fun i σ H' => (∃ o4 o9 o10 o11 o12 o13 o14, σ = [some (.ref d), some (.int so), some (.int fo), some (.ref a1), o4, some (.ref tl), some (.ref cl), some (.ref tb), some (.ref dn), o9, o10, o11, o12, o13, o14]) ∧
          ∃ ps : List (FD × Addr), Past d H9 H' ∧ H' tb = some (.dK (kvsP ps)) ∧ H' dn = some (.lst (ps.map fun p => V.ref p.2)) ∧ (∀ p ∈ ps, RowAt H' p.2 p.1) ∧ (ps.map (·.1.1)).Sublist (cs.take i) ∧ (ps.map (·.1.2)).Nodup ∧ (∀ p ∈ ps, ∀ y ∈ saidBy p.1, y ∈ z0 :: zt) ∧ (1 ≤ i → ps ≠ []))
        ⟨⟨none, none, none, none, none, none, none, rfl⟩, [], p10.trans p11, p11.1 _ _ d10 e10, e11, (fun p h => nomatch h), List.nil_sublist _, List.nodup_nil, (fun p h => nomatch h), (fun h => absurd h (by decide))⟩ (fun i σ H' _ h => ?_) (fun i x σ H12 hx h => ?_) (fun σ H12 h => ?_)⟩
      · obtain ⟨_, ps, p12, _⟩ := h
        exact p12.seq d9 (.inl (.inl e9))
      · obtain ⟨⟨o4, o9, o10, o11, o12, o13, o14, rfl⟩, ps, p12, tb12, dn12, row12, sub12, kin12, said12, some12⟩ := h
        rw [List.getElem?_map] at hx
        obtain ⟨c, hc', rfl⟩ := Option.map_eq_some_iff.mp hx
        have a12 := p12.1 _ _ d2 a9
        -- how many children, on what level
        refine ⟨_, rfl, by show 6 ≤ sizeLine; decide, fun l20 n20 => ?_⟩
        obtain ⟨H13, eH13, p13, e13, d13⟩ := opened p12.2 n20 (.lst (([2, 2, 2, 3, 3, 4] : List Int).map V.int))
        rw [show upd H12 l20 (.lst [.int 2, .int 2, .int 2, .int 3, .int 3, .int 4]) = H13 from eH13]
        refine ⟨d, .ref l20, (fun v => ∃ m : Nat, v = .int m ∧ 2 ≤ m ∧ m ≤ 4), rfl, p13.2, .inl ⟨l20, _, rfl, d13, .inl (.inl (.inl e13)), by simp, by decide, pick_nat (by decide)⟩, fun v H14 p14 hv => ?_⟩
        obtain ⟨m, rfl, m2, m4⟩ := hv
        refine ⟨_, rfl, by show 8 ≤ sizeLine; decide, fun l21 n21 => ?_⟩
        obtain ⟨H15, eH15, p15, e15, d15⟩ := opened p14.2 n21 (.lst (([1, 1, 1, 1, 2, 2, 3, 0] : List Int).map V.int))
        rw [show upd H14 l21 (.lst [.int 1, .int 1, .int 1, .int 1, .int 2, .int 2, .int 3, .int 0]) = H15 from eH15]
        refine ⟨d, .ref l21, (fun v => ∃ m : Nat, v = .int m ∧ 0 ≤ m ∧ m ≤ 3), rfl, p15.2, .inl ⟨l21, _, rfl, d15, .inl (.inl (.inl e15)), by simp, by decide, pick_nat (by decide)⟩, fun v H16 p16 hv => ?_⟩
        obtain ⟨lv0, rfl, _, lv3⟩ := hv
        refine ⟨_, rfl, by show 1 ≤ sizeLine; decide, fun l22 n22 => ?_⟩
        obtain ⟨H17, eH17, p17, e17, d17⟩ := opened p16.2 n22 (.lst [.int lv0])
        rw [eH17]
        refine ⟨_, rfl, l22, m, _, rfl, rfl, e17, by omega, by omega, by show 1 * (m : Int).toNat ≤ sizeLine; exact Nat.le_of_lt (big (by omega)), fun l23 n23 => ?_⟩
        obtain ⟨H18, eH18, p18, e18, d18⟩ := opened p17.2 n23 (.lst (List.replicate (m : Int).toNat [V.int lv0]).flatten)
        rw [eH18]
        have fl : (List.replicate (m : Int).toNat [V.int lv0]).flatten = (List.replicate m lv0).map fun (k : Nat) => V.int k := by
          rw [Int.toNat_natCast, List.map_replicate]
          exact List.flatten_replicate_singleton
        rw [fl] at e18
        have p1218 := ((((p13.trans p14).trans p15).trans p16).trans p17).trans p18
        -- the steps
        refine name_join (fun σ H' => ∃ (o13 : Option V) (lv : Addr) (ks : List Nat), σ = [some (.ref d), some (.int so), some (.int fo), some (.ref a1), some (.str c), some (.ref tl), some (.ref cl), some (.ref tb), some (.ref dn), some (.int m), some (.int lv0), some (.ref lv), o12, o13, o14] ∧ Past d H12 H' ∧ lv ≠ d ∧ H' lv = some (.lst (ks.map fun (k : Nat) => V.int k)) ∧ ks.length = m ∧ ∀ k ∈ ks, k ≤ 3) (fun nx hnx => ?_) (fun σ H19 h => ?_)
        · refine ⟨_, rfl, d, 2, rfl, p18.2, by decide, by decide +kernel, fun r H19 p19 r0 r1 => ⟨rfl, _, rfl, ite2 (fun _ => ?_) (fun _ => ?_)⟩⟩
          · refine ⟨_, rfl, m, rfl, by omega, by omega, fun D nD => ?_⟩
            have dD := p19.2.ne nD
            refine lc_range (n := ((m : Int)).toNat) (lo := 0) (fun i H' => Past d H19 H' ∧ ∃ ks : List Nat, H' D = some (.lst (ks.map fun (k : Nat) => V.int k)) ∧ ks.length = i ∧ ∀ k ∈ ks, k ≤ 3) ⟨past_put nD dD (Past.refl p19.2), [], upd_same, rfl, (fun k h => nomatch h)⟩ (fun i H20 hi h => ?_) (fun H20 h => ?_)
            · obtain ⟨p20, ks, e20, kl, k3⟩ := h
              refine ⟨rfl, _, rfl, by show 5 ≤ sizeLine; decide, fun l24 n24 => ?_⟩
              obtain ⟨H21, eH21, p21, e21, d21⟩ := opened p20.2 n24 (.lst (([1, 1, 2, 0, 3] : List Int).map V.int))
              rw [show upd H20 l24 (.lst [.int 1, .int 1, .int 2, .int 0, .int 3]) = H21 from eH21]
              refine ⟨d, .ref l24, (fun v => ∃ m : Nat, v = .int m ∧ 0 ≤ m ∧ m ≤ 3), rfl, p21.2, .inl ⟨l24, _, rfl, d21, .inl (.inl (.inl e21)), by simp, by decide, pick_nat (by decide)⟩, fun v H22 p22 hv => ?_⟩
              obtain ⟨k, rfl, _, hk⟩ := hv
              have e22 := (p21.trans p22).1 _ _ dD e20
              refine ⟨_, e22, by rw [List.length_map]; exact big (by omega), past_put nD dD ((p20.trans p21).trans p22), ks ++ [k], ?_, by rw [List.length_append, kl]; rfl, fun x hx => ?_⟩
              · rw [upd_same, List.map_append]
                rfl
              · rcases List.mem_append.mp hx with hx | hx
                · exact k3 x hx
                · rw [List.mem_singleton.mp hx]
                  exact hk
            · obtain ⟨p20, ks, e20, kl, k3⟩ := h
              exact hnx _ _ ⟨_, D, ks, rfl, (p1218.trans p19).trans p20, dD, e20, by rw [kl, Int.toNat_natCast], k3⟩
          · refine hnx _ _ ⟨_, l23, List.replicate m lv0, rfl, p1218.trans p19, d18, p19.1 _ _ d18 e18, List.length_replicate .., fun k hk => ?_⟩
            rw [(List.mem_replicate.mp hk).2]
            exact lv3
        · obtain ⟨o13', lv, ks, rfl, p1219, dlv, e19, kl, k3⟩ := h
          have a19 := p1219.1 _ _ d2 a12
          have pickz : ∀ {H' : Hp}, Dice H' d → SqL K H' a1 ((z0 :: zt).map V.str) → Some1 K H' d (.ref a1) (fun v => ∃ z, v = .str z ∧ z ∈ z0 :: zt) := fun hd' sq => .inl ⟨a1, _, rfl, d2, .inl sq, by simp, by rw [List.length_map]; simp only [List.length_cons]; omega, fun v hv => by
            obtain ⟨z, hz, rfl⟩ := List.mem_map.mp hv
            exact ⟨z, rfl, hz⟩⟩
          refine ⟨_, rfl, _, rfl, d, .ref a1, _, rfl, p1219.2, pickz p1219.2 (.inl (.inl a19)), fun v H20 p20 hv => ?_⟩
          obtain ⟨sort, rfl, sm⟩ := hv
          refine ⟨_, rfl, lv, rfl, ⟨_, .inl (.inl (p20.1 _ _ dlv e19))⟩, fun D nD => ?_⟩
          have dD := p20.2.ne nD
          refine lc_list (K := K) (a := lv) (xs := ks.map fun (k : Nat) => V.int k) (fun i H' => Past d H20 H' ∧ ∃ (us : List Addr) (cc : List (Str × Int)), H' D = some (.lst (us.map V.ref)) ∧ us.length = i ∧ cc.length = i ∧ (∀ (j : Nat) (u : Addr) (e : Str × Int), us[j]? = some u → cc[j]? = some e → Kid H' u e.1 e.2) ∧ ∀ e ∈ cc, e.1 ∈ z0 :: zt)
            ⟨past_put nD dD (Past.refl p20.2), [], [], upd_same, rfl, rfl, (fun j u e h => by simp at h), (fun e h => nomatch h)⟩ (fun i H' _ h => h.1.seq dlv (.inl (.inl (p20.1 _ _ dlv e19)))) (fun i x H21 hx h => ?_) (fun H21 h => ?_)
          · obtain ⟨p21, us, cc, e21, ul, ccl, kd, csub⟩ := h
            rw [List.getElem?_map] at hx
            obtain ⟨k, hk, rfl⟩ := Option.map_eq_some_iff.mp hx
            have kk3 := k3 k (List.mem_of_getElem? hk)
            have il := (List.getElem?_eq_some_iff.mp hk).1
            refine ⟨rfl, _, rfl, _, rfl, d, .ref a1, _, rfl, p21.2, pickz p21.2 (.inl (.inl ((p20.trans p21).1 _ _ d2 a19))), fun v H22 p22 hv => ?_⟩
            obtain ⟨z, rfl, zm⟩ := hv
            refine ⟨_, rfl, by show 2 ≤ sizeLine; decide, fun u nu => ?_⟩
            obtain ⟨H23, eH23, p23, e23, d23⟩ := opened p22.2 nu (.tup [.str z, .int k])
            rw [eH23]
            have e23D := (p22.trans p23).1 _ _ dD e21
            have tp : Tups H21 (upd H23 D (.lst (us.map V.ref ++ [.ref u]))) := ((Tups.past p21.2 p22).trans (Tups.past p22.2 p23)).trans (Tups.putL _ e23D)
            have uD : u ≠ D := fun zz => by
              rw [zz, e23D] at e23
              cases e23
            refine ⟨_, e23D, by rw [List.length_map]; exact big (by omega), past_put nD dD ((p21.trans p22).trans p23), us ++ [u], cc ++ [(z, (k : Int))], ?_, by rw [List.length_append, ul]; rfl, by rw [List.length_append, ccl]; rfl, fun j u' e h1 h2 => ?_, fun e he => ?_⟩
            · rw [upd_same, List.map_append]
              rfl
            · rw [List.getElem?_append] at h1 h2
              by_cases jl : j < us.length
              · rw [if_pos jl] at h1
                rw [if_pos (by omega)] at h2
                exact (kd j u' e h1 h2).tups tp
              · rw [if_neg jl] at h1
                rw [if_neg (by omega)] at h2
                have j0 : j - us.length = 0 := by
                  have := (List.getElem?_eq_some_iff.mp h1).1
                  simp at this
                  omega
                have j1 : j - cc.length = 0 := by omega
                rw [j0] at h1
                rw [j1] at h2
                cases h1
                cases h2
                have nz := pool_nam z (zpool z zm)
                refine ⟨by rw [upd_ne uD]; exact e23, nz, ?_, by omega, by omega⟩
                have := (nam_len nz).2.1
                exact ⟨show z.length ≤ 1000 by omega, pool_asc z (zpool z zm)⟩
            · rcases List.mem_append.mp he with he | he
              · exact csub e he
              · rw [List.mem_singleton.mp he]
                exact zm
          · obtain ⟨p21, us, cc, e21, ul, ccl, kd, csub⟩ := h
            rw [List.length_map, kl] at ul ccl
            refine ⟨D, _, rfl, .inl ⟨.inl (.inl e21), fun ch nch => ?_⟩⟩
            obtain ⟨H22, eH22, p22, e22, d22⟩ := opened p21.2 nch (.tup (us.map V.ref))
            rw [eH22]
            have kids22 : Kids H22 ch us cc := ⟨e22, by omega, by omega, by omega, fun j u e h1 h2 => (kd j u e h1 h2).tups (Tups.past p21.2 p22)⟩
            refine ⟨by show 2 ≤ sizeLine; decide, fun fq nfq => ?_⟩
            obtain ⟨H23, eH23, p23, e23, d23⟩ := opened p22.2 nfq (.tup [.str sort, .ref ch])
            rw [eH23]
            have row23 : RowAt H23 fq (c, sort, cc) := ⟨ch, us, e23, kids22.tups (Tups.past p22.2 p23)⟩
            have p1223 := (((p1219.trans p20).trans p21).trans p22).trans p23
            have tp1223 := Tups.past p12.2 p1223
            have rows23 : ∀ p ∈ ps, RowAt H23 p.2 p.1 := fun p hp => (row12 p hp).tups tp1223
            have dtb : tb ≠ d := d10
            have tb23 := p1223.1 _ _ d10 tb12
            have dn23 := p1223.1 _ _ d11 dn12
            have lsort : Asc sort := pool_asc sort (zpool sort sm)
            have lrow : ∀ p ∈ ps, Lays 3 (kindK p.1.2).data := fun p hp => by
              obtain ⟨ch', ks', _, kk⟩ := row12 p hp
              exact lays_kind (pool_asc _ (zpool _ (said12 p hp _ List.mem_cons_self))) kk.asc
            refine ⟨_, rfl, _, rfl, (kindK (sort, cc)).data, ps.map (fun p => (kindK p.1.2).data), row23.dp, .lst (.inl (.inl dn23)) (rows_dp rows23), (lays_kind lsort kids22.asc).shaped (by decide), (lays_lst (n := 3) fun x hx => ?_).shaped (by decide), _, rfl, ?_⟩
            · obtain ⟨p, hp, rfl⟩ := List.mem_map.mp hx
              exact lrow p hp
            · have any_ : ((ps.map fun p => (kindK p.1.2).data).any fun z => PyData.eqv z (kindK (sort, cc)).data) = decide ((sort, cc) ∈ ps.map (·.1.2)) := by
                rw [List.any_map]
                apply Bool.eq_iff_iff.mpr
                rw [List.any_eq_true, decide_eq_true_eq, List.mem_map]
                constructor
                · rintro ⟨p, hp, e⟩
                  have e' : PyData.eqv (kindK p.1.2).data (kindK (sort, cc)).data = true := e
                  rw [eqv_kinds, decide_eq_true_eq] at e'
                  exact ⟨p, hp, e'⟩
                · rintro ⟨p, hp, e⟩
                  exact ⟨p, hp, by show PyData.eqv (kindK p.1.2).data (kindK (sort, cc)).data = true; rw [eqv_kinds, decide_eq_true_eq]; exact e⟩
              rw [any_]
              have tk : cs.take (i + 1) = cs.take i ++ [c] := by
                rw [List.take_add_one, hc']
                rfl
              have subl : (ps.map (·.1.1)).Sublist (cs.take (i + 1)) := by
                rw [tk]
                exact sub12.trans (List.sublist_append_left _ _)
              by_cases mem : (sort, cc) ∈ ps.map (·.1.2)
              · rw [decide_eq_true mem]
                refine iteF ⟨⟨_, _, _, _, _, _, _, rfl⟩, ps, p12.trans p1223, tb23, dn23, rows23, subl, kin12, said12, fun _ z => ?_⟩
                rw [z] at mem
                cases mem
              · rw [decide_eq_false mem]
                refine iteT ⟨_, rfl, .inl ⟨rfl, _, .inl (.inl dn23)⟩, _, rfl, dn, _, _, rfl, rfl, dn23, ?_, ?_⟩
                · rw [List.length_map]
                  have := sub12.length_le
                  rw [List.length_map, List.length_take] at this
                  exact big (by omega)
                generalize eH24 : upd H23 dn (.lst (ps.map (fun p => V.ref p.2) ++ [.ref fq])) = H24
                have dn24 : H24 dn = some (.lst ((ps ++ [((c, sort, cc), fq)]).map fun p => V.ref p.2)) := by
                  rw [← eH24, upd_same, List.map_append]
                  rfl
                have tb24 : H24 tb = some (.dK (kvsP ps)) := by rw [← eH24, upd_ne tdn]; exact tb23
                have tp24 : Tups H23 H24 := by rw [← eH24]; exact Tups.putL _ dn23
                have p24 : Past d H9 H24 := by rw [← eH24]; exact past_put ndn9 d11 (p12.trans p1223)
                have cout : c ∉ ps.map (·.1.1) := fun hm => by
                  have m2 := sub12.subset hm
                  obtain ⟨j, hj⟩ := List.mem_iff_getElem?.mp m2
                  rw [List.getElem?_take] at hj
                  split at hj
                  · rename_i ji
                    have := (List.getElem?_inj (by have := (List.getElem?_eq_some_iff.mp hj).1; omega) cnd).mp (hj.trans hc'.symm)
                    omega
                  · cases hj
                refine ⟨_, rfl, _, rfl, _, rfl, tb, _, rfl, DPut.k (k := Sum.inr c) tb24 ?_, ⟨_, _, _, _, _, _, _, rfl⟩, ps ++ [((c, sort, cc), fq)], past_put ntb d10 p24, ?_, ?_, fun p hp => ?_, ?_, ?_, fun p hp => ?_, fun _ z => ?_⟩
                · unfold kvsP
                  rw [List.length_map]
                  have := sub12.length_le
                  rw [List.length_map, List.length_take] at this
                  exact big (by omega)
                · rw [upd_same]
                  exact congrArg (fun z => some (HO.dK z)) (kvsP_put (p := ((c, sort, cc), fq)) cout)
                · rw [upd_ne tdn.symm]
                  exact dn24
                · have tpe : Tups H23 (upd H24 tb (.dK (putK (kvsP ps) (Sum.inr c) (.ref fq)))) := tp24.trans (Tups.putD _ tb24)
                  rcases List.mem_append.mp hp with hp | hp
                  · exact (rows23 p hp).tups tpe
                  · rw [List.mem_singleton.mp hp]
                    exact row23.tups tpe
                · rw [tk, List.map_append]
                  exact sub12.append (List.Sublist.refl _)
                · rw [List.map_append]
                  refine List.nodup_append.mpr ⟨kin12, List.nodup_cons.mpr ⟨(fun h => nomatch h), List.nodup_nil⟩, fun x hx y hy e => ?_⟩
                  rw [List.mem_singleton.mp hy] at e
                  rw [e] at hx
                  exact mem hx
                · rcases List.mem_append.mp hp with hp | hp
                  · exact said12 p hp
                  · rw [List.mem_singleton.mp hp]
                    intro y hy
                    rcases List.mem_cons.mp hy with rfl | hy
                    · exact sm
                    · obtain ⟨e, he, rfl⟩ := List.mem_map.mp hy
                      exact csub e he
                · simp at z
      · obtain ⟨⟨o4, o9, o10, o11, o12, o13, o14, rfl⟩, ps, p12, tb12, dn12, row12, sub12, kin12, said12, some12⟩ := h
        rw [List.length_map, List.take_of_length_le (Nat.le_refl _)] at sub12
        rw [List.length_map] at some12
        have a12 := p12.1 _ _ d2 a9
        have t12 := p12.1 _ _ d7 t9
        refine ⟨_, rfl, a1, _, _, .str z0, rfl, rfl, .inl (.inl a12), at_of' (j := 0) rfl rfl, _, rfl, _, rfl, by show 3 ≤ sizeLine; decide, fun p np => ?_⟩
        obtain ⟨H13, eH13, p13, e13, d13⟩ := opened p12.2 np (.lst [.str z0, .ref tl, .ref tb])
        rw [eH13]
        have pall := ((((((p02.trans p3).trans p4).trans p5).trans p6).trans p7).trans p8).trans (p9.trans (p12.trans p13))
        have pnone : H p = none := fresh_of ((((((p02.trans p3).trans p4).trans p5).trans p6).trans p7).trans (p8.trans (p9.trans p12))) np d13
        have subp : (ps.map (·.1)).map (·.1) = ps.map (·.1.1) := by rw [List.map_map]; rfl
        have subk : (ps.map (·.1)).map (·.2) = ps.map (·.1.2) := by rw [List.map_map]; rfl
        refine q p tl tb z0 ts ps H13 pall pnone d13 ⟨e13, p13.1 _ _ d7 t12, p13.1 _ _ d10 tb12, fun r hr' => (row12 r hr').tups (Tups.past p12.2 p13)⟩ ⟨⟨z0 :: zt, znd, by simp only [List.length_cons]; omega, zpool, fun y hy => ?_, fun r hr' y hy => ?_⟩, ?_, srt, ?_, ?_, fun r hr' => ?_, ?_, ?_⟩ ?_
        · rcases List.mem_cons.mp (pm.mem_iff.mp hy) with rfl | h
          · exact List.mem_cons_self
          · exact List.mem_cons_of_mem _ (sub.subset h)
        · obtain ⟨p', hp', rfl⟩ := List.mem_map.mp hr'
          exact said12 p' hp' y hy
        · exact pm.mem_iff.mpr List.mem_cons_self
        · exact pm.nodup_iff.mpr (znd.sublist (sub.cons₂ z0))
        · rw [subp]
          exact cnd.sublist sub12
        · obtain ⟨p', hp', rfl⟩ := List.mem_map.mp hr'
          exact cp' _ (sub12.subset (List.mem_map.mpr ⟨p', hp', rfl⟩))
        · rw [List.length_map]
          have := some12 (by omega)
          cases ps with
          | nil => exact absurd rfl this
          | cons _ _ => simp
        · rw [subk]
          exact kin12
        · have := sub12.length_le
          rw [List.length_map] at this
          omega
end
end K04
set_option Elab.async false
set_option linter.all false
set_option autoImplicit false
set_option maxRecDepth 100000
set_option maxHeartbeats 4000000
/-! Zk: walks over the keys of a dict that is locked: in list comprehensions, in loops. -/
namespace Zk
open PySem PySem.Spec PyProof.Rows L2 Vb Wd Zt
section
variable {d : Addr} {o : Obj} {kvs : List (L2.Key × V)}
theorem lc_keys {g : TG} {tt : TT} {te : TE} {vs : List Nat} {σ : L2.St} {H1 : Hp} {D : Addr} {Z : Hp → Prop} (I : Nat → Hp → Prop) (start : I 0 (upd H1 D (.lst []))) (held : ∀ i H, i ≤ kvs.length → I i H → H d = some (.frz o (.dK kvs)))
    (turn : ∀ i k v H, kvs[i]? = some (k, v) → I i H → g (kV k) (wipe σ vs) H fun σ2 H2 => wipe σ2 vs = wipe σ vs ∧ tt σ2 H2 fun b H3 => if b = true then te σ2 H3 fun y H4 => ∃ acc, H4 D = some (.lst acc) ∧ acc.length < sizeLine ∧ I (i + 1) (upd H4 D (.lst (acc ++ [y]))) else I (i + 1) H3)
    (done : ∀ H, I kvs.length H → Z H) : ∃ W : Nat → Nat → Hp → Prop, (∃ m, W 0 m (upd H1 D (.lst []))) ∧ ∀ i m H, W i m H →
      ((Itk d o kvs).stop i H ∧ Z H) ∨ ((Itk d o kvs).go i H ∧ ∃ Nx : Hp → Prop, (∀ H', Nx H' → ∃ m', m' < m ∧ W (i + 1) m' H') ∧ ∀ x H', (Itk d o kvs).yld i H x H' → g x (wipe σ vs) H' fun σ2 H2 => wipe σ2 vs = wipe σ vs ∧ tt σ2 H2 fun b H3 =>
        if b = true then te σ2 H3 fun y H4 => ∃ acc, H4 D = some (.lst acc) ∧ acc.length < sizeLine ∧ Nx (upd H4 D (.lst (acc ++ [y]))) else Nx H3) := by
  refine ⟨fun i m H => i + m = kvs.length ∧ I i H, ⟨kvs.length, Nat.zero_add _, start⟩, fun i m H ⟨e, h⟩ => ?_⟩
  have hd := held i H (by omega) h
  cases m with
  | zero =>
    have ei : i = kvs.length := e
    subst ei
    exact .inl ⟨⟨hd, Nat.le_refl _⟩, done H h⟩
  | succ m =>
    have lt : i < kvs.length := by omega
    refine .inr ⟨⟨hd, lt⟩, I (i + 1), fun H' h' => ⟨m, Nat.lt_succ_self _, by omega, h'⟩, fun x H' y => ?_⟩
    obtain ⟨rfl, k, v, e2, rfl⟩ := y
    exact turn i k v _ e2 h
theorem for_keys {g : TG} {tb : TS} {D : Ends} {σ : L2.St} {H : Hp} (I : Nat → L2.St → Hp → Prop) (start : I 0 σ H) (held : ∀ i σ H, i ≤ kvs.length → I i σ H → H d = some (.frz o (.dK kvs)))
    (turn : ∀ i k v σ H, kvs[i]? = some (k, v) → I i σ H → g (kV k) σ H fun σ2 H2 => tb { D with nx := I (i + 1), ct := I (i + 1), bk := D.nx } σ2 H2) (done : ∀ σ H, I kvs.length σ H → D.nx σ H) :
    ∃ W : Nat → Nat → L2.St → Hp → Prop, (∃ m, W 0 m σ H) ∧ ∀ i m σ H, W i m σ H →
      ((Itk d o kvs).stop i H ∧ D.nx σ H) ∨ ((Itk d o kvs).go i H ∧ ∃ N : L2.St → Hp → Prop, (∀ σ' H', N σ' H' → ∃ m', m' < m ∧ W (i + 1) m' σ' H') ∧ ∀ x H', (Itk d o kvs).yld i H x H' → g x σ H' fun σ2 H2 => tb { D with nx := N, ct := N, bk := D.nx } σ2 H2) := by
  refine ⟨fun i m σ H => i + m = kvs.length ∧ I i σ H, ⟨kvs.length, Nat.zero_add _, start⟩, fun i m σ H ⟨e, h⟩ => ?_⟩
  have hd := held i σ H (by omega) h
  cases m with
  | zero =>
    have ei : i = kvs.length := e
    subst ei
    exact .inl ⟨⟨hd, Nat.le_refl _⟩, done σ H h⟩
  | succ m =>
    have lt : i < kvs.length := by omega
    refine .inr ⟨⟨hd, lt⟩, I (i + 1), fun σ' H' h' => ⟨m, Nat.lt_succ_self _, by omega, h'⟩, fun x H' y => ?_⟩
    obtain ⟨rfl, k, v, e2, rfl⟩ := y
    exact turn i k v σ _ e2 h
end
/-- a lock and its end -/
theorem lock_same {d : Addr} {o : Obj} {u : HO} {H H' : Hp} (e : H d = some u) (s : Same (upd H d (.frz o u)) H') : Same H (upd H' d u) := fun b x h => by
  by_cases bd : b = d
  · subst bd
    rw [e] at h
    rw [upd_same]
    exact h
  · rw [upd_ne bd]
    exact s b x (by rw [upd_ne bd]; exact h)
theorem lock_past {d c : Addr} {o : Obj} {u : HO} {H H' : Hp} (e : H d = some u) (n : d ≠ c) (s : Past c (upd H d (.frz o u)) H') : Past c H (upd H' d u) := by
  obtain ⟨k, g, s', c', q⟩ := s
  refine ⟨fun b x bc h => ?_, g, s', c', ?_⟩
  · by_cases bd : b = d
    · subst bd
      rw [e] at h
      rw [upd_same]
      exact h
    · rw [upd_ne bd]
      exact k b x bc (by rw [upd_ne bd]; exact h)
  · rw [upd_ne n.symm]
    exact q
/-- what stands elsewhere stands in the lock -/
theorem in_lock {d b : Addr} {o : Obj} {u x : HO} {H : Hp} (n : b ≠ d) (h : H b = some x) : (upd H d (.frz o u)) b = some x := by
  rw [upd_ne n]
  exact h
end Zk
set_option Elab.async false
set_option linter.all false
set_option autoImplicit false
set_option maxRecDepth 100000
set_option maxHeartbeats 4000000
namespace K04
open PySem PySem.Spec PyProof.Rows L2 Vb Wd Xd Xo Ts K01 Zt Zk
abbrev s_l_made_scheme : Stmt := topS 41
theorem sc_l_made_scheme : FnScope ["_law_plain", "_law_forms", "_law_name"] ["_law_plain"] (defScope s_l_made_scheme) := ⟨rfl, rfl, rfl, by decide +kernel, rfl, by decide +kernel, by decide +kernel⟩
/-- what is known of the class Form -/
structure EnvF (P : Program) (w : World) (K : PySem.W.Frag) (mg : Str → Option Value) (base : Heap) (C : Addr) where
  T : FormC K C
  TI : FormI K C
  TP : FormP P w K mg base C
  g : mg "Form" = some (.ref C)
  fI : Addr
  fdI : FuncData
  M : L2.Mk K C fI
  FI : FnG P w K mg base 6 fI fdI ["self", "called", "sort", "children"] (spInit K C)
  bI : Binds K fdI ["self", "called", "sort", "children"] []
/-- what is known of the class Scheme -/
structure EnvS (P : Program) (w : World) (K : PySem.W.Frag) (mg : Str → Option Value) (base : Heap) (C CS CI : Addr) where
  T : SchemeC K CS
  g : mg "Scheme" = some (.ref CS)
  fI : Addr
  fdI : FuncData
  M : L2.Mk K CS fI
  FI : FnE P w K mg base 5 fI fdI ["self", "bare", "tops", "forms"] (spInitS K C CS CI)
  bI : Binds K fdI ["self", "bare", "tops", "forms"] []
/-- the words of a scheme that is one -/
structure SchOk (b : Str) (ts : List Str) (rows : List FD) : Prop where
  sch : schB (.str b) (some ts) rows = true
  nams : ∀ r ∈ rows, isNam (.str r.1) = true ∧ isNam (.str r.2.1) = true
  tops : (∀ y ∈ ts, Fine y) ∧ ts.length ≤ 60 ∧ (ts.all nam && asc ts) = true
theorem inV_mem {b : Str} {ts : List Str} (h : b ∈ ts) : inV (.str b) (ts.map V.str) = true := by
  unfold inV
  exact List.any_eq_true.mpr ⟨.str b, List.mem_map.mpr ⟨b, h, rfl⟩, by simp [eqV]⟩
theorem Fit.ok {b : Str} {ts : List Str} {rows : List FD} (F : Fit b ts rows) (few : rows.length ≤ 24) : SchOk b ts rows := by
  obtain ⟨zs, znd, zl, zp, tz, rz⟩ := F.ex
  have d8 : (dd (ts ++ said rows)).length ≤ 8 := Nat.le_trans (nodup_len _ zs (nodup_dd _) fun k hk => by
    rcases List.mem_append.mp ((mem_dd _ k).mp hk) with h | h
    · exact tz k h
    · unfold said at h
      obtain ⟨r, hr, hk'⟩ := List.mem_flatMap.mp h
      exact rz r hr k hk') zl
  have fine : ∀ y ∈ pool, Fine y := fun y hy => by
    have := (nam_len (pool_nam y hy)).2.1
    exact ⟨by omega, pool_asc y hy⟩
  refine ⟨?_, fun r hr => ⟨pool_nam _ (F.named r hr), pool_nam _ (zp _ (rz r hr _ List.mem_cons_self))⟩, fun y hy => fine y (zp y (tz y hy)), ?_, ?_⟩
  · rw [schB_some, inV_mem F.bt, decide_eq_true F.some_, decide_eq_true few, decide_eq_true d8, decide_eq_true F.once, decide_eq_true F.kinds]
    rfl
  · have := nodup_len ts zs F.nd tz
    omega
  · rw [Bool.and_eq_true]
    refine ⟨List.all_eq_true.mpr fun y hy => pool_nam y (zp y (tz y hy)), ?_⟩
    rw [← eq_sorted (fun k => Iff.rfl) F.srt F.nd, decide_eq_true rfl]
theorem SchOk.sub {b : Str} {ts : List Str} {rows : List FD} (S : SchOk b ts rows) : ∀ ys, some ts = some ys → ∀ y ∈ ys ++ said rows, y ∈ dd (ts ++ said rows) := fun ys e y hy => by
  cases e
  exact (mem_dd _ y).mpr hy
theorem SchOk.parts {b : Str} {ts : List Str} {rows : List FD} (S : SchOk b ts rows) : b ∈ ts ∧ (1 ≤ rows.length ∧ rows.length ≤ 24) ∧ (dd (ts ++ said rows)).length ≤ 8 ∧ (rows.map (·.1)).Nodup ∧ (rows.map (·.2)).Nodup := by
  have h := S.sch
  rw [schB_some] at h
  simp only [Bool.and_eq_true, decide_eq_true_eq] at h
  obtain ⟨⟨⟨mem, d1, d24⟩, d8⟩, once, kinds⟩ := h
  obtain ⟨b', e, bm⟩ := inV_str (v := .str b) rfl mem
  cases e
  exact ⟨bm, ⟨d1, d24⟩, d8, once, kinds⟩
/-- the words as the law holds them, its dict perhaps locked -/
structure HeldR (H : Hp) (a tl tb : Addr) (b : Str) (ts : List Str) (ps : List (FD × Addr)) : Prop where
  at_ : H a = some (.lst [.str b, .ref tl, .ref tb])
  tops : H tl = some (.lst (ts.map V.str))
  dict : Rd H tb (.dK (kvsP ps))
  row : ∀ p ∈ ps, RowAt H p.2 p.1
theorem Held.r {H : Hp} {a tl tb : Addr} {b : Str} {ts : List Str} {ps : List (FD × Addr)} (h : Held H a tl tb b ts ps) : HeldR H a tl tb b ts ps := ⟨h.at_, h.tops, .inl h.dict, h.row⟩
theorem Held.ne {H : Hp} {a tl tb : Addr} {b : Str} {ts : List Str} {ps : List (FD × Addr)} (h : Held H a tl tb b ts ps) : a ≠ tb ∧ tl ≠ tb := by
  constructor
  · intro z
    have := h.at_
    rw [z, h.dict] at this
    cases this
  · intro z
    have := h.tops
    rw [z, h.dict] at this
    cases this
theorem Held.lock {H : Hp} {a tl tb : Addr} {b : Str} {ts : List Str} {ps : List (FD × Addr)} {o : Obj} (h : Held H a tl tb b ts ps) : HeldR (upd H tb (.frz o (.dK (kvsP ps)))) a tl tb b ts ps :=
  ⟨in_lock h.ne.1 h.at_, in_lock h.ne.2 h.tops, .inr ⟨o, upd_same⟩, fun p hp => (h.row p hp).tups (Tups.putD _ h.dict)⟩
theorem HeldR.same {H H' : Hp} {a tl tb : Addr} {b : Str} {ts : List Str} {ps : List (FD × Addr)} (s : Same H H') (h : HeldR H a tl tb b ts ps) : HeldR H' a tl tb b ts ps :=
  ⟨s _ _ h.at_, s _ _ h.tops, h.dict.imp (fun e => s _ _ e) (fun ⟨o, e⟩ => ⟨o, s _ _ e⟩), fun p hp => (h.row p hp).tups (Tups.of s)⟩
theorem Held.same {H H' : Hp} {a tl tb : Addr} {b : Str} {ts : List Str} {ps : List (FD × Addr)} (s : Same H H') (h : Held H a tl tb b ts ps) : Held H' a tl tb b ts ps :=
  ⟨s _ _ h.at_, s _ _ h.tops, s _ _ h.dict, fun p hp => (h.row p hp).tups (Tups.of s)⟩
def spMS (C CS : Addr) : Sp := fun vs H Q _ => ∃ (a tl tb : Addr) (b : Str) (ts : List Str) (ps : List (FD × Addr)), vs = [.ref a] ∧ Held H a tl tb b ts ps ∧ SchOk b ts (ps.map (·.1)) ∧
  ∀ (p : Addr) (ds : List FD) (H' : Hp), Same H H' → SchemeAt H' C CS p b ts ds → ds.Perm (ps.map (·.1)) → Q (.ref p) H'
section
variable {P : Program} {w : World} {K : PySem.W.Frag} {mg : Str → Option Value} {base : Heap} {C CS CI : Addr}
theorem ok_l_made_scheme (D : Df K mg "_law_made_scheme" s_l_made_scheme ["_law_plain"]) (VF : EnvF P w K mg base C) (VS : EnvS P w K mg base C CS CI) (z_tuple : mg "tuple" = none) : Cg P w K mg base 8 "_law_made_scheme" (spMS C CS) := by
  refine D.ok sc_l_made_scheme (fun vs H Q E h => ?_) (fun cdv A outer s H vs Q E f hc hr h => ?_)
  · obtain ⟨a, tl, tb, b, ts, ps, rfl, _⟩ := h
    rfl
  · obtain ⟨a, tl, tb, b, ts, ps, rfl, X, S, q⟩ := h
    refine ⟨_, (pss_cons (ps_set (i := 1) sc_l_made_scheme.nd rfl (Or.inl rfl) (pe_callTy (cr_tuple : CallR _ _ (rTup K)) (by rfl) z_tuple (by decide +kernel) (pa_cons (pe_lock (pe_lc (own := [("_law_name", 2)]) (g := gName 2) (by rfl) sc_l_made_scheme.nd (pi_keys (pe_ix (ix_list : IxR _ (rIxL K)) (pv 0) pe_int (fun _ _ => rfl))) (blkOk_by (own := [("_law_name", 2)]) (N := ["_law_plain", "_law_forms", "_law_name"]) (sc := defScope s_l_made_scheme) (by decide +kernel)) (fun _ _ _ _ _ => pg_name (i := 2) sc_l_made_scheme.nd rfl (Or.inl rfl)) (fun _ _ _ _ _ => pts_nil)
        (fun _ _ _ _ _ => (pe_makeE (E := fun _ _ _ => False) (W := fun _ _ _ _ => False) VF.M (FnE.of VF.FI) hc hr (by rfl) VF.g VF.bI takes0 (fun _ _ _ _ z => z) (pa_cons (pv 2) (pa_cons (pe_ix (ix_tup : IxR _ (rIxT K)) (pe_dget (hu_of hr) (pe_ix (ix_list : IxR _ (rIxL K)) (pv 0) pe_int (fun _ _ => rfl)) (pv 2) (fun _ _ => rfl)) pe_int (fun _ _ => rfl)) (pa_cons (pe_ix (ix_tup : IxR _ (rIxT K)) (pe_dget (hu_of hr) (pe_ix (ix_list : IxR _ (rIxL K)) (pv 0) pe_int (fun _ _ => rfl)) (pv 2) (fun _ _ => rfl)) pe_int (fun _ _ => rfl)) pa_nil))))))) pa_nil)))
      (pss_one (ps_ret (pe_makeE (E := fun _ _ _ => False) (W := fun _ _ _ _ => False) VS.M VS.FI hc (hr.mono (by decide)) (by rfl) VS.g VS.bI takes0 (fun _ _ _ _ z => z) (pa_cons (pe_ix (ix_list : IxR _ (rIxL K)) (pv 0) pe_int (fun _ _ => rfl)) (pa_cons (pe_callTy (cr_tuple : CallR _ _ (rTup K)) (by rfl) z_tuple (by decide +kernel) (pa_cons (pe_ix (ix_list : IxR _ (rIxL K)) (pv 0) pe_int (fun _ _ => rfl)) pa_nil)) (pa_cons (pv 1) pa_nil))))))), ?_⟩
    refine ⟨tb, _, X.dict, trivial, fun od => ?_⟩
    have XL := X.lock (o := od)
    obtain ⟨bm, ⟨d1, d24⟩, d8, once, kinds⟩ := S.parts
    have psn : (ps.map (·.1)).map (·.1) = ps.map (·.1.1) := by rw [List.map_map]; rfl
    have nd : (ps.map (·.1.1)).Nodup := by rw [← psn]; exact once
    rw [List.length_map] at d1 d24
    have big : ∀ {n : Nat}, n ≤ 200 → n < sizeLine := fun h => Nat.lt_of_le_of_lt h (by decide)
    generalize eHL : upd H tb (.frz od (.dK (kvsP ps))) = HL at XL
    have eL : HL tb = some (.frz od (.dK (kvsP ps))) := by rw [← eHL]; exact upd_same
    refine ⟨_, rfl, a, _, _, .ref tb, rfl, rfl, .inl (.inl XL.at_), by rfl, tb, od, rfl, .inl ⟨kvsP ps, eL, fun D nD => ?_⟩⟩
    have XR : ∀ {H' : Hp}, Same HL H' → HeldR H' a tl tb b ts ps := fun s => XL.same s
    have s0 : ∀ {H' : Hp}, Same HL H' → Same H (upd H' tb (.dK (kvsP ps))) := fun s => lock_same X.dict (by rw [eHL]; exact s)
    refine lc_keys (fun i H' => Same HL H' ∧ ∃ fs : List Addr, H' D = some (.lst (fs.map V.ref)) ∧ fs.length = i ∧ ∀ (j : Nat) (x : Addr) (p : FD × Addr), fs[j]? = some x → ps[j]? = some p → ∃ ch ks, FormAt H' C x ch p.1.1 p.1.2.1 ks p.1.2.2) ⟨same_put nD (Same.refl _), [], upd_same, rfl, fun j x p h => by simp at h⟩ (fun i H' _ h => h.1 _ _ eL) (fun i k v H1 hk h => ?_) (fun H1 h => ?_)
    · obtain ⟨s1, fs, e1, fl, forms⟩ := h
      obtain ⟨p, hp, ek⟩ : ∃ p, ps[i]? = some p ∧ (k, v) = (Sum.inr p.1.1, V.ref p.2) := by
        unfold kvsP at hk
        rw [List.getElem?_map] at hk
        obtain ⟨p, hp, e⟩ := Option.map_eq_some_iff.mp hk
        exact ⟨p, hp, e.symm⟩
      cases ek
      have pm := List.mem_of_getElem? hp
      have il := (List.getElem?_eq_some_iff.mp hp).1
      have X1 := XR s1
      obtain ⟨ch, ks, eq, kk⟩ := X1.row p pm
      obtain ⟨n1, n2⟩ := S.nams p.1 (List.mem_map.mpr ⟨p, pm, rfl⟩)
      have l1 := (nam_len n1).2.1
      have l2 := (nam_len n2).2.1
      have asc_ : ∀ {z : Str}, isNam (.str z) = true → Asc z := fun {z} h c hc => by
        have h3 := (nam_len h).2.2
        have := List.all_eq_true.mp h3 c hc
        unfold low at this
        rw [Bool.and_eq_true, decide_eq_true_eq, decide_eq_true_eq] at this
        omega
      have dg : DGet H1 tb (kV (Sum.inr p.1.1)) (some (.ref p.2)) := .inl ⟨kvsP ps, Sum.inr p.1.1, X1.dict, rfl, (kvsP_val nd pm).symm⟩
      refine ⟨rfl, _, rfl, _, rfl, a, _, _, .ref tb, rfl, rfl, .inl (.inl X1.at_), by rfl, _, rfl, tb, .ref p.2, rfl, dg, p.2, _, _, .str p.1.2.1, rfl, rfl, .inl (.inl eq), by rfl, _, rfl, a, _, _, .ref tb, rfl, rfl, .inl (.inl X1.at_), by rfl, _, rfl, tb, .ref p.2, rfl, dg, p.2, _, _, .ref ch, rfl, rfl, .inl (.inl eq), by rfl, fun x dx nx ndx ne => ?_⟩
      have s2 := (same_new (o := .own x) ndx).trans (same_new (o := .ins C dx []) (by rw [upd_ne ne.symm]; exact nx))
      refine ⟨x, dx, ch, p.1.1, p.1.2.1, ks, p.1.2.2, rfl, upd_same, ⟨n1, by omega, asc_ n1⟩, ⟨n2, by omega, asc_ n2⟩, kk.same s2, fun H2 s3 => ⟨rfl, ?_⟩⟩
      generalize eH3 : upd H2 x (.ins C dx (flds p.1.1 p.1.2.1 ch)) = H3
      have x3 : H3 x = some (.ins C dx (flds p.1.1 p.1.2.1 ch)) := by rw [← eH3]; exact upd_same
      have s13 : Same H1 H3 := fun b' o' h' => by
        have bx : b' ≠ x := ne_of_none h' nx
        rw [← eH3, upd_ne bx]
        exact s3 _ _ (s2 _ _ h')
      have e3 := s13 _ _ e1
      have xD : x ≠ D := fun z => by
        rw [z, e3] at x3
        cases x3
      have tpe : Tups H3 (upd H3 D (.lst (fs.map V.ref ++ [.ref x]))) := Tups.putL _ e3
      refine ⟨_, e3, by rw [List.length_map]; exact big (by omega), same_put nD (s1.trans s13), fs ++ [x], ?_, by rw [List.length_append, fl]; rfl, fun j y p' h1 h2 => ?_⟩
      · rw [upd_same, List.map_append]
        rfl
      · rw [List.getElem?_append] at h1
        by_cases jl : j < fs.length
        · rw [if_pos jl] at h1
          obtain ⟨ch', ks', ⟨dx', q'⟩, kk'⟩ := forms j y p' h1 h2
          refine ⟨ch', ks', ⟨dx', ?_⟩, (kk'.same s13).tups tpe⟩
          have yD : y ≠ D := fun z => by
            rw [z, e1] at q'
            cases q'
          rw [upd_ne yD]
          exact s13 _ _ q'
        · rw [if_neg jl] at h1
          have j0 : j = i := by
            have := (List.getElem?_eq_some_iff.mp h1).1
            simp at this
            omega
          rw [j0] at h2 h1
          rw [fl, Nat.sub_self] at h1
          cases h1
          cases hp.symm.trans h2
          exact ⟨ch, ks, ⟨dx, by rw [upd_ne xD]; exact x3⟩, (kk.same s13).tups tpe⟩
    · obtain ⟨s1, fs, e1, fl, forms⟩ := h
      refine ⟨s1 _ _ eL, ?_⟩
      have s2 := s0 s1
      have tpL : Tups H1 (upd H1 tb (.dK (kvsP ps))) := Tups.put _ fun xs e => by
        rw [s1 _ _ eL] at e
        cases e
      have Dtb : D ≠ tb := fun z => by
        rw [z, s1 _ _ eL] at e1
        cases e1
      generalize eH2 : upd H1 tb (.dK (kvsP ps)) = H2 at s2 tpL
      have e2 : H2 D = some (.lst (fs.map V.ref)) := by rw [← eH2, upd_ne Dtb]; exact e1
      have forms2 : ∀ (j : Nat) (x : Addr) (p : FD × Addr), fs[j]? = some x → ps[j]? = some p → ∃ ch ks, FormAt H2 C x ch p.1.1 p.1.2.1 ks p.1.2.2 := fun j x p h1 h2 => by
        obtain ⟨ch, ks, ⟨dx, q'⟩, kk⟩ := forms j x p h1 h2
        refine ⟨ch, ks, ⟨dx, ?_⟩, kk.tups tpL⟩
        have xtb : x ≠ tb := fun z => by
          rw [z, s1 _ _ eL] at q'
          cases q'
        rw [← eH2, upd_ne xtb]
        exact q'
      have X2 := X.same s2
      have kl : (kvsP ps).length = ps.length := by unfold kvsP; rw [List.length_map]
      refine ⟨D, _, rfl, .inl ⟨.inl (.inl e2), fun f nf => ?_⟩⟩
      have s3 := same_new (o := .tup (fs.map V.ref)) nf
      generalize eH3 : upd H2 f (.tup (fs.map V.ref)) = H3 at s3
      have e3 : H3 f = some (.tup (fs.map V.ref)) := by rw [← eH3]; exact upd_same
      have X3 := X2.same s3
      refine ⟨_, rfl, a, _, _, .str b, rfl, rfl, .inl (.inl X3.at_), by rfl, _, rfl, a, _, _, .ref tl, rfl, rfl, .inl (.inl X3.at_), by rfl, tl, _, rfl, .inl ⟨.inl (.inl X3.tops), fun t nt => ?_⟩⟩
      have s4 := same_new (o := .tup (ts.map V.str)) nt
      generalize eH4 : upd H3 t (.tup (ts.map V.str)) = H4 at s4
      have t4 : H4 t = some (.tup (ts.map V.str)) := by rw [← eH4]; exact upd_same
      have s24 := s3.trans s4
      refine ⟨_, rfl, fun x dx nx ndx ne => ?_⟩
      have s5 := (same_new (o := .own x) ndx).trans (same_new (o := .ins CS dx []) (by rw [upd_ne ne.symm]; exact nx))
      have s25 := s24.trans s5
      obtain ⟨fy, ly, ny⟩ := S.tops
      have FF : Forms (upd (upd H4 dx (.own x)) x (.ins CS dx [])) C fs (ps.map (·.1)) := ⟨by rw [List.length_map, fl, kl], fun j x' d' h1 h2 => by
        rw [List.getElem?_map] at h2
        obtain ⟨p, hp, rfl⟩ := Option.map_eq_some_iff.mp h2
        obtain ⟨ch, ks, FA⟩ := forms2 j x' p h1 hp
        exact ⟨ch, ks, FA.sm s25⟩⟩
      refine ⟨x, dx, f, .str b, .ref t, some ts, fs, ps.map (·.1), dd (ts ++ said (ps.map (·.1))), rfl, upd_same, ⟨rfl, ⟨t, rfl, s5 _ _ t4, fy, ly, ny⟩, (s4.trans s5) _ _ e3, FF, by rw [fl, kl]; omega, S.sub, by omega, S.nams⟩, fun b' ys' eb ey _ H6 ds' bt SA pm => ⟨rfl, ?_⟩, fun e => ?_⟩
      · cases eb
        cases ey
        refine q x ds' H6 (fun b' o' h' => ?_) SA pm
        have h4 := s24 _ _ (s2 _ _ h')
        have bx : b' ≠ x := ne_of_none h4 nx
        exact bt _ _ bx (s5 _ _ h4)
      · rw [S.sch] at e
        cases e
end
end K04
set_option Elab.async false
set_option linter.all false
set_option autoImplicit false
set_option maxRecDepth 100000
set_option maxHeartbeats 4000000
/-! Ze: enumerate of a tuple. -/
namespace Ze
open PySem
open AutoSeq1 (wpAny_loadPart')
theorem meets_enum1 {v : Value} {o : Obj} {H : Heap → Prop} (B : Begins v o H) :
    Meets (Builtin.«enumerate.__new__» ⟨[.type "enumerate", v], []⟩) (fun _ R s => H s.heap ∧
      R (.ok (.ret (.ref (s.heap.push o).objs.size))) { s with heap := (s.heap.push o).push { cls := .type "enumerate", data := .fields #[.none, .bool false, .ref s.heap.objs.size, rawInt 0, .none, .none] } }) :=
  .of_wp fun prog w A R s h => by
    obtain ⟨hp, g, d, tk, os⟩ := s; obtain ⟨h1, h⟩ := h
    have hsub := sub_enumerate
    have q1 : ∀ {A' : Around} {E : Value → Shared → Prop} {Q : Value → Shared → Prop}, Q (.ref hp.objs.size) ⟨hp.push o, g, d, tk, os⟩ → wpAny (model prog w) A' (pyIter v) Q E ⟨hp, g, d, tk, os⟩ :=
      fun q => B.iter prog w _ _ ⟨hp, g, d, tk, os⟩ _ h1 q
    wp_walk using q1
    refine wpAny_stack_any fun st => wpAny_pure ?_
    split
    · rename_i c _ _ _ _ _
      cases (c == Value.type "enumerate")
      · wp_walk using q1
        exact ⟨_, rfl, h⟩
      · wp_walk using q1
        exact ⟨_, rfl, h⟩
    · wp_walk using q1
      exact ⟨_, rfl, h⟩
section
variable {prog : Program} {w : World} {A : Around} {E : Value → Shared → Prop} {s : Shared}
theorem call_enum1 {v : Value} {o : Obj} {H : Heap → Prop} {Q : Value → Shared → Prop} (B : Begins v o H) (h1 : H s.heap)
    (h : ∀ h', IsEnum h' (s.heap.objs.size + 1) s.heap.objs.size 0 .none → h'.get? s.heap.objs.size = some o → h'.objs.size = s.heap.objs.size + 2 →
      (∀ b o, s.heap.get? b = some o → h'.get? b = some o) → Q (.ref (s.heap.objs.size + 1)) { s with heap := h' }) :
    wpAny (model prog w) A (call (.type "enumerate") [v]) Q E s := by
  refine callType_new F.called_enumerate (by decide) (F.typeCall_enumerate_1 _) (F.newCall_enumerate_1 _) (fun obj => F.args_object_init_2 obj _) F.entry_enumerate_new
    (meets_enum1 B) ⟨h1, ?_⟩
  have hz : (s.heap.push o).objs.size = s.heap.objs.size + 1 := Heap.size_push ..
  show _ ∧ _
  rw [hz]
  have he : IsEnum ((s.heap.push o).push { cls := .type "enumerate", data := .fields #[.none, .bool false, .ref s.heap.objs.size, rawInt 0, .none, .none] }) (s.heap.objs.size + 1) s.heap.objs.size 0 .none := by
    have := Heap.get?_push_size (s.heap.push o) (o := { cls := .type "enumerate", data := .fields #[.none, .bool false, .ref s.heap.objs.size, rawInt 0, .none, .none] }) rfl
    rw [hz] at this; exact this
  refine ⟨⟨_, he, rfl⟩, h _ he (Heap.get?_push_of_some _ (Heap.get?_push_size _ B.free)) (by rw [Heap.size_push, hz]) fun b o x => Heap.get?_push_of_some _ (Heap.get?_push_of_some _ x)⟩
end
end Ze
namespace Ze
open PySem PySem.Spec PyProof.Rows L2
/-- the tuple at a, each item in a new pair -/
def Iue (K : PySem.W.Frag) (a : Addr) : It :=
  ⟨fun i H => ∃ (xs : List V) (x : V), SqT K H a xs ∧ xs[i]? = some x, fun i H v H' => ∃ T x, v = .ref T ∧ H T = none ∧ H' = upd H T (.tup [.int (i : Nat), x]) ∧ ∀ xs, SqT K H a xs → xs[i]? = some x, fun i H => ∃ xs : List V, SqT K H a xs ∧ xs.length ≤ i⟩
theorem turn_enumT {P : Program} {w : World} {K : PySem.W.Frag} {elts : List Expr} {kk : Nat} {tpos : Pos} (a e it : Addr) :
    Turn P w K (.Tuple elts kk tpos) (Iue K a) [e, it] e (fun i h => (∃ old, IsEnum h e it ((i : Nat) : Int) old) ∧ h.IsTupleIter it a i ∧ e ≠ it) where
  mem := by simp
  obj := fun i h st b hb => by
    obtain ⟨⟨old, he⟩, ⟨o, ho, hc, hd⟩, _⟩ := st
    have e' : b = e ∨ b = it := by simpa using hb
    rcases e' with z | z
    · rw [z]; exact ⟨_, he, fun v q => nomatch q⟩
    · rw [z]; exact ⟨o, ho, fun v q => by rw [hd] at q; cases q⟩
  keep := fun i h h' st k => let ⟨⟨old, he⟩, hi, hne⟩ := st; ⟨⟨old, k e (by simp) _ he⟩, hi.at fun o q => k it (by simp) o q, hne⟩
  item := by
    intro X hP hw hK hc i pins s σ H E I hf st hg
    subst hP hw hK
    obtain ⟨⟨old, he⟩, hit, hne⟩ := st
    obtain ⟨xs, x, hq, hx⟩ := hg
    obtain ⟨its, rv, p, hz⟩ := I.tuple hq
    obtain ⟨u, hu, ru⟩ := rv.get hx
    have hel : e < s.heap.objs.size := Heap.lt_size he
    have hil : it < s.heap.objs.size := by obtain ⟨_, q, _⟩ := hit; exact Heap.lt_size q
    obtain ⟨op, hop, hcp, _⟩ := id p
    have hea : e ≠ a := fun z => by
      rw [z] at he
      have q := hop.symm.trans he
      cases Option.some.inj q
      exact absurd (Value.type.inj hcp) (by decide)
    have hta : a ≠ it := fun z => by
      obtain ⟨o, ho, hc', _⟩ := id hit
      rw [← z, hop] at ho
      cases ho
      rw [hcp] at hc'
      exact absurd (Value.type.inj hc') (by decide)
    have D := Draws.tuple (prog := X.prog) (w := X.w) (A := X.A.in1) (I.ok.hd hc) it a hta its.toArray
    have hlt : i < its.toArray.size := by
      have := (List.getElem?_eq_some_iff.mp hu).1
      simpa using this
    refine wpAny_pyNext_enum_itemD D he ⟨hit, p⟩ hlt hne (by simp [hne, hea]) fun u' h' tk hP ho hit' hT hsz hk => ?_
    have eu : u' = u := by
      have : its[i]? = some u' := by simpa using hP
      rw [hu] at this
      exact (Option.some.inj this).symm
    subst eu
    refine ⟨_, rfl, wpAny_letOwnedTupleGo_enum (s := { s with heap := h', toks := tk + 1 }) ho fun h'' he' sb => ?_⟩
    have hT2 : h''.get? s.heap.objs.size = some { cls := .type "tuple", data := .seq #[.int i tk, u'] } := (sb.2 _ (Nat.ne_of_gt hel)).trans hT
    have new : ObjOk X.prog X.w (upd H s.heap.objs.size (.tup [.int (i : Nat), x])) h'' s.heap.objs.size (.tup [.int (i : Nat), x]) :=
      ⟨by show 2 ≤ sizeLine; decide, [.int i tk, u'], .cons ⟨_, rfl⟩ (.cons ru .nil), ⟨_, hT2, rfl, _, rfl⟩⟩
    have I1 : Inv X pins σ (upd H s.heap.objs.size (.tup [.int (i : Nat), x])) { s with heap := h'', toks := tk + 1 } :=
      I.turnedNew (ch := [e, it]) (fun b ob hb q => (sb.2 b (fun z => hb (by simp [z]))).trans (hk b ob (fun z => hb (by simp [z])) (fun z => hb (by simp [z])) q)) hf (Nat.le_refl _) new
    refine ⟨.ref s.heap.objs.size, _, I1, rfl, ⟨_, x, rfl, I.hok.fresh (Nat.le_refl _), rfl, fun ys hy => by rw [I.tuple_inj hy hq]; exact hx⟩, ⟨⟨u', ?_⟩, hit'.1.at fun o q => (sb.2 it (Ne.symm hne)).trans q, hne⟩, fun b hb => ?_⟩
    · have e1 : ((i + 1 : Nat) : Int) = (i : Int) + 1 := by omega
      rw [e1]; exact he'
    · have hb' : b < s.heap.objs.size := by
        have e' : b = e ∨ b = it := by simpa using hb
        rcases e' with z | z
        · rw [z]; exact hel
        · rw [z]; exact hil
      rw [upd_ne (Nat.ne_of_lt hb')]
      exact (hf b hb).1
  done := by
    intro X hP hw hK hc i pins s σ H E I hf st hg
    subst hP hw hK
    obtain ⟨⟨old, he⟩, hit, hne⟩ := st
    obtain ⟨xs, hq, hx⟩ := hg
    obtain ⟨its, rv, p, hz⟩ := I.tuple hq
    obtain ⟨f0, f1, f2, f3, f4, f5⟩ := hf it (by simp)
    have hl := rv.length
    obtain ⟨op, hop, hcp, _⟩ := id p
    have hta : a ≠ it := fun z => by
      obtain ⟨o, ho, hc', _⟩ := id hit
      rw [← z, hop] at ho
      cases ho
      rw [hcp] at hc'
      exact absurd (Value.type.inj hc') (by decide)
    have hT : s.TypeIs (.ref e) "enumerate" := ⟨_, he, rfl⟩
    unfold pyNext
    refine wpAny_bind (wpAny_attempt (wpAny_callSpecial?_slot (name := Str.ofString "__next__") hT PySem.F.slot_enumerate_next
      (wpAny_call_entry PySem.F.slot_enumerate_next hT PySem.F.entry_enumerate_next ?_ (PySem.F.args_enumerate_next_1 _))))
    show wpAny _ _ (field (.ref e) 2 >>= _) _ _ _
    refine wpAny_bind (wpAny_field he rfl (x := .ref it) rfl ?_)
    refine wpAny_bind (wpAny_nextOf_tuple_end (I.ok.hd hc) hit p (by simp; omega) fun h' x he' hx' => ?_)
    obtain ⟨o, ho, hc'⟩ := hx'
    refine wpAny_bind (wpAny_isInstance (T := "StopIteration") (b := true) ⟨o, ho, hc'⟩ isSubtype_stop ?_)
    exact wpAny_pure ⟨rfl, I.turned (t' := s.toks) (fun b o hb q => he' b o hb q) f0 f1 f3 f4 f5⟩
  self := fun A i s Q E st h => let ⟨⟨_, he⟩, _⟩ := st; wpAny_pyIter_enum he h
def iEnumT (K : PySem.W.Frag) (ta : TA) : TI := fun σ H R => ta σ H fun vs H1 => ∃ a xs, vs = [.ref a] ∧ SqT K H1 a xs ∧ R (Iue K a) H1
theorem pi_enumT {X : Cx} {e : Expr} {ta : TA} {p pos tpos : Pos} {elts : List Expr} {kk : Nat} (hg : Gl X "enumerate") (hm : X.mg "enumerate" = none) (ha : PA X [e] ta) (hs : starEach [e] X.env = [(false, eval e X.env)] := by rfl) :
    PI X (.Tuple elts kk tpos) (.Call (.Name "enumerate" p) [e] [] pos) (iEnumT X.K ta) := by
  refine ⟨fun pins s σ H R I h => ?_⟩
  refine Call_ (ld_blt I hg hm boot_enumerate (PyProof.Rows.callWith_type1 (thn (ha.run pos pins s σ H _ I h) fun us s1 ⟨vs, H1, I1, r1, q1⟩ => ?_) hs rfl))
  obtain ⟨a, xs, ex, hq, q⟩ := q1
  subst ex
  cases r1 with
  | cons r rr =>
    cases rr
    cases r
    obtain ⟨its, rv, p', hz⟩ := I1.tuple hq
    refine call_enum1 (begins_tuple a its.toArray) p' fun h' he hit hsz hk => wpAny_pyIter_enum he ?_
    have I2 : Inv X pins σ H1 { s1 with heap := h' } := I1.kept (t' := s1.toks) hk
    refine ⟨s1.heap.objs.size + 1, [s1.heap.objs.size + 1, s1.heap.objs.size], _, _, H1, rfl, I2, turn_enumT a (s1.heap.objs.size + 1) s1.heap.objs.size, ⟨⟨.none, he⟩, ⟨_, hit, rfl, rfl⟩, Nat.succ_ne_self _⟩, fun b hb => ?_, q⟩
    have e' : b = s1.heap.objs.size + 1 ∨ b = s1.heap.objs.size := by simpa using hb
    have hle : s1.heap.objs.size ≤ b := by
      rcases e' with z | z
      · rw [z]; exact Nat.le_add_right _ _
      · rw [z]; exact Nat.le_refl _
    exact I1.fpOk hle (I1.hok.fresh hle)
/-! ### walks in comprehensions with two fors: body is what a turn goes on to, behind it stands Nx -/
theorem walk_tup {K : PySem.W.Frag} {a : Addr} {xs : List V} {g : TG} {tt : TT} {body : L2.St → Hp → (Hp → Prop) → Prop} {vs : List Nat} {σ : L2.St} {H0 : Hp} {Qd : Hp → Prop} (Pv : Nat → Hp → Prop) (h0 : Pv 0 H0) (hl : ∀ i H, i ≤ xs.length → Pv i H → SqT K H a xs)
    (hs : ∀ i x H, xs[i]? = some x → Pv i H → g x (wipe σ vs) H fun σ2 H2 => wipe σ2 vs = wipe σ vs ∧ tt σ2 H2 fun b H3 => if b = true then body σ2 H3 (Pv (i + 1)) else Pv (i + 1) H3) (hd : ∀ H, Pv xs.length H → Qd H) :
    ∃ W : Nat → Nat → Hp → Prop, (∃ m, W 0 m H0) ∧ ∀ i m H, W i m H →
      ((Itt K a).stop i H ∧ Qd H) ∨ ((Itt K a).go i H ∧ ∃ Nx : Hp → Prop, (∀ H', Nx H' → ∃ m', m' < m ∧ W (i + 1) m' H') ∧ ∀ x H', (Itt K a).yld i H x H' → g x (wipe σ vs) H' fun σ2 H2 => wipe σ2 vs = wipe σ vs ∧ tt σ2 H2 fun b H3 => if b = true then body σ2 H3 Nx else Nx H3) := by
  refine ⟨fun i m H => m = xs.length - i ∧ i ≤ xs.length ∧ Pv i H, ⟨xs.length, by simp, Nat.zero_le _, h0⟩, ?_⟩
  rintro i m H ⟨rfl, hi, p⟩
  have q := hl i H hi p
  by_cases hlt : i < xs.length
  · refine .inr ⟨⟨xs, xs[i], q, by simp [hlt]⟩, Pv (i + 1), fun H' p' => ⟨xs.length - (i + 1), by omega, rfl, hlt, p'⟩, fun x H' y => ?_⟩
    obtain ⟨e, y⟩ := y
    subst e
    exact hs i x _ (y xs q) p
  · have e : i = xs.length := by omega
    subst e
    exact .inl ⟨⟨xs, q, Nat.le_refl _⟩, hd H p⟩
theorem walk_enumT {K : PySem.W.Frag} {a : Addr} {xs : List V} {g : TG} {tt : TT} {body : L2.St → Hp → (Hp → Prop) → Prop} {vs : List Nat} {σ : L2.St} {H0 : Hp} {Qd : Hp → Prop} (Pv : Nat → Hp → Prop) (h0 : Pv 0 H0) (hl : ∀ i H, i ≤ xs.length → Pv i H → SqT K H a xs)
    (hs : ∀ i x T H, xs[i]? = some x → Pv i H → H T = none → g (.ref T) (wipe σ vs) (upd H T (.tup [.int (i : Nat), x])) fun σ2 H2 => wipe σ2 vs = wipe σ vs ∧ tt σ2 H2 fun b H3 => if b = true then body σ2 H3 (Pv (i + 1)) else Pv (i + 1) H3) (hd : ∀ H, Pv xs.length H → Qd H) :
    ∃ W : Nat → Nat → Hp → Prop, (∃ m, W 0 m H0) ∧ ∀ i m H, W i m H →
      ((Iue K a).stop i H ∧ Qd H) ∨ ((Iue K a).go i H ∧ ∃ Nx : Hp → Prop, (∀ H', Nx H' → ∃ m', m' < m ∧ W (i + 1) m' H') ∧ ∀ x H', (Iue K a).yld i H x H' → g x (wipe σ vs) H' fun σ2 H2 => wipe σ2 vs = wipe σ vs ∧ tt σ2 H2 fun b H3 => if b = true then body σ2 H3 Nx else Nx H3) := by
  refine ⟨fun i m H => m = xs.length - i ∧ i ≤ xs.length ∧ Pv i H, ⟨xs.length, by simp, Nat.zero_le _, h0⟩, ?_⟩
  rintro i m H ⟨rfl, hi, p⟩
  have q := hl i H hi p
  by_cases hlt : i < xs.length
  · refine .inr ⟨⟨xs, xs[i], q, by simp [hlt]⟩, Pv (i + 1), fun H' p' => ⟨xs.length - (i + 1), by omega, rfl, hlt, p'⟩, fun x H' y => ?_⟩
    obtain ⟨T, x', e, nT, e', y⟩ := y
    subst e e'
    exact hs i x' T H (y xs q) p nT
  · have e : i = xs.length := by omega
    subst e
    exact .inl ⟨⟨xs, q, Nat.le_refl _⟩, hd H p⟩
end Ze
set_option Elab.async false
set_option linter.all false
set_option autoImplicit false
set_option maxRecDepth 100000
set_option maxHeartbeats 4000000
/-! Ys: defs with a star parameter in calm room, that may let an error out; class methods of that kind. -/
namespace Ys
open PySem PySem.Spec PyProof.Rows L2 Vb Xd StX
structure FnS (P : Program) (w : World) (K : PySem.W.Frag) (mg : Str → Option Value) (base : Heap) (k : Nat) (f : Addr) (sp : Sp) : Prop where
  goes : ∀ (A : Around) (outer : List Env) (s : Shared) (H : Hp) (us : List Value) (vs : List V) (Q : VK) (E : XK), Calm A → Room k A → Env0 P w K mg base A outer s H → Vals vs us → sp vs H Q E →
    codeAny (model P w) A (.call (.ref f) ⟨us, []⟩) (CR (L2.CX P w) outer P w H s Q E) s
section
variable {P : Program} {w : World} {K : PySem.W.Frag} {mg : Str → Option Value} {base : Heap}
theorem goes_star {x qual pv : Str} {st : Stmt} {f : Addr} {fd : FuncData} {N ps : List Str} {k : Nat} {sp : Sp} (F : Fun K x qual st f fd) (S : FnScope N (ps ++ [pv]) (defScope st))
    (hb : ∀ us rest : List Value, us.length = ps.length → bindArgs fd ⟨us ++ rest, []⟩ = (newTuple rest >>= fun t => pure (ps.zip us ++ [(pv, t)])))
    (body : ∀ (cdv : Value) (A : Around) (outer : List Env) (s : Shared) (H : Hp) (vs : List V) (Q : VK) (E : XK), Calm (A.deeper (envOfC qual (defScope st) s.heap.objs.size f cdv)) → Room k (A.deeper (envOfC qual (defScope st) s.heap.objs.size f cdv)) →
      Takes (cxOf (L2.CX P w) P w K mg base N qual (defScope st) f cdv A outer s H E) (fun cls d _ H' => E cls d H') → sp vs H Q E →
      ∃ t, PSs (cxOf (L2.CX P w) P w K mg base N qual (defScope st) f cdv A outer s H E) (defBody st) t ∧ t { nx := fun _ H' => Q .non H', rt := Q } (start N vs) H) :
    FnS P w K mg base (k + 1) f (fun vs H Q E => ∃ ws rest, vs = ws ++ rest ∧ ws.length = ps.length ∧ rest.length ≤ sizeLine ∧ ∀ p, H p = Option.none → sp (ws ++ [V.ref p]) (upd H p (.tup rest)) Q E) := by
  obtain ⟨oc, od, kV, doc, pm, an, cdv, ct, osl, rfl, lk, hcd⟩ := F.ex
  refine ⟨fun A outer s H us vs Q E hc hr e0 r hsp => ?_⟩
  obtain ⟨ws, rest, ev, hl, hz, hq⟩ := hsp
  subst ev
  obtain ⟨u1, u2, eu, r1, r2⟩ := vals_split r
  subst eu
  have hn : H s.heap.objs.size = Option.none := e0.hok.fresh (Nat.le_refl _)
  have hl1 : u1.length = ps.length := by rw [← r1.length]; exact hl
  have hl2 : u2.length ≤ sizeLine := by rw [← r2.length]; exact hz
  refine run_bnd lk hcd S hr e0 (G := fun xs H2 => ∃ p, H p = Option.none ∧ xs = ws ++ [V.ref p] ∧ H2 = upd H p (.tup rest)) (fun A' Ex Q' h => ?_) fun s2 H2 xs ⟨p, hp, ex, eH⟩ hr' => ?_
  · rw [hb u1 u2 hl1]
    refine wpAny_bind (wpAny_newTuple (wpAny_pure ?_) hl2)
    have new : ObjOk P w (upd H s.heap.objs.size (.tup rest)) (s.heap.push ({ cls := .type "tuple", data := .seq u2.toArray } : Obj)) s.heap.objs.size (.tup rest) := ⟨hz, u2, r2, ⟨_, Heap.get?_push_size _ rfl, rfl, _, rfl⟩⟩
    have un := un_laid (fs := frs outer) (s := s) (o := ({ cls := .type "tuple", data := .seq u2.toArray } : Obj)) (u := .tup rest) hn
    have z := h _ _ (ws ++ [V.ref s.heap.objs.size]) (u1 ++ [Value.ref s.heap.objs.size]) (env0_laid e0 new) un rfl (fun e s' => cxUp outer s H _ _ E e s' un (fun b o q => Heap.get?_push_of_some _ q) rfl) (r1.append (.cons rfl .nil))
      (by rw [List.length_append, List.length_append, hl] <;> rfl) ⟨_, hn, rfl, rfl⟩
    rw [List.zip_append hl1.symm] at z
    exact z
  · subst ex eH
    exact body cdv A outer s2 _ _ Q E (hc.deep _) hr' (takes_of rfl rfl rfl rfl) (hq p hp)
end
section
variable {X : Cx} {C : Addr} {k : Nat} {sp : Sp}
theorem run_cms {pins : List (Addr × Obj)} {σ : L2.St} {H : Hp} {s : Shared} {Q : VK} {W : WX} {E : XK} {g : Addr} {us : List Value} {vs : List V} (F : FnS X.prog X.w X.K X.mg X.base k g sp) (hc : Calm X.A) (hr : Room k X.A) (tk : Takes X W) (hW : ∀ cls d σ H, E cls d H → W cls d σ H)
    {q : Addr} (I : Inv X ((q, PySem.W.methodObj (.ref g) (.ref C)) :: pins) σ H s) (mp : PySem.W.MethP X.K q g (.ref C) s.heap) (rv : Vals vs us) (h : sp (V.ref C :: vs) H Q E) : wpAny (model X.prog X.w) X.A (call (.ref q) us) (EP X pins σ Q) X.xe s := by
  refine thn (Q := EP X ((q, PySem.W.methodObj (.ref g) (.ref C)) :: pins) σ Q) (wpAny_call (PySem.W.method_call mp.1 ?_)) fun _ _ y => ClX.unpinE y
  have rv' : Vals (V.ref C :: vs) (Value.ref C :: us) := .cons rfl rv
  refine codeAny_mono (F.goes X.A X.stack s H (Value.ref C :: us) _ Q E hc hr I.env0 rv' h) fun y s' hq => ?_
  match y, hq with
  | .error er, hq => exact passes_call tk hW _ σ H s er s' I hq
  | .ok (.ret u), hq => exact I.after hq
  | .ok .next, hq => exact hq.elim
  | .ok .brk, hq => exact hq.elim
  | .ok .cont, hq => exact hq.elim
/-- C.m(e, ..), m a class method with a star parameter -/
theorem pe_cmethS {W : WX} {E : XK} {m : Str} {p g : Addr} {mc : Value} {o e : Expr} {es : List Expr} {ta : TE} {t : TA} {pl : Sem Bool} {pos apos : Pos} (he : PE X o ta) (r : ClX.CRead X.K C mc) (c : ClX.CMet X.K C mc m p g) (F : FnS X.prog X.w X.K X.mg X.base k g sp) (hc : Calm X.A) (hr : Room k X.A)
    (tk : Takes X W) (hW : ∀ cls d σ H, E cls d H → W cls d σ H) (ha : PA X (e :: es) t) (hst : starEach (e :: es) X.env = (false, eval e X.env) :: starEach es X.env := by rfl) (hpl : (backTo pos (starEach es X.env)).any (·.1) = false := by rfl)
    (ht : eval (.Call (.Attribute o m apos) (e :: es) [] pos) X.env = (do let ov ← eval o X.env; standAt apos.atName; let (f, first) ← holding [ov] (getMethod ov m pl); callWith pos f first (backTo pos (starEach (e :: es) X.env)) (backToKw pos (keywordEach [] X.env))) := by rfl) :
    PE X (.Call (.Attribute o m apos) (e :: es) [] pos) (ClX.tCMeth C sp E ta t) := by
  refine ⟨fun pins s σ H Q I h => PySem.W.methodCall_KW (pl := pl) (thn (he.run pins s σ H _ I h) fun u s1 ⟨x, H1, I1, rx, ex, q⟩ => ?_) ht⟩
  subst ex
  obtain rfl : u = Value.ref C := rx
  exact ClX.getmethcm_ok I1 r c fun s2 I2 => ClX.callwith_cm I2 (ClX.base_none I1 (Nat.le_refl _)) c.fi (thn (ha.run pos _ s2 σ H1 _ I2 q) fun us s3 ⟨vs, H2, I3, rv, q2⟩ => ⟨⟨ClX.pin_at I3, I3.kIn⟩, run_cms F hc hr tk hW I3 ⟨ClX.pin_at I3, I3.kIn⟩ rv q2⟩) hst hpl
/-- C.m() -/
theorem pe_cmethS0 {W : WX} {E : XK} {m : Str} {p g : Addr} {mc : Value} {o : Expr} {ta : TE} {pl : Sem Bool} {pos apos : Pos} (he : PE X o ta) (r : ClX.CRead X.K C mc) (c : ClX.CMet X.K C mc m p g) (F : FnS X.prog X.w X.K X.mg X.base k g sp) (hc : Calm X.A) (hr : Room k X.A)
    (tk : Takes X W) (hW : ∀ cls d σ H, E cls d H → W cls d σ H)
    (ht : eval (.Call (.Attribute o m apos) [] [] pos) X.env = (do let ov ← eval o X.env; standAt apos.atName; let (f, first) ← holding [ov] (getMethod ov m pl); callWith pos f first (backTo pos (starEach [] X.env)) (backToKw pos (keywordEach [] X.env))) := by rfl) :
    PE X (.Call (.Attribute o m apos) [] [] pos) (ClX.tCMeth C sp E ta tNil) := by
  refine ⟨fun pins s σ H Q I h => PySem.W.methodCall_KW (pl := pl) (thn (he.run pins s σ H _ I h) fun u s1 ⟨x, H1, I1, rx, ex, q⟩ => ?_) ht⟩
  subst ex
  obtain rfl : u = Value.ref C := rx
  exact ClX.getmethcm_ok I1 r c fun s2 I2 => PySem.W.callWith_M0 (K := X.K) (first := []) ⟨ClX.pin_at I2, I2.kIn⟩ c.fi (run_cms F hc hr tk hW I2 ⟨ClX.pin_at I2, I2.kIn⟩ .nil q)
end
end Ys
set_option Elab.async false
set_option linter.all false
set_option autoImplicit false
set_option maxRecDepth 100000
set_option maxHeartbeats 4000000
/-! Lt: tuple(d.values()). -/
namespace Lt
open PySem PySem.Spec PyProof.Rows L2
section
variable {prog : Program} {w : World} {A : Around} {E : Value → Shared → Prop} {s : Shared} {T : String} {r d : Addr} {n : Nat} {P : Nat → Value → Prop} {OK : Heap → Prop}
theorem collect_kdl {Q : List Value → Shared → Prop} (K : PySem.W.KdlSrc prog w T r d n P OK) (hh : A.handled = none) (hok : OK s.heap) (hn : n ≤ sizeLine)
    (hQ : ∀ (h' : Heap) (tk : Nat) (acc : Array Value), (∀ b o, s.heap.get? b = some o → h'.get? b = some o) → ItemsOf P acc n → Q acc.toList { s with heap := h', toks := tk }) :
    wpAny (model prog w) A (collect (.ref r)) Q E s := by
  obtain ⟨lr, ld⟩ := K.there _ hok
  unfold collect
  refine wpAny_bind (wpAny_runValue (codeAny_builtin F.entry_proto_collect ?_))
  rw [Around.under_plainId F.plain_proto_collect _]
  show wpAny _ A.in1 (newList [] >>= fun l => again (.builtin "list.__iadd__" ⟨[l, .ref r], []⟩)) _ _ s
  refine wpAny_bind (wpAny_newObj_type ?_)
  refine wpAny_pure ⟨plainId_quiet F.plain_list_iadd _, codeAny_builtin F.entry_list_iadd ?_⟩
  rw [Around.under_plainId F.plain_list_iadd _]
  show wpAny _ A.in1 (Builtin.List.listExtendWith (.ref s.heap.objs.size) (.ref r) (.ref s.heap.objs.size)) _ _ _
  have hS : (s.heap.push { cls := .type "list", data := .seq ([] : List Value).toArray }).get? s.heap.objs.size = some { cls := .type "list", data := .seq #[] 0 } := Heap.get?_push_size _ rfl
  refine wpAny_mono (PySem.W.kdl_extend (A := A) (R := fun rr s' => rr = .ok (.ret (.ref s.heap.objs.size)) ∧ ∃ (h' : Heap) (tk : Nat) (acc : Array Value) (c' : Nat), s' = { s with heap := h', toks := tk } ∧
      (∀ b o, s.heap.get? b = some o → h'.get? b = some o) ∧ h'.get? s.heap.objs.size = some { cls := .type "list", dict := none, data := .seq acc c', slots := #[] } ∧ ItemsOf P acc n)
    (s := { s with heap := s.heap.push { cls := .type "list", data := .seq ([] : List Value).toArray } }) K hh (K.keep _ _ hok fun b _ o e => Heap.get?_push_of_some _ e) s.heap.objs.size (Nat.ne_of_gt lr) (Nat.ne_of_gt ld) _ 0 hS
    (fun h' tk acc c' hk e hi => ⟨rfl, h', tk, acc, c', rfl, fun b o q => hk b o (Nat.ne_of_lt (Heap.lt_size q)) (Heap.get?_push_of_some _ q), e, hi⟩) hn) (fun fin s' h => ?_) (fun e s' h => ?_)
  · cases fin with
    | done f =>
      obtain ⟨e, h', tk, acc, c', rfl, hk, hS', hi⟩ := h
      cases e
      show wpAny _ A (load s.heap.objs.size >>= _) _ _ _
      exact wpAny_bind (wpAny_load hS' (wpAny_pure (hQ h' tk acc hk hi)))
    | again c' =>
      refine ⟨h.1, codeAny_mono h.2 fun rr s'' hr' => ?_⟩
      obtain ⟨rfl, h', tk, acc, c', rfl, hk, hS', hi⟩ := hr'
      show wpAny _ A (load s.heap.objs.size >>= _) _ _ _
      exact wpAny_bind (wpAny_load hS' (wpAny_pure (hQ h' tk acc hk hi)))
  · exact absurd h.1 (by simp)
theorem code_tuple_kdl {Q₁ : Value → Shared → Prop} (K : PySem.W.KdlSrc prog w T r d n P OK) (hh : A.handled = none) (hok : OK s.heap) (hn : n ≤ sizeLine)
    (h : ∀ (h' : Heap) (tk : Nat) (acc : Array Value), (∀ b o, s.heap.get? b = some o → h'.get? b = some o) → ItemsOf P acc n → Q₁ (.ref h'.objs.size) { s with heap := h'.push { cls := .type "tuple", data := .seq acc }, toks := tk }) :
    codeAny (model prog w) A (.call (.builtin "tuple.__new__") ⟨[.type "tuple", .ref r], []⟩) (wants Q₁ E) s := by
  refine codeAny_of_tree ?_
  show wpAny _ A.in1 (do checkBuiltinCall "tuple.__new__" ⟨[.type "tuple", .ref r], []⟩; again (.builtin "tuple.__new__" ⟨[.type "tuple", .ref r], []⟩)) _ _ s
  refine wpAny_bind (wpAny_of_eq (F.newCall_tuple_1 _) (wpAny_pure ⟨plainId_quiet F.plain_tuple_new _, codeAny_builtin F.entry_tuple_new ?_⟩))
  rw [Around.under_plainId F.plain_tuple_new _]
  have hsub := sub_tuple_self
  have hinit := init_tuple_lookup
  have hmh := madeHere_tuple
  have hTI : s.TypeIs (.ref r) T := K.type s hok
  have hnt : (Value.type T == Value.type "tuple") = false := K.notTuple
  have hh1 : A.in1.handled = none := hh
  wp_walk using wpAny_typeOf hTI, collect_kdl (A := A.in1) K hh1 hok hn
  intro h' tk acc hk hacc
  show wpAny _ _ (Builtin.Tuple.tupleExact acc.toList.toArray >>= fun v => ret v) _ _ _
  unfold Builtin.Tuple.tupleExact
  refine wpAny_bind (wpAny_newObj_type ?_ (by show acc.toList.toArray.size ≤ sizeLine; simp only [Array.toArray_toList]; rw [hacc.1]; exact hn))
  refine wpAny_pure ?_
  have e : acc.toList.toArray = acc := by simp
  rw [e]
  exact h h' tk acc hk hacc
theorem call_tuple_kdl {Q : Value → Shared → Prop} (K : PySem.W.KdlSrc prog w T r d n P OK) (hh : A.handled = none) (hok : OK s.heap) (hn : n ≤ sizeLine)
    (hQ : ∀ (h' : Heap) (tk : Nat) (acc : Array Value), (∀ b o, s.heap.get? b = some o → h'.get? b = some o) → ItemsOf P acc n → Q (.ref h'.objs.size) { s with heap := h'.push { cls := .type "tuple", data := .seq acc }, toks := tk }) :
    wpAny (model prog w) A (call (.type "tuple") [.ref r]) Q E s := by
  refine callType_codes (Q₁ := fun obj s₁ => s₁.TypeIs obj "tuple" ∧ Q obj s₁) F.called_tuple (F.typeCall_tuple_1 _) F.entry_object_init
    (code_tuple_kdl (A := A.in1) K hh hok hn fun h' tk acc hk hacc => ⟨⟨_, Heap.get?_push_size _ rfl, rfl⟩, hQ h' tk acc hk hacc⟩) fun obj s₁ h₁ => ?_
  exact ⟨h₁.1, F.args_object_init_2 obj _, object_init_meets F.called_tuple.init.lookup F.called_tuple.made (by decide) prog w A.in1 _ s₁ ⟨h₁.1, rfl, h₁.2⟩⟩
end
section
variable {X : Cx} {o : Expr} {x : Str} {p pos apos mpos : Pos} {td : TE}
def tTupVals (td : TE) : TE := fun σ H Q => td σ H fun x H1 => ∃ a kvs, x = V.ref a ∧ H1 a = some (.dK kvs) ∧ ∀ q, H1 q = none → Q (.ref q) (upd H1 q (.tup (kvs.map (·.2))))
theorem pe_tupVals (hc : X.calm = true) (hg : Gl X "tuple") (hm : X.mg "tuple" = none) (hd : PE X o td) (hbase : attributeBase o "values" X.env (eval o X.env) = eval o X.env := by rfl) (hline : (apos.endLine == mpos.line) = true := by rfl)
    (hse : starEach [Expr.Call (.Attribute o "values" apos) [] [] mpos] X.env = [(false, eval (Expr.Call (.Attribute o "values" apos) [] [] mpos) X.env)] := by rfl) :
    PE X (.Call (.Name "tuple" p) [.Call (.Attribute o "values" apos) [] [] mpos] [] pos) (tTupVals td) := by
  refine ⟨fun pins s σ H Q I h => ?_⟩
  refine wpAny_Call_Name_kw (ld_blt I hg hm (u := .type "tuple") (by first | rfl | decide +kernel) ?_ (by first | decide +kernel | decide) (by first | decide +kernel | decide))
  rw [hse]
  refine PySem.callWith_type1 (wpAny_Call_method0_late hbase hline (thn (hd.run pins s σ H _ I h) fun v s1 ⟨x, H1, I1, r1, a, kvs, ex, ha, q⟩ => ?_))
  subst ex
  obtain rfl : v = Value.ref a := r1
  obtain ⟨z, hsys, vs, rel, dof⟩ := dk_of I1.hok ha
  obtain ⟨ep, dat⟩ := dof.dictAt
  have dat' := dat
  obtain ⟨ob, es, ho, ex, hdat, hko, hpr, hnd⟩ := dat'
  refine ⟨"dict", "dict.values", F.plainAttrs_dict, F.slot_dict_values, F.type_dict_values, ⟨ob, ho, ex.1⟩, fun b e => ?_, Calls.callWith_builtin rfl (PySem.evalArgs_none ?_)⟩
  · cases e
    exact ⟨ob, ho, ex.2.1⟩
  refine call_meetsIn F.slot_dict_values ⟨ob, ho, ex.1⟩ F.entry_dict_values (F.args_dict_values_1 _) (meets_dict_values (mixKind X.prog X.w) a hsys) ⟨⟨vs, dof⟩, ?_⟩
  have k1 : ∀ b u, s1.heap.get? b = some u → (s1.heap.push { cls := .type "dict_values", data := .fields #[.ref a] }).get? b = some u := fun b u e => Heap.get?_push_of_some _ e
  have dat1 : (s1.heap.push { cls := .type "dict_values", data := .fields #[.ref a] }).DictAt (mixKind X.prog X.w) a vs ep := dat.keep k1
  have I2 : Inv X pins σ H1 { s1 with heap := s1.heap.push { cls := .type "dict_values", data := .fields #[.ref a] } } := I1.kept (t' := s1.toks) k1
  have hl : kvs.length = vs.length := KV.length rel
  refine call_tuple_kdl (s := { s1 with heap := s1.heap.push { cls := .type "dict_values", data := .fields #[.ref a] } }) (PySem.W.kdl_values (r := s1.heap.objs.size) (d := a) (knd := mixKind X.prog X.w) (kvs := vs) (ep := ep)) (I.ok.hd hc) ⟨⟨_, Heap.get?_push_size _ rfl, rfl, rfl⟩, dat1⟩ (by rw [← hl]; exact z) fun h' tk acc' hkeep hacc => ?_
  have I3 : Inv X pins σ H1 { s1 with heap := h', toks := tk } := I2.kept (t' := tk) hkeep
  have I4 : Inv X pins σ (upd H1 h'.objs.size (.tup (kvs.map (·.2)))) { s1 with heap := h'.push { cls := .type "tuple", data := .seq acc' }, toks := tk } := by
    refine I3.laid (t' := tk) (fun b u e => Heap.get?_push_of_some _ e) (Nat.le_refl _) ?_
    have el : acc'.toList.length = acc'.size := by simp
    have vv : Vals (kvs.map (·.2)) acc'.toList := vals_of_at (by rw [List.length_map, el, hacc.1, hl]) fun j y w h1 h2 => by
      obtain ⟨k, hky⟩ := hacc.2 j w (by rw [← Array.getElem?_toList]; exact h2)
      obtain ⟨y', e1, e2⟩ := KV.at' rel hky
      rw [List.getElem?_map, e1] at h1
      cases h1
      exact e2
    have it := IsTup.new h' acc'.toList.toArray
    rw [Array.toArray_toList] at it
    exact ⟨by rw [List.length_map]; exact z, acc'.toList, vv, by rw [Array.toArray_toList]; exact it⟩
  exact ⟨.ref h'.objs.size, _, I4, rfl, q _ (I3.hok.fresh (Nat.le_refl _))⟩
end
end Lt
set_option Elab.async false
set_option linter.all false
set_option autoImplicit false
set_option maxRecDepth 100000
set_option maxHeartbeats 8000000
namespace K04
open PySem PySem.Spec PyProof.Rows L2 Vb Wd Xd Xo Xe Xi Xm Xr Xv Ts K01 Ze Lt Ys
theorem walk_enumT {K : PySem.W.Frag} {a : Addr} {xs : List V} : Walk (Iue K a) xs.length (fun H => SqT K H a xs) (YPair (fun i => some (.int (i : Nat))) (fun i => xs[i]?)) := by
  refine ⟨fun i _ hi q => ⟨xs, xs[i], q, by simp [hi]⟩, fun _ q => ⟨xs, q, Nat.le_refl _⟩, fun i H v H' _ q y => ?_⟩
  obtain ⟨T, x, h1, h2, h3, h4⟩ := y
  exact ⟨T, .int (i : Nat), x, h1, h2, h3, rfl, h4 xs q⟩
/-- what was got of lines: the bare sort, the tops, the forms -/
abbrev Got := Option Str × Option (List Str) × List FD
/-- .. with a line more, if it can come -/
def takes (g : Got) (v : V) : Option Got :=
  if g.1 = none ∧ bareB (wordsV v) = true then some (some ((wordsV v).getD 1 ""), g.2.1, g.2.2)
  else if g.2.1 = none ∧ topsB (wordsV v) = true then some (g.1, some ((wordsV v).drop 1), g.2.2)
  else match readW (wordsV v) with
    | some d => if d.1 ∈ g.2.2.map (·.1) then none else some (g.1, g.2.1, g.2.2 ++ [d])
    | none => none
/-- .. of the first i lines -/
def readTo (vs : List V) : Nat → Option Got
  | 0 => some (none, none, [])
  | i + 1 => match readTo vs i, vs[i]? with
    | some g, some v => takes g v
    | _, _ => none
theorem readTo_step {vs : List V} {i : Nat} {g : Got} {v : V} (h : readTo vs i = some g) (hv : vs[i]? = some v) : readTo vs (i + 1) = takes g v := by
  show (match readTo vs i, vs[i]? with
    | some g, some v => takes g v
    | _, _ => none) = _
  rw [h, hv]
/-- a sort as a value -/
def bV : Option Str → V
  | some b => .str b
  | none => .non
def schG (g : Got) : Bool := schB (bV g.1) g.2.1 g.2.2
/-- the names that a line tells are among L -/
structure LineIn (L : List Str) (ws : List Str) : Prop where
  tops : topsB ws = true → ∀ y ∈ ws.drop 1, y ∈ L
  form : ∀ d, readW ws = some d → ∀ y ∈ saidBy d, y ∈ L
theorem FormAt.putD {H : Hp} {C D a ch : Addr} {n so : Str} {ts : List Addr} {cs : List (Str × Int)} {kvs kvs' : List (L2.Key × V)} (e : H D = some (.dK kvs)) (f : FormAt H C a ch n so ts cs) : FormAt (upd H D (.dK kvs')) C a ch n so ts cs := by
  have ne1 : ∀ {x : Addr} {o : HO}, H x = some o → (∀ k, o ≠ .dK k) → upd H D (.dK kvs') x = some o := fun {x o} h n => by
    rw [upd_ne (fun z => by rw [z, e] at h; exact n kvs (Option.some.inj h).symm)]
    exact h
  obtain ⟨⟨dx, h1⟩, k⟩ := f
  exact ⟨⟨dx, ne1 h1 (fun _ z => nomatch z)⟩, ne1 k.at_ (fun _ z => nomatch z), k.len, k.lo, k.hi, fun i t c h2 h3 => by
    have kk := k.kid i t c h2 h3
    exact ⟨ne1 kk.at_ (fun _ z => nomatch z), kk.nam, kk.plain, kk.lo, kk.hi⟩⟩
structure EnvL (P : Program) (w : World) (K : PySem.W.Frag) (mg : Str → Option Value) (base : Heap) (C CP : Addr) where
  gF : mg "Form" = some (.ref C)
  fL : Addr
  fdL : FuncData
  FL : FnE P w K mg base 8 fL fdL ["cls", "line"] (spFrom C CP)
  bL : Binds K fdL ["cls", "line"] []
  mc : Value
  pL : Addr
  rL : ClX.CRead K C mc
  cL : ClX.CMet K C mc "from_line" pL fL
abbrev s_S_from_lines : Stmt := inB (topS 24) 1
abbrev nFL : List Str := ["cls", "lines", "bare", "tops", "forms", "index", "line", "words"]
theorem sc_S_from_lines : FnScope nFL ["cls", "lines"] (defScope s_S_from_lines) := ⟨rfl, rfl, rfl, by decide +kernel, rfl, by decide +kernel, by decide +kernel⟩
/-- Scheme.from_lines, the lines in the tuple at p -/
def spFL0 (K : PySem.W.Frag) (C CS CI CP : Addr) : Sp := fun vs H Q E => ∃ (p : Addr) (ls : List V) (L : List Str), vs = [.ref CS, .ref p] ∧ H p = some (.tup ls) ∧ ls.length ≤ 40 ∧ L.length < 64 ∧ (∀ v ∈ ls, Judged H v ∧ (wordsV v).length ≤ 60 ∧ LineIn L (wordsV v)) ∧
  (∀ i g, i < ls.length → readTo ls i = some g → readTo ls (i + 1) = none → ∀ H' d, Same H H' → H' d = none → E (.ref CP) (some d) (upd H' d (.xd [("number", .int (i : Nat))]))) ∧
  ∀ g, readTo ls ls.length = some g → (∀ b ys, g.1 = some b → g.2.1 = some ys → schB (.str b) (some ys) g.2.2 = true → ∀ a H' ds', Same H H' → SchemeAt H' C CS a b ys ds' → ds'.Perm g.2.2 → Q (.ref a) H') ∧
    (schG g = false → ∀ H', Same H H' → E (.ref CI) none H')
/-- the tops so far -/
def TAt (K : PySem.W.Frag) (H : Hp) (tv : V) : Option (List Str) → Prop
  | some ys => TopsAt K H tv (some ys)
  | none => tv = .non
theorem TAt.same {K : PySem.W.Frag} {H H' : Hp} {tv : V} (s : Same H H') : ∀ {to : Option (List Str)}, TAt K H tv to → TAt K H' tv to
  | some _, ⟨t, e, h, r⟩ => ⟨t, e, s _ _ h, r⟩
  | none, h => h
/-- if a and b: .. -/
theorem if_and {ta tb : TT} {t u : TS} {D : Ends} {σ : L2.St} {H : Hp} {A B : Bool} (hA : ∀ Q : Bool → Hp → Prop, (∀ H', Same H H' → Q A H') → ta σ H Q) (hB : ∀ H', Same H H' → A = true → ∀ Q : Bool → Hp → Prop, (∀ H'', Same H' H'' → Q B H'') → tb σ H' Q)
    (h1 : (A && B) = true → ∀ H', Same H H' → t D σ H') (h2 : (A && B) = false → ∀ H', Same H H' → u D σ H') : tIfS (tAnd ta tb) t u D σ H := by
  refine hA _ fun H' s' => ?_
  cases A with
  | false => exact iteF (iteF (h2 rfl H' s'))
  | true =>
    refine iteT (hB H' s' rfl _ fun H'' s'' => ?_)
    cases B with
    | false => exact iteF (h2 rfl H'' (s'.trans s''))
    | true => exact iteT (h1 rfl H'' (s'.trans s''))
structure GotOk (L : List Str) (g : Got) : Prop where
  tops : ∀ ys, g.2.1 = some ys → ∀ y ∈ ys, y ∈ L
  form : ∀ d ∈ g.2.2, (∀ y ∈ saidBy d, y ∈ L) ∧ isNam (.str d.1) = true ∧ isNam (.str d.2.1) = true
  once : (g.2.2.map (·.1)).Nodup
/-- behind i lines -/
def FLInv (K : PySem.W.Frag) (H : Hp) (C CS p D : Addr) (ls : List V) (L : List Str) : Nat → L2.St → Hp → Prop := fun i σ H' => ∃ (g : Got) (ps : List (FD × Addr)) (tv : V) (o5 o6 o7 : Option V), readTo ls i = some g ∧ σ = [some (.ref CS), some (.ref p), some (bV g.1), some tv, some (.ref D), o5, o6, o7] ∧ Same H H' ∧ TAt K H' tv g.2.1 ∧
  H' D = some (.dK (kvsP ps)) ∧ ps.map (·.1) = g.2.2 ∧ (∀ q ∈ ps, ∃ ch ts, FormAt H' C q.2 ch q.1.1 q.1.2.1 ts q.1.2.2) ∧ GotOk L g ∧ ps.length ≤ i
section
variable {P : Program} {w : World} {K : PySem.W.Frag} {mg : Str → Option Value} {base : Heap} {C CS CI CP : Addr}
theorem ok_from_lines {f0 fP : Addr} {fd fdP : FuncData} {psP : List Str} (F : Fun K "from_lines" "Scheme.from_lines" s_S_from_lines f0 fd) (VF : EnvF P w K mg base C) (VS : EnvS P w K mg base C CS CI) (VL : EnvL P w K mg base C CP)
    (TP : EI K CP fP) (no : PySem.W.findIn K (.ref CP) "number" = some none) (FN : FnG P w K mg base 1 fP fdP psP (spSet K CP fP "number")) (bN : Binds K fdP psP []) (gP : mg "ParseError" = some (.ref CP))
    (hb : ∀ us rest : List Value, us.length = ["cls"].length → bindArgs fd ⟨us ++ rest, []⟩ = (newTuple rest >>= fun t => pure ((["cls"] : List Str).zip us ++ [(("lines" : Str), t)])))
    (G_words_of : Cg P w K mg base 1 "words_of" spWords) (G_is_bare_line : Cg P w K mg base 2 "_is_bare_line" (spBL K bareB)) (G_is_tops_line : Cg P w K mg base 3 "_is_tops_line" (spBL K topsB)) (G_is_form_line : Cg P w K mg base 3 "_is_form_line" (spFL K)) (z_tuple : mg "tuple" = none) (z_enumerate : mg "enumerate" = none) :
    FnS P w K mg base 9 f0 (fun vs H Q E => ∃ ws rest, vs = ws ++ rest ∧ ws.length = ["cls"].length ∧ rest.length ≤ sizeLine ∧ ∀ p, H p = Option.none → spFL0 K C CS CI CP (ws ++ [V.ref p]) (upd H p (.tup rest)) Q E) := by
  refine goes_star (ps := ["cls"]) (pv := "lines") F sc_S_from_lines hb (fun cdv A outer s H vs Q E hc hr tk h => ?_)
  obtain ⟨p, ls, L, rfl, hp, few, lL, hl, q1, q2⟩ := h
  refine ⟨_, (pss_cons (ps_set (i := 2) sc_S_from_lines.nd rfl (Or.inl rfl) pe_non)
    (pss_cons (ps_set (i := 3) sc_S_from_lines.nd rfl (Or.inl rfl) pe_non)
    (pss_cons (ps_set (i := 4) sc_S_from_lines.nd rfl (Or.inl rfl) pe_dnewK)
    (pss_cons (ps_for (passes_of rfl) rfl (pi_enumT (by rfl) z_enumerate (pa_cons (pv 1) pa_nil)) (pg_tup (by rfl) (pgs_cons (pg_name (i := 5) sc_S_from_lines.nd rfl (Or.inl rfl)) (pgs_cons (pg_name (i := 6) sc_S_from_lines.nd rfl (Or.inl rfl)) pgs_nil)))
      (pss_cons (ps_set (i := 7) sc_S_from_lines.nd rfl (Or.inl rfl) (pe_cg G_words_of hc hr (by rfl) (pa_cons (pv 6) pa_nil) (hx := pass0)))
      (pss_one (ps_if (PW.pt (pw_and (pt_cmpR op_isN (pv 2) pe_non (nomark _)) (pw_and1 (pt_val (pe_cg G_is_bare_line hc hr (by rfl) (pa_cons (pv 7) pa_nil) (hx := pass0))))))
        (pss_one (ps_set (i := 2) sc_S_from_lines.nd rfl (Or.inl rfl) (pe_ix (ix_tup : IxR _ (rIxT K)) (pv 7) pe_int (fun _ _ => rfl))))
        (pss_one (ps_if (PW.pt (pw_and (pt_cmpR op_isN (pv 3) pe_non (nomark _)) (pw_and1 (pt_val (pe_cg G_is_tops_line hc hr (by rfl) (pa_cons (pv 7) pa_nil) (hx := pass0))))))
          (pss_one (ps_set (i := 3) sc_S_from_lines.nd rfl (Or.inl rfl) (pe_slice (sl_tup : SlR _ (rSlT K)) (pv 7) (po_some pe_int) po_none)))
          (pss_one (ps_if (PW.pt (pw_and (pt_val (pe_cg G_is_form_line hc hr (by rfl) (pa_cons (pv 7) pa_nil) (hx := pass0))) (pw_and1 (pt_cmp (pc_dnotin (hu_of hr) (pe_ix (ix_tup : IxR _ (rIxT K)) (pv 7) pe_int (fun _ _ => rfl)) (pv 4)) (by rfl)))))
            (pss_one (ps_dput (hu_of hr) (pv 4) (pe_ix (ix_tup : IxR _ (rIxT K)) (pv 7) pe_int (fun _ _ => rfl)) (pe_cmethE (E := fun _ _ _ => False) (pe_glob (v := .ref C) (by rfl) VL.gF rfl) VL.rL VL.cL VL.FL VL.bL hc hr tk (fun _ _ _ _ z => z.elim) (pa_cons (pv 6) pa_nil)) (by rfl)))
            (pss_one (ps_raise (by rfl) tk (pmk_E (f := "number") TP no FN hc (hr.mono (by decide)) bN (by rfl) gP (pa_cons (pv 5) pa_nil))))))))))))
    (pss_one (ps_ret (pe_makeL (i := 0) (E := E) VS.M VS.FI hc (hr.mono (by decide)) rfl (Or.inl rfl) VS.bI tk (fun _ _ _ _ z => z) (pa_cons (pv 2) (pa_cons (pv 3) (pa_cons (pe_tupVals rfl (by rfl) z_tuple (pv 4)) pa_nil)))))))))), ?_⟩
  have big : ∀ {n : Nat}, n ≤ 200 → n < sizeLine := fun h => Nat.lt_of_le_of_lt h (by decide)
  refine fun D nD => ⟨_, rfl, p, ls, rfl, .inl (.inl (same_new nD _ _ hp)), for_it (walk_enumT (K := K) (xs := ls)) (FLInv K H C CS p D ls L) ?_ ?_ ?_ ?_⟩
  · exact ⟨(none, none, []), [], .non, none, none, none, rfl, rfl, same_new nD, rfl, upd_same, rfl, (fun q hq => absurd hq List.not_mem_nil), ⟨(fun _ z => by cases z), (fun _ z => absurd z List.not_mem_nil), List.nodup_nil⟩, Nat.le_refl _⟩
  · rintro i σ H' hi ⟨g, ps, tv, o5, o6, o7, _, _, sm, _⟩
    exact .inl (.inl (sm _ _ hp))
  · rintro i x σ H1 H2 hi ⟨g, ps, tv, o5, o6, o7, hg, rfl, sm, ht, hD, hps, hf, ok, hl1⟩ ⟨T, x1, y, rfl, nT, rfl, e1, e2⟩
    obtain rfl : V.int (i : Nat) = x1 := Option.some.inj e1
    obtain ⟨jd, w60, lin⟩ := hl y (List.mem_of_getElem? e2)
    have st := same_new (o := .tup [.int (i : Nat), y]) nT
    have nx := readTo_step hg e2
    refine ⟨T, _, rfl, .inl (.inl upd_same), rfl, _, _, rfl, _, _, rfl, rfl, ?_⟩
    refine ⟨_, rfl, y, rfl, (jd.same sm).same st, fun q H3 s3 hq => ?_⟩
    obtain ⟨pl, few2⟩ := words_plain (jd.same sm)
    unfold takes at nx
    generalize ew : wordsV y = ws at hq pl few2 w60 lin nx
    have s13 : Same H1 H3 := st.trans s3
    have hD3 : H3 D = some (.dK (kvsP ps)) := s13 _ _ hD
    have hT : ∀ {H' : Hp}, Same H3 H' → SqT K H' q (ws.map V.str) := fun s => .inl (.inl (s _ _ hq))
    have keepF : ∀ {H' : Hp}, Same H3 H' → ∀ q ∈ ps, ∃ ch ts, FormAt H' C q.2 ch q.1.1 q.1.2.1 ts q.1.2.2 := fun s q' hq' => by
      obtain ⟨ch, ts, FA⟩ := hf q' hq'
      exact ⟨ch, ts, (FA.sm s13).sm s⟩
    have isb : decide (bV g.1 = V.non) = decide (g.1 = none) := by
      cases g.1 <;> simp [bV]
    unfold gName
    dsimp only
    refine if_and (A := decide (bV g.1 = V.non)) (B := bareB ws) (fun Q' q' => ⟨_, rfl, rfl, _, rfl, q' _ (Same.refl _)⟩) (fun H4 s4 _ Q' q' => ⟨_, rfl, q, ws, rfl, s4 _ _ hq, pl, w60, fun H5 s5 => ⟨_, rfl, q' H5 s5⟩⟩) (fun e H4 s4 => ?_) (fun e H4 s4 => ?_)
    · rw [isb, Bool.and_eq_true, decide_eq_true_eq] at e
      rw [if_pos e] at nx
      have h2 : ws.length = 2 := by
        have z := e.2
        unfold bareB at z
        simp only [Bool.and_eq_true, decide_eq_true_eq] at z
        exact z.1
      have a1 : atI (ws.map V.str) 1 = some (.str (ws.getD 1 "")) := at_str (j := 1) (by omega)
      refine ⟨_, rfl, q, _, _, _, rfl, rfl, hT s4, a1, ?_⟩
      refine ⟨_, ps, tv, _, _, _, nx, rfl, (sm.trans s13).trans s4, ?_, s4 _ _ hD3, hps, keepF s4, ⟨ok.tops, ok.form, ok.once⟩, Nat.le_succ_of_le hl1⟩
      exact ht.same (s13.trans s4)
    · have n1 : ¬ (g.1 = none ∧ bareB ws = true) := fun z => by
        rw [isb, decide_eq_true z.1, z.2] at e
        cases e
      rw [if_neg n1] at nx
      have ist : decide (tv = V.non) = decide (g.2.1 = none) := by
        cases eg : g.2.1 with
        | none =>
          rw [eg] at ht
          have ht : tv = .non := ht
          subst ht
          rfl
        | some ys =>
          rw [eg] at ht
          obtain ⟨t, rfl, _⟩ := ht
          rfl
      refine if_and (A := decide (tv = V.non)) (B := topsB ws) (fun Q' q' => ⟨_, rfl, rfl, _, rfl, q' _ (Same.refl _)⟩) (fun H5 s5 _ Q' q' => ⟨_, rfl, q, ws, rfl, s5 _ _ (s4 _ _ hq), pl, w60, fun H6 s6 => ⟨_, rfl, q' H6 s6⟩⟩) (fun e H5 s5 => ?_) (fun e H5 s5 => ?_)
      · rw [ist, Bool.and_eq_true, decide_eq_true_eq] at e
        rw [if_pos e] at nx
        have tb := e.2
        unfold topsB at tb
        simp only [Bool.and_eq_true, decide_eq_true_eq] at tb
        have s35 := s4.trans s5
        refine ⟨_, rfl, _, rfl, q, _, rfl, hT s35, ?_, fun t nt => ?_⟩
        · intro z
          have e : HT.sIx (ws.map V.str).length 0 (some 1) = min 1 (ws.map V.str).length := HT.sIx_nat _ _ 1
          rw [e, List.length_map] at z
          have := z.1
          omega
        · rw [cut1] at *
          have sn := same_new (o := .tup ((ws.drop 1).map V.str)) nt
          have s3n := s35.trans sn
          refine ⟨_, ps, .ref t, _, _, _, nx, rfl, (sm.trans s13).trans s3n, ⟨t, rfl, upd_same, fun y hy => pl y (List.mem_of_mem_drop hy), by rw [List.length_drop]; omega, ?_⟩, s3n _ _ hD3, hps, keepF s3n, ⟨fun ys z => ?_, ok.form, ok.once⟩, Nat.le_succ_of_le hl1⟩
          · rw [Bool.and_eq_true]
            exact ⟨tb.2.2.1, tb.2.2.2⟩
          · cases z
            exact lin.tops e.2
      · have n2 : ¬ (g.2.1 = none ∧ topsB ws = true) := fun z => by
          rw [ist, decide_eq_true z.1, z.2] at e
          cases e
        rw [if_neg n2] at nx
        have s35 := s4.trans s5
        have five : formB ws = true → 5 ≤ ws.length ∧ isNam (.str (ws.getD 1 "")) = true ∧ isNam (.str (ws.getD 2 "")) = true := fun z => by
          unfold formB at z
          simp only [Bool.and_eq_true, decide_eq_true_eq, List.all_eq_true] at z
          exact ⟨z.1.1.1.1.1, z.1.1.2, z.1.2⟩
        have a1 : formB ws = true → atI (ws.map V.str) 1 = some (.str (ws.getD 1 "")) := fun z => at_str (j := 1) (by have := (five z).1; omega)
        refine if_and (A := formB ws) (B := !(valV (kvsP ps) (Sum.inr (ws.getD 1 ""))).isSome) (fun Q' q' => ⟨_, rfl, q, ws, rfl, s35 _ _ hq, pl, Nat.le_trans few2 (by decide), fun H6 s6 => ⟨_, rfl, q' H6 s6⟩⟩)
          (fun H6 s6 ef Q' q' => ⟨_, rfl, q, _, _, _, rfl, rfl, hT (s35.trans s6), a1 ef, _, rfl, D, _, rfl, DGet.k (k := Sum.inr (ws.getD 1 "")) (s6 _ _ (s35 _ _ hD3)), _, rfl, q' _ (Same.refl _)⟩) (fun e H6 s6 => ?_) (fun e H6 s6 => ?_)
        · simp only [Bool.and_eq_true, Bool.not_eq_true'] at e
          obtain ⟨ef, en⟩ := e
          obtain ⟨f5, fn1, fn2⟩ := five ef
          have er : readW ws = some (ws.getD 1 "", ws.getD 2 "", (ws.drop 3).map childV) := by
            unfold readW
            rw [if_pos ef]
          have hv : valV (kvsP ps) (Sum.inr (ws.getD 1 "")) = none := by
            cases ev : valV (kvsP ps) (Sum.inr (ws.getD 1 "")) with
            | none => rfl
            | some v =>
              rw [ev] at en
              cases en
          have nin : ws.getD 1 "" ∉ ps.map (·.1.1) := fun z => by
            refine valV_not hv ?_
            obtain ⟨p', hp', e'⟩ := List.mem_map.mp z
            exact List.mem_map.mpr ⟨(Sum.inr p'.1.1, V.ref p'.2), List.mem_map.mpr ⟨p', hp', rfl⟩, by rw [e']⟩
          have gin : ws.getD 1 "" ∉ g.2.2.map (·.1) := by
            rw [← hps, List.map_map]
            exact nin
          rw [er] at nx
          have nx : readTo ls (i + 1) = some (g.1, g.2.1, g.2.2 ++ [(ws.getD 1 "", ws.getD 2 "", (ws.drop 3).map childV)]) := by
            rw [nx]
            exact if_neg gin
          have s36 := s35.trans s6
          refine ⟨rfl, _, rfl, y, rfl, ((jd.same sm).same s13).same s36, fun n so cs hr a ch ts H7 s7 FA => ?_, fun hn => ?_⟩
          · rw [ew, er] at hr
            cases hr
            have s37 := s36.trans s7
            have hD7 : H7 D = some (.dK (kvsP ps)) := s37 _ _ hD3
            refine ⟨_, rfl, _, rfl, q, _, _, _, rfl, rfl, hT s37, a1 ef, D, _, rfl, DPut.k (k := Sum.inr (ws.getD 1 "")) hD7 (by unfold kvsP; rw [List.length_map]; exact big (by omega)), ?_⟩
            have ek := kvsP_put (ps := ps) (p := ((ws.getD 1 "", ws.getD 2 "", (ws.drop 3).map childV), a)) nin
            have sHD : Same H (upd H7 D (.dK (putK (kvsP ps) (Sum.inr (ws.getD 1 "")) (V.ref a)))) := same_put nD ((sm.trans s13).trans s37)
            refine ⟨_, ps ++ [((ws.getD 1 "", ws.getD 2 "", (ws.drop 3).map childV), a)], tv, _, _, _, nx, rfl, sHD, ?_, by rw [upd_same]; exact congrArg (fun z => some (HO.dK z)) ek, by rw [List.map_append, hps]; rfl, fun q' hq' => ?_, ⟨ok.tops, fun d hd => ?_, ?_⟩, by rw [List.length_append]; exact Nat.succ_le_succ hl1⟩
            · have ht7 := ht.same (s13.trans s37)
              cases eg : g.2.1 with
              | none =>
                rw [eg] at ht7
                exact ht7
              | some ys =>
                rw [eg] at ht7
                obtain ⟨t, et, h1, r⟩ := ht7
                refine ⟨t, et, ?_, r⟩
                rw [upd_ne (fun z => by rw [z, hD7] at h1; cases h1)]
                exact h1
            · rcases List.mem_append.mp hq' with hq' | hq'
              · obtain ⟨ch', ts', FA'⟩ := keepF s37 q' hq'
                exact ⟨ch', ts', FA'.putD hD7⟩
              · obtain rfl := List.mem_singleton.mp hq'
                exact ⟨ch, ts, FA.putD hD7⟩
            · rcases List.mem_append.mp hd with hd | hd
              · exact ok.form d hd
              · obtain rfl := List.mem_singleton.mp hd
                exact ⟨lin.form _ er, fn1, fn2⟩
            · show ((g.2.2 ++ [(ws.getD 1 "", ws.getD 2 "", (ws.drop 3).map childV)]).map (·.1)).Nodup
              rw [List.map_append]
              exact List.nodup_append.mpr ⟨ok.once, by simp, fun a ha b hb => by
                obtain rfl := List.mem_singleton.mp hb
                exact fun z => gin (by
                  have z : a = ws.getD 1 "" := z
                  rw [← z]
                  exact ha)⟩
          · rw [ew, er] at hn
            cases hn
        · have nn : readTo ls (i + 1) = none := by
            rw [nx]
            unfold readW
            cases ef : formB ws with
            | false => rfl
            | true =>
              rw [ef] at e
              have hs : (valV (kvsP ps) (Sum.inr (ws.getD 1 ""))).isSome = true := by
                cases ev : (valV (kvsP ps) (Sum.inr (ws.getD 1 ""))).isSome with
                | true => rfl
                | false =>
                  rw [ev] at e
                  cases e
              obtain ⟨v, hv⟩ := Option.isSome_iff_exists.mp hs
              have m := valV_in hv
              have gin : ws.getD 1 "" ∈ g.2.2.map (·.1) := by
                rw [← hps]
                obtain ⟨kv, hkv, ekv⟩ := List.mem_map.mp m
                obtain ⟨p', hp', rfl⟩ := List.mem_map.mp hkv
                have ekv : p'.1.1 = ws.getD 1 "" := Sum.inr.inj ekv
                exact List.mem_map.mpr ⟨p'.1, List.mem_map.mpr ⟨p', hp', rfl⟩, ekv⟩
              exact if_pos gin
          refine ⟨_, rfl, _, rfl, fun d nd => q1 i g hi hg nn H6 d ((sm.trans s13).trans (s35.trans s6)) nd⟩
  · rintro σ H' ⟨g, ps, tv, o5, o6, o7, hg, rfl, sm, ht, hD, hps, hf, ok, hl1⟩
    obtain ⟨r1, r2⟩ := q2 g hg
    refine ⟨rfl, _, rfl, _, rfl, _, rfl, D, kvsP ps, rfl, hD, fun t nt x dx nx ndx ne => ?_⟩
    have st := same_new (o := .tup ((kvsP ps).map (·.2))) nt
    have sx : Same (upd H' t (.tup ((kvsP ps).map (·.2)))) (upd (upd (upd H' t (.tup ((kvsP ps).map (·.2)))) dx (.own x)) x (.ins CS dx [])) := fun b o e => by
      rw [upd_ne (ne_of_none e nx), upd_ne (ne_of_none e ndx)]
      exact e
    have sall := st.trans sx
    have ek : (kvsP ps).map (·.2) = (ps.map (·.2)).map V.ref := by
      unfold kvsP
      rw [List.map_map, List.map_map]
      rfl
    have hx0 : H x = none := by
      cases e : H x with
      | none => rfl
      | some o =>
        have := st _ _ (sm _ _ e)
        rw [nx] at this
        cases this
    refine ⟨x, dx, t, bV g.1, tv, g.2.1, ps.map (·.2), g.2.2, L, rfl, upd_same, ⟨?_, ?_, ?_, ⟨?_, fun k a d h1 h2 => ?_⟩, ?_, ?_, lL, fun d hd => (ok.form d hd).2⟩, fun b ys e1 e2 e3 H2 ds' bt S pm => ⟨rfl, ?_⟩, fun e H2 s2 => r2 e H2 ((sm.trans sall).trans s2)⟩
    · cases g.1 <;> rfl
    · cases eg : g.2.1 with
      | none =>
        rw [eg] at ht
        have ht : tv = .non := ht
        subst ht
        exact .inr (.inl ⟨"NoneType", .base .non, by decide +kernel, rfl⟩)
      | some ys =>
        rw [eg] at ht
        obtain ⟨t', e1, h1, r⟩ := ht
        exact ⟨t', e1, sall _ _ h1, r⟩
    · have := sx _ _ (upd_same (H := H') (a := t) (o := .tup ((kvsP ps).map (·.2))))
      rw [ek] at this ⊢
      exact this
    · rw [List.length_map, ← hps, List.length_map]
    · rw [← hps, List.getElem?_map] at h2
      rw [List.getElem?_map] at h1
      obtain ⟨q', hq', rfl⟩ := Option.map_eq_some_iff.mp h1
      rw [hq'] at h2
      cases h2
      obtain ⟨ch, ts, FA⟩ := hf q' (List.mem_of_getElem? hq')
      exact ⟨ch, ts, FA.sm sall⟩
    · rw [List.length_map]
      omega
    · intro ys e y hy
      rcases List.mem_append.mp hy with hy | hy
      · exact ok.tops ys e y hy
      · unfold said at hy
        obtain ⟨d, hd, hy⟩ := List.mem_flatMap.mp hy
        exact (ok.form d hd).1 y hy
    · have g1 : g.1 = some b := by
        cases eb : g.1 with
        | none =>
          rw [eb] at e1
          cases e1
        | some b' =>
          rw [eb] at e1
          cases e1
          rfl
      refine r1 b ys g1 e2 (by rw [← e1, ← e2]; exact e3) x H2 ds' (fun b' o e => bt b' o (ne_of_none e hx0) (sall _ _ (sm _ _ e))) S pm
end
end K04
set_option Elab.async false
set_option linter.all false
set_option autoImplicit false
set_option maxRecDepth 100000
set_option maxHeartbeats 4000000
namespace K04
open PySem PySem.Spec PyProof.Rows L2 Vb Wd
/-! ### the law's own words -/
def Low (z : Str) : Prop := ∀ c ∈ z.cps.toList, low c = true
theorem low_join {ys : List Str} (a : ∀ y ∈ ys, Low y) : Low (Txt.join (Str.ofString "") ys) := fun c hc => by
  rw [TL.join_eq] at hc
  have e : (Str.join (Str.ofString "") ys).cps.toList = TL.joinL [] (ys.map TL.tl) := TL.tl_join (Str.ofString "") ys
  rw [e] at hc
  obtain ⟨p, hp, hc⟩ := mem_joinL hc
  obtain ⟨y, hy, rfl⟩ := List.mem_map.mp hp
  exact a y hy c hc
theorem low_asc {z : Str} (h : Low z) : Asc z := fun c hc => by
  have := h c hc
  unfold low at this
  simp only [Bool.and_eq_true, decide_eq_true_eq] at this
  omega
theorem low_nam {z : Str} (h : Low z) (h1 : 1 ≤ z.length) (h8 : z.length ≤ 8) : isNam (.str z) = true := by
  rw [isNam_str, decide_eq_true h1, decide_eq_true h8, List.all_eq_true.mpr h]
  rfl
def spName : Sp := fun vs H Q _ => ∃ d, vs = [.ref d] ∧ Dice H d ∧ ∀ z H', Past d H H' → isNam (.str z) = true → Q (.str z) H'
section
variable {P : Program} {w : World} {K : PySem.W.Frag} {mg : Str → Option Value} {base : Heap}
theorem ok_l_is_name (D : Df K mg "_law_is_name" s_l_is_name ["_law_word"]) (z_len : mg "len" = none) : Cg P w K mg base 1 "_law_is_name" spNam := by
  refine D.ok sc_l_is_name (fun vs H Q E h => ?_) (fun cdv A outer s H vs Q E f hc hr h => ?_)
  · obtain ⟨z, rfl, _⟩ := h
    rfl
  · obtain ⟨z, rfl, hz, az, q⟩ := h
    refine ⟨_, (pss_one (ps_ret (pe_and (pe_chain op_le op_le pe_int (pe_callB call_len (by rfl) z_len (by decide +kernel) (pa_cons (pv 0) pa_nil)) pe_int) (pe_one (pe_cmpR (op_eqD hr.units) (pe_lc (own := [("_law_sign", 1)]) (g := gName 1) (by rfl) sc_l_is_name.nd (pi_str (pv 0)) (blkOk_by (own := [("_law_sign", 1)]) (N := ["_law_word", "_law_sign"]) (sc := defScope s_l_is_name) (by decide +kernel)) (fun _ _ _ _ _ => pg_name (i := 1) sc_l_is_name.nd rfl (Or.inl rfl)) (fun _ _ _ _ _ => (pts_one (PW.pt (pw_or (pt_cmpR op_lt_str (pv 1) pe_str (nomark _)) (pw_or1 (pt_cmpR op_gt_str (pv 1) pe_str (nomark _))))))) (fun _ _ _ _ _ => (pv 1))) (pe_lst pa_nil) (nomark _)))))), ?_⟩
    have q' := q H (Same.refl H)
    rw [isNam_str] at q'
    refine ⟨_, rfl, _, z.length, rfl, ⟨fits_million (by omega), rfl⟩, _, _, rfl, rfl, _, rfl, ite2 (fun e1 => ⟨_, _, rfl, rfl, _, rfl, ite2 (fun e8 => ?_) (fun e8 => ?_)⟩) (fun e1 => ⟨_, rfl, iteF ?_⟩)⟩
    · have h1 := of_decide_eq_true e1
      have h8' := of_decide_eq_true e8
      have h0 : ¬ (z.length : Int) = 0 := by omega
      have h8 : ¬ (8 : Int) < z.length := by omega
      have el : z.cps.toList.length = z.length := by simp [Str.length]
      refine ⟨_, rfl, z, rfl, fun D nD => lc_it walk_str (fun i H' => H' = upd H D (.lst (odd1 (z.cps.toList.take i)))) rfl (fun _ _ _ _ => trivial) (fun i x H1 H' hi e1 y => ?_) (fun H' e1 => ?_)⟩
      · obtain ⟨rfl, c, hc, rfl⟩ := y
        subst e1
        have hc' : z.cps.toList[i]? = some c := by simpa using hc
        have s1 : odd1 (z.cps.toList.take (i + 1)) = odd1 (z.cps.toList.take i) ++ (if low c = true then [] else [V.str ⟨#[c]⟩]) := by
          rw [List.take_add_one, hc']
          exact odd1_snoc _ c
        have room : (odd1 (z.cps.toList.take i)).length < sizeLine := by
          have l1 := odd1_len (z.cps.toList.take i)
          rw [List.length_take] at l1
          have : 1000 < sizeLine := by decide
          omega
        refine ⟨rfl, _, rfl, _, _, rfl, rfl, _, rfl, ite2 (fun e => ?_) (fun e => ⟨_, rfl, _, _, rfl, rfl, _, rfl, ?_⟩)⟩
        · have lt : c < 97 := of_decide_eq_true ((one_lt c 97).symm.trans e)
          have lc : low c = false := by
            unfold low
            rw [decide_eq_false (by omega)]
            rfl
          rw [lc] at s1
          refine ⟨_, rfl, _, upd_same, room, ?_⟩
          rw [s1, upd_upd]
          rfl
        · have ge : ¬ c < 97 := fun n => e ((one_lt c 97).trans (decide_eq_true n))
          show (if decide ([122] < [c]) = true then _ else _)
          rw [one_lt]
          refine ite2 (fun e2 => ?_) (fun e2 => ?_)
          · have gt := of_decide_eq_true e2
            have lc : low c = false := by
              unfold low
              rw [decide_eq_false (show ¬ c ≤ 122 by omega), Bool.and_false]
            rw [lc] at s1
            refine ⟨_, rfl, _, upd_same, room, ?_⟩
            rw [s1, upd_upd]
            rfl
          · have le : ¬ 122 < c := fun n => e2 (decide_eq_true n)
            have lc : low c = true := by
              unfold low
              rw [decide_eq_true (show 97 ≤ c by omega), decide_eq_true (show c ≤ 122 by omega)]
              rfl
            rw [lc] at s1
            rw [s1]
            simp
      · subst e1
        have full : z.cps.toList.take z.cps.size = z.cps.toList := List.take_of_length_le (by simp)
        rw [full]
        refine ⟨Nat.zero_le _, fun p np => ?_⟩
        have s2 := same_new (o := .lst []) np
        have as1 : ∀ y ∈ ((z.cps.toList.filter (fun c => !low c)).map fun c => (⟨#[c]⟩ : Str)), Asc y := fun y hy => by
          obtain ⟨c, hc, rfl⟩ := List.mem_map.mp hy
          exact asc_one az (List.mem_filter.mp hc).1
        have eo : odd1 z.cps.toList = ((z.cps.toList.filter (fun c => !low c)).map fun c => (⟨#[c]⟩ : Str)).map V.str := by
          unfold odd1
          rw [List.map_map]
          rfl
        refine ⟨_, .list [], .lst (.inl (.inl (s2 _ _ upd_same))) (eo ▸ dp_strs _), .lst (.inl (.inl upd_same)) .nil, shaped_strs as1, by decide, ?_⟩
        have ev : PyData.eqv (.list (((z.cps.toList.filter (fun c => !low c)).map fun c => (⟨#[c]⟩ : Str)).map PyData.str)) (.list []) = z.cps.toList.all low := by
          rw [← odd1_nil, eo]
          cases ((z.cps.toList.filter (fun c => !low c)).map fun c => (⟨#[c]⟩ : Str)) <;> rfl
        rw [ev]
        have q2 := q _ ((same_new nD).trans s2)
        rw [isNam_str, decide_eq_true (show 1 ≤ z.length by omega), decide_eq_true (show z.length ≤ 8 by omega), Bool.true_and, Bool.true_and] at q2
        exact q2
    · have h8 : ¬ (z.length : Int) ≤ 8 := fun n => e8 (decide_eq_true n)
      rw [decide_eq_false (show ¬ z.length ≤ 8 by omega), Bool.and_false, Bool.false_and] at q'
      exact q'
    · have h1 : ¬ (1 : Int) ≤ z.length := fun n => e1 (decide_eq_true n)
      rw [decide_eq_false (show ¬ 1 ≤ z.length by omega), Bool.false_and, Bool.false_and] at q'
      exact q'
end
end K04
set_option Elab.async false
set_option linter.all false
set_option autoImplicit false
set_option maxRecDepth 100000
set_option maxHeartbeats 4000000
namespace K04
open PySem PySem.Spec PyProof.Rows L2 Vb Wd
abbrev s_l_form_in : Stmt := topS 44
theorem sc_l_form_in : FnScope ["_law_words", "_law_word"] ["_law_words"] (defScope s_l_form_in) := ⟨rfl, rfl, rfl, by decide +kernel, rfl, by decide +kernel, by decide +kernel⟩
/-- what the law's own reader tells -/
def Told1 (H : Hp) : Option (Str × Str × List (Str × Int)) → V → Prop
  | none, v => v = .non
  | some (n, so, cs), v => ∃ p ch ts, v = .ref p ∧ H p = some (.tup [.str n, .str so, .ref ch]) ∧ Kids H ch ts cs
def formF (ws : List Str) : Bool := decide (4 ≤ ws.length) && (decide (ws.length ≤ 6) && (isNam (.str (ws.getD 0 "")) && (isNam (.str (ws.getD 1 "")) && (ws.drop 2).all childB)))
def readF (ws : List Str) : Option (Str × Str × List (Str × Int)) := if formF ws = true then some (ws.getD 0 "", ws.getD 1 "", (ws.drop 2).map childV) else none
def spForm1 (K : PySem.W.Frag) : Sp := fun vs H Q _ => ∃ (a : Addr) (ws : List Str), vs = [.ref a] ∧ SqL K H a (ws.map V.str) ∧ (H a = some (.lst (ws.map V.str))) ∧ Plain ws ∧ ws.length ≤ 60 ∧ ∀ v H', Same H H' → Told1 H' (readF ws) v → Q v H'
theorem cut2 {α : Type} (f : α → V) (ws : List α) : cutV (ws.map f) (some 2) none = (ws.drop 2).map f := by
  unfold cutV
  have e : HT.sIx (ws.map f).length 0 (some 2) = min 2 (ws.map f).length := HT.sIx_nat _ _ 2
  rw [e, HT.sIx_none, List.length_map]
  by_cases h : ws.length ≤ 2
  · rw [Nat.min_eq_right h, List.drop_of_length_le (by rw [List.length_map]; exact Nat.le_refl _), List.drop_of_length_le h, List.take_nil]
    rfl
  · rw [Nat.min_eq_left (by omega), List.take_of_length_le (by rw [List.length_drop, List.length_map]; exact Nat.le_refl _), List.map_drop]
theorem child_short {y : Str} (h : y.length < 2) : childB y = false := by
  have e : isNam (.str (initS y)) = false := by
    cases e : isNam (.str (initS y)) with
    | false => rfl
    | true =>
      have h1 := (nam_len e).1
      have h2 : (initS y).length ≤ y.length - 1 := by
        unfold initS cutS
        simp only [Str.length]
        have e1 : HT.sIx y.cps.size 0 none = 0 := rfl
        have e2 : HT.sIx y.cps.size y.cps.size (some (-1)) = y.cps.size - 1 := by
          show ((-1 : Int) + (y.cps.size : Int)).toNat = _
          omega
        simp only [Str.length] at *
        rw [e1, e2, List.drop_zero, Nat.sub_zero]
        simp only [List.size_toArray, List.length_take]
        omega
      omega
  unfold childB
  rw [e]
  rfl
theorem digC_of {y : Str} {c : Nat} (h : lastC y = some c) : digC y = (decide (48 ≤ c) && decide (c ≤ 51)) := by
  unfold digC
  rw [h]
theorem dig_mem (c : Nat) : (c ∈ ("0123" : Str).cps.toList) ↔ (48 ≤ c ∧ c ≤ 51) := by
  have e : ("0123" : Str).cps.toList = [48, 49, 50, 51] := by decide +kernel
  rw [e]
  simp only [List.mem_cons, List.not_mem_nil, or_false]
  omega
section
variable {P : Program} {w : World} {K : PySem.W.Frag} {mg : Str → Option Value} {base : Heap}
theorem ok_l_form_in (D : Df K mg "_law_form_in" s_l_form_in ["_law_words"]) (G_l_is_name : Cg P w K mg base 1 "_law_is_name" spNam) (z_len : mg "len" = none) (z_int : mg "int" = none) (z_tuple : mg "tuple" = none) : Cg P w K mg base 2 "_law_form_in" (spForm1 K) := by
  refine D.ok sc_l_form_in (fun vs H Q E h => ?_) (fun cdv A outer s H vs Q E f hc hr h => ?_)
  · obtain ⟨a, ws, rfl, _⟩ := h
    rfl
  · obtain ⟨p, ws, rfl, _, hp, pl, few, q⟩ := h
    refine ⟨_, (pss_cons (ps_if (PW.pt (pw_or (pt_cmpR op_lt (pe_callB call_len_seq (by rfl) z_len PySem.boot_len (pa_cons (pv 0) pa_nil)) pe_int (nomark _)) (pw_or (pt_cmpR op_gt (pe_callB call_len_seq (by rfl) z_len PySem.boot_len (pa_cons (pv 0) pa_nil)) pe_int (nomark _)) (pw_or (pt_not (pt_val (pe_cg G_l_is_name hc hr (by rfl) (pa_cons (pe_ix (ix_list : IxR _ (rIxL K)) (pv 0) pe_int (fun _ _ => rfl)) pa_nil)))) (pw_or1 (pt_not (pt_val (pe_cg G_l_is_name hc hr (by rfl) (pa_cons (pe_ix (ix_list : IxR _ (rIxL K)) (pv 0) pe_int (fun _ _ => rfl)) pa_nil)))))))))
      (pss_one (ps_ret pe_non))
      pss_nil)
      (pss_cons (ps_for PassesOwn.never rfl (pi_list (pe_slice (sl_list : SlR _ (rSlL K)) (pv 0) (po_some pe_int) po_none)) (pg_name (i := 1) sc_l_form_in.nd rfl (Or.inl rfl))
      (pss_one (ps_if (PW.pt (pw_or (pt_cmpR op_lt (pe_callB call_len (by rfl) z_len (by decide +kernel) (pa_cons (pv 1) pa_nil)) pe_int (nomark _)) (pw_or (pt_cmpR op_notIn_sign (pe_ix ix_str (pv 1) (pe_un un_neg pe_int) (fun _ _ => rfl)) pe_str (by rfl)) (pw_or1 (pt_not (pt_val (pe_cg G_l_is_name hc hr (by rfl) (pa_cons (pe_slice sl_str (pv 1) po_none (po_some (pe_un un_neg pe_int))) pa_nil))))))))
      (pss_one (ps_ret pe_non))
      pss_nil)))
      (pss_one (ps_ret (pe_tup (pa_cons (pe_ix (ix_list : IxR _ (rIxL K)) (pv 0) pe_int (fun _ _ => rfl)) (pa_cons (pe_ix (ix_list : IxR _ (rIxL K)) (pv 0) pe_int (fun _ _ => rfl)) (pa_cons (pe_callTy (cr_tuple : CallR _ _ (rTup K)) (by rfl) z_tuple (by decide +kernel) (pa_cons (pe_lc (own := [("_law_word", 1)]) (g := gName 1) (by rfl) sc_l_form_in.nd (pi_list (pe_slice (sl_list : SlR _ (rSlL K)) (pv 0) (po_some pe_int) po_none)) (blkOk_by (own := [("_law_word", 1)]) (N := ["_law_words", "_law_word"]) (sc := defScope s_l_form_in) (by decide +kernel)) (fun _ _ _ _ _ => pg_name (i := 1) sc_l_form_in.nd rfl (Or.inl rfl)) (fun _ _ _ _ _ => pts_nil) (fun _ _ _ _ _ => (pe_tup (pa_cons (pe_slice sl_str (pv 1) po_none (po_some (pe_un un_neg pe_int))) (pa_cons (pe_callTy call_int_str (by rfl) z_int (by decide +kernel) (pa_cons (pe_ix ix_str (pv 1) (pe_un un_neg pe_int) (fun _ _ => rfl)) pa_nil)) pa_nil))))) pa_nil)) pa_nil)))))))), ?_⟩
    have len : (ws.map V.str).length = ws.length := List.length_map ..
    have hL : ∀ {H' : Hp}, Same H H' → SqL K H' p (ws.map V.str) := fun s => .inl (.inl (s _ _ hp))
    have no : ∀ H', Same H H' → formF ws = false → Q .non H' := fun H' s e => q .non H' s (by unfold readF; rw [e]; rfl)
    refine ⟨_, rfl, p, _, rfl, .inl (hL (Same.refl _)), ?_⟩
    rw [len]
    refine ⟨_, _, rfl, rfl, _, rfl, ?_⟩
    by_cases h4 : 4 ≤ ws.length
    · refine ite2 (fun n => absurd (of_decide_eq_true n) (by omega)) (fun _ => ?_)
      refine ⟨_, rfl, p, _, rfl, .inl (hL (Same.refl _)), ?_⟩
      rw [len]
      refine ⟨_, _, rfl, rfl, _, rfl, ?_⟩
      by_cases h6 : ws.length ≤ 6
      · refine ite2 (fun n => absurd (of_decide_eq_true n) (by omega)) (fun _ => ?_)
        have a0 : atI (ws.map V.str) 0 = some (.str (ws.getD 0 "")) := at_str (j := 0) (by omega)
        have a1 : atI (ws.map V.str) 1 = some (.str (ws.getD 1 "")) := at_str (j := 1) (by omega)
        have m0 := pl _ (getD_mem (ws := ws) (j := 0) (by omega))
        have m1 := pl _ (getD_mem (ws := ws) (j := 1) (by omega))
        refine ⟨_, rfl, p, _, _, _, rfl, rfl, hL (Same.refl _), a0, _, rfl, m0.1, m0.2, fun H1 s1 => ⟨_, rfl, ?_⟩⟩
        cases e0 : isNam (.str (ws.getD 0 "")) with
        | false => exact iteT (no H1 s1 (by unfold formF; rw [e0]; simp))
        | true =>
          refine iteF ⟨_, rfl, p, _, _, _, rfl, rfl, hL s1, a1, _, rfl, m1.1, m1.2, fun H2 s2 => ⟨_, rfl, ?_⟩⟩
          have s12 := s1.trans s2
          cases e1 : isNam (.str (ws.getD 1 "")) with
          | false => exact iteT (no H2 s12 (by unfold formF; rw [e1]; simp))
          | true =>
            have fe : formF ws = (ws.drop 2).all childB := by
              unfold formF
              rw [decide_eq_true h4, decide_eq_true h6, e0, e1]
              rfl
            refine iteF ?_
            refine ⟨_, rfl, _, rfl, p, _, rfl, hL s12, fun l nl => ⟨l, rfl, ⟨_, .inl (.inl upd_same)⟩, ?_⟩⟩
            rw [cut2]
            have sl := same_new (o := .lst ((ws.drop 2).map V.str)) nl
            have s3 : Same H (upd H2 l (.lst ((ws.drop 2).map V.str))) := s12.trans sl
            generalize eH3 : upd H2 l (.lst ((ws.drop 2).map V.str)) = H3 at s3 ⊢
            have h3l : H3 l = some (.lst ((ws.drop 2).map V.str)) := by rw [← eH3, upd_same]
            have dl : (ws.drop 2).length = ws.length - 2 := List.length_drop ..
            have plk : ∀ y ∈ ws.drop 2, y.length ≤ 1000 ∧ Asc y := fun y hy => pl y (List.mem_of_mem_drop hy)
            refine for_list (K := K) (a := l) (xs := (ws.drop 2).map V.str) (fun i σ H' => (∃ o, σ = [some (.ref p), o]) ∧ Same H3 H' ∧ ∀ y ∈ (ws.drop 2).take i, childB y = true)
              ⟨⟨none, rfl⟩, Same.refl _, fun y hy => (nomatch hy)⟩ (fun i σ H' _ h => .inl (.inl (h.2.1 _ _ h3l))) (fun i x σ H4 hx h => ?_) (fun σ H4 h => ?_)
            · obtain ⟨⟨o, rfl⟩, k4, good⟩ := h
              have s4 := s3.trans k4
              rw [List.getElem?_map] at hx
              obtain ⟨y, hy, rfl⟩ := Option.map_eq_some_iff.mp hx
              have my : y ∈ ws.drop 2 := List.mem_of_getElem? hy
              have py := plk y my
              have fy : y.length ≤ sizeLine := fits_million (by omega)
              have bad : childB y = false → ∀ H', Same H H' → Q .non H' := fun e H' s' => no H' s' (by
                rw [fe, List.all_eq_false]
                exact ⟨y, my, by rw [e]; exact Bool.false_ne_true⟩)
              refine ⟨_, rfl, _, y.length, rfl, ⟨fy, rfl⟩, _, _, rfl, rfl, _, rfl, ?_⟩
              by_cases y2 : 2 ≤ y.length
              · refine ite2 (fun n => absurd (of_decide_eq_true n) (by omega)) (fun _ => ?_)
                obtain ⟨r, c1, el, ec⟩ := last_of (z := y) (by omega)
                have at_ : atI y.cps.toList (-1) = some c1 := by
                  rw [el]
                  exact atI_last r c1
                refine ⟨_, rfl, _, rfl, y, _, c1, rfl, rfl, fy, at_, c1, _, rfl, rfl, _, rfl, ?_⟩
                have dg : digC y = decide (c1 ∈ ("0123" : Str).cps.toList) := by
                  rw [digC_of ec]
                  by_cases h : c1 ∈ ("0123" : Str).cps.toList
                  · obtain ⟨a, b⟩ := (dig_mem c1).mp h
                    rw [decide_eq_true h, decide_eq_true a, decide_eq_true b]
                    rfl
                  · rw [decide_eq_false h]
                    by_cases a : 48 ≤ c1
                    · rw [decide_eq_false (show ¬ c1 ≤ 51 from fun b => h ((dig_mem c1).mpr ⟨a, b⟩)), Bool.and_false]
                    · rw [decide_eq_false a]
                      rfl
                rw [← dg]
                cases e4' : digC y with
                | false => exact iteT (bad (by unfold childB; rw [e4', Bool.and_false]) H4 s4)
                | true =>
                  refine iteF ⟨_, rfl, _, rfl, ⟨_, rfl, y, rfl, fy, initS y, rfl, Nat.le_trans (init_len y) py.1, asc_cut py.2 _ _, fun H5 s5 => ⟨_, rfl, ?_⟩⟩⟩
                  cases e5 : isNam (.str (initS y)) with
                  | false => exact iteT (bad (by unfold childB; rw [e5]; rfl) H5 (s4.trans s5))
                  | true =>
                    have gy : childB y = true := by unfold childB; rw [e5, e4']; rfl
                    refine iteF ⟨⟨_, rfl⟩, k4.trans s5, fun y' hy' => ?_⟩
                    rw [List.take_add_one, hy] at hy'
                    rcases List.mem_append.mp hy' with hy' | hy'
                    · exact good y' hy'
                    · cases (show y' = y by simpa using hy')
                      exact gy
              · refine ite2 (fun _ => bad (child_short (by omega)) H4 s4) (fun n => absurd (decide_eq_true (show (y.length : Int) < 2 by omega)) n)
            · obtain ⟨⟨o, rfl⟩, k4, good⟩ := h
              rw [List.length_map, List.take_of_length_le (Nat.le_refl _)] at good
              have s4 := s3.trans k4
              have fe1 : formF ws = true := by
                rw [fe, List.all_eq_true]
                exact good
              have h4p : SqL K H4 p (ws.map V.str) := hL s4
              refine ⟨_, rfl, p, _, _, _, rfl, rfl, h4p, a0, _, rfl, p, _, _, _, rfl, rfl, h4p, a1, _, rfl, _, rfl, p, _, rfl, h4p, fun l2 nl2 => ⟨l2, rfl, ⟨_, .inl (.inl upd_same)⟩, fun D nD => ?_⟩⟩
              rw [cut2] at nD ⊢
              have st := same_new (o := .lst ((ws.drop 2).map V.str)) nl2
              generalize eH5 : upd H4 l2 (.lst ((ws.drop 2).map V.str)) = H5 at st nD ⊢
              have h5l : H5 l2 = some (.lst ((ws.drop 2).map V.str)) := by rw [← eH5, upd_same]
              refine lc_list (K := K) (a := l2) (xs := (ws.drop 2).map V.str) (fun i H' => Same H5 H' ∧ ∃ ts : List Addr, ts.length = i ∧ H' D = some (.lst (ts.map V.ref)) ∧ ∀ (j : Nat) (t : Addr) (y : Str), ts[j]? = some t → (ws.drop 2)[j]? = some y → Kid H' t (childV y).1 (childV y).2)
                ⟨same_put nD (Same.refl _), [], rfl, upd_same, fun j t y z => nomatch z⟩ (fun i H' _ h => .inl (.inl (h.1 _ _ h5l))) (fun i x H6 hx h => ?_) (fun H6 h => ?_)
              · obtain ⟨s6, ts, tl, e3, tk3⟩ := h
                rw [List.getElem?_map] at hx
                obtain ⟨y, hy, rfl⟩ := Option.map_eq_some_iff.mp hx
                have my : y ∈ ws.drop 2 := List.mem_of_getElem? hy
                have py := plk y my
                have fy : y.length ≤ sizeLine := fits_million (by omega)
                obtain ⟨l', c, el, lo, hi, ev, en⟩ := child_last (good y my)
                have at_ : atI y.cps.toList (-1) = some c := by
                  rw [el]
                  exact atI_last l' c
                have it := int_one c (by omega) lo
                have il : i < (ws.drop 2).length := (List.getElem?_eq_some_iff.mp hy).1
                refine ⟨rfl, _, rfl, _, rfl, _, rfl, y, rfl, fy, _, rfl, _, rfl, y, _, c, rfl, rfl, fy, at_, _, _, rfl, it, (by show 1 ≤ 640; decide), by show 2 ≤ sizeLine; decide, fun t' nt' => ?_⟩
                have Dt : D ≠ t' := ne_of_none e3 nt'
                refine ⟨ts.map V.ref, by rw [upd_ne Dt]; exact e3, ?_, same_put nD (s6.trans (same_new nt')), ts ++ [t'], by rw [List.length_append, tl]; rfl, by rw [upd_same, List.map_append]; rfl, fun j u y' hu hy' => ?_⟩
                · rw [List.length_map, tl]
                  exact Nat.lt_of_le_of_lt (show i ≤ 100 by omega) (by decide)
                · have ju : j < (ts ++ [t']).length := (List.getElem?_eq_some_iff.mp hu).1
                  rw [List.length_append, List.length_singleton] at ju
                  by_cases hj : j < ts.length
                  · rw [List.getElem?_append_left hj] at hu
                    have k := tk3 j u y' hu hy'
                    have uD : u ≠ D := fun z => by
                      have a := k.at_
                      rw [z, e3] at a
                      cases a
                    have ut : u ≠ t' := ne_of_none k.at_ nt'
                    exact ⟨by rw [upd_ne uD, upd_ne ut]; exact k.at_, k.nam, k.plain, k.lo, k.hi⟩
                  · have ej : j = i := by omega
                    subst ej
                    rw [List.getElem?_append_right (by omega), ← tl, Nat.sub_self] at hu
                    cases hu
                    rw [hy] at hy'
                    cases hy'
                    exact ⟨by rw [upd_ne (fun z => Dt z.symm), upd_same, ev]; rfl, en, ⟨Nat.le_trans (init_len y) py.1, asc_cut py.2 _ _⟩, by rw [ev]; omega, by rw [ev]; omega⟩
              · obtain ⟨s6, ts, tl, e3, tk3⟩ := h
                rw [List.length_map] at tl
                refine ⟨D, _, rfl, .inl ⟨.inl (.inl e3), fun t nt => ?_⟩⟩
                have sT := same_new (o := .tup (ts.map V.ref)) nt
                refine ⟨by show 3 ≤ sizeLine; decide, fun r nr => ?_⟩
                have sr := same_new (o := .tup [.str (ws.getD 0 ""), .str (ws.getD 1 ""), .ref t]) nr
                refine q _ _ ((((s4.trans st).trans s6).trans sT).trans sr) ?_
                unfold readF
                rw [if_pos fe1]
                refine ⟨r, t, ts, rfl, upd_same, sr _ _ upd_same, by rw [tl, List.length_map], by omega, by omega, fun i u d hu hd => ?_⟩
                rw [List.getElem?_map] at hd
                obtain ⟨y, hy, rfl⟩ := Option.map_eq_some_iff.mp hd
                exact (tk3 i u y hu hy).same (sT.trans sr)
      · refine ite2 (fun _ => no _ (Same.refl _) ?_) (fun n => absurd (decide_eq_true (show (6 : Int) < (ws.length : Int) by omega)) n)
        unfold formF
        rw [decide_eq_false h6]
        simp
    · refine ite2 (fun _ => no _ (Same.refl _) ?_) (fun n => absurd (decide_eq_true (show (ws.length : Int) < 4 by omega)) n)
      unfold formF
      rw [decide_eq_false h4]
      simp
end
end K04
set_option Elab.async false
set_option linter.all false
set_option autoImplicit false
set_option maxRecDepth 100000
set_option maxHeartbeats 8000000
namespace K04
open PySem PySem.Spec PyProof.Rows L2 Vb Wd Xd Xo Xe Xi Xm Xr Xv Ts K01 Zt Zk
/-! tests whose answer is known, the heap growing -/
abbrev Tells (t : TT) (σ : L2.St) (H : Hp) (A : Bool) : Prop := ∀ Q : Bool → Hp → Prop, (∀ H', Same H H' → Q A H') → t σ H Q
theorem tells_and {ta tb : TT} {σ : L2.St} {H : Hp} {A B : Bool} (hA : Tells ta σ H A) (hB : ∀ H', Same H H' → A = true → Tells tb σ H' B) : Tells (tAnd ta tb) σ H (A && B) := fun Q q => by
  refine hA _ fun H' s' => ?_
  cases A with
  | false => exact iteF (q H' s')
  | true => exact iteT (hB H' s' rfl _ fun H'' s'' => q H'' (s'.trans s''))
theorem tells_or {ta tb : TT} {σ : L2.St} {H : Hp} {A B : Bool} (hA : Tells ta σ H A) (hB : ∀ H', Same H H' → A = false → Tells tb σ H' B) : Tells (tOr ta tb) σ H (A || B) := fun Q q => by
  refine hA _ fun H' s' => ?_
  cases A with
  | true => exact iteT (q H' s')
  | false => exact iteF (hB H' s' rfl _ fun H'' s'' => q H'' (s'.trans s''))
theorem if_tells {tt : TT} {t u : TS} {D : Ends} {σ : L2.St} {H : Hp} {A : Bool} (hA : Tells tt σ H A) (h1 : A = true → ∀ H', Same H H' → t D σ H') (h2 : A = false → ∀ H', Same H H' → u D σ H') : tIfS tt t u D σ H := by
  refine hA _ fun H' s' => ?_
  cases A with
  | false => exact iteF (h2 rfl H' s')
  | true => exact iteT (h1 rfl H' s')
theorem spl_ne (S : List Nat) : ∀ (x : List Nat) (k : Nat) (acc : List Nat), TL.spl S k acc x ≠ []
  | [], k, acc => by rw [TL.spl_nil]; simp
  | c :: r, 0, acc => by
    cases e : TL.pre S (c :: r) with
    | true => rw [TL.spl_hit e]; simp
    | false => rw [TL.spl_miss e]; exact spl_ne S r 0 _
  | c :: r, k + 1, acc => spl_ne S r k acc
/-- a text has at least one word -/
theorem split_pos (z : Str) : 1 ≤ (Txt.split z " ").length := by
  have h := spl_ne [32] (TL.tl z) 0 []
  rw [← split_spl1 z] at h
  have : (Txt.split z " ") ≠ [] := fun z' => h (by rw [z']; rfl)
  exact List.length_pos_iff.mpr this
/-- the form that a line tells, by its words behind the first -/
theorem read_eq {ws : List Str} (h : 1 ≤ ws.length) : readW ws = if ws.getD 0 "" = "form" then readF (ws.drop 1) else none := by
  cases ws with
  | nil => simp at h
  | cons w0 ws =>
    unfold readW readF formB formF
    by_cases e : w0 = "form"
    · subst e
      have e0 : (("form" : Str) :: ws).getD 0 "" = "form" := rfl
      rw [if_pos e0]
      have g1 : (("form" : Str) :: ws).getD 1 "" = ws.getD 0 "" := rfl
      have g2 : (("form" : Str) :: ws).getD 2 "" = ws.getD 1 "" := rfl
      have d3 : (("form" : Str) :: ws).drop 3 = ws.drop 2 := rfl
      have d1 : (("form" : Str) :: ws).drop 1 = ws := rfl
      rw [g1, g2, d3, d1]
      have ec : (decide (5 ≤ (("form" : Str) :: ws).length) && decide ((("form" : Str) :: ws).length ≤ 7) && decide ((("form" : Str) :: ws).getD 0 "" = "form") && isNam (.str (ws.getD 0 "")) && isNam (.str (ws.getD 1 "")) && (ws.drop 2).all childB) =
          (decide (4 ≤ ws.length) && (decide (ws.length ≤ 6) && (isNam (.str (ws.getD 0 "")) && (isNam (.str (ws.getD 1 "")) && (ws.drop 2).all childB)))) := by
        rw [List.length_cons, e0]
        have p1 : decide (5 ≤ ws.length + 1) = decide (4 ≤ ws.length) := by rw [decide_eq_decide]; omega
        have p2 : decide (ws.length + 1 ≤ 7) = decide (ws.length ≤ 6) := by rw [decide_eq_decide]; omega
        rw [p1, p2, decide_eq_true rfl]
        simp [Bool.and_assoc]
      rw [ec]
    · have e0 : ¬ (w0 :: ws).getD 0 "" = "form" := e
      rw [if_neg e0, decide_eq_false e0]
      simp
/-- the tops that the law has found -/
def TLt (H : Hp) (F : Addr) (tv : V) : Option (List Str) → Prop
  | some ys => ∃ t, tv = .ref t ∧ t ≠ F ∧ H t = some (.lst (ys.map V.str)) ∧ (∀ y ∈ ys, Fine y) ∧ ys.length ≤ 60
  | none => tv = .non
/-- what the law has found of the lines -/
structure Found (H : Hp) (F D : Addr) (g : Got) : Prop where
  ex : ∃ (tv : V) (ps : List (FD × Addr)), H F = some (.lst [bV g.1, tv, .ref D]) ∧ TLt H F tv g.2.1 ∧ H D = some (.dK (kvsP ps)) ∧ ps.map (·.1) = g.2.2 ∧ (∀ p ∈ ps, RowAt H p.2 p.1) ∧ ps.length ≤ 60
/-- all but what stands at F and at D stays -/
def K2 (F D : Addr) (H H' : Hp) : Prop := ∀ b o, b ≠ F → b ≠ D → H b = some o → H' b = some o
theorem K2.of {F D : Addr} {H H' : Hp} (s : Same H H') : K2 F D H H' := fun b o _ _ e => s b o e
theorem K2.trans {F D : Addr} {H H1 H' : Hp} (a : K2 F D H H1) (b : K2 F D H1 H') : K2 F D H H' := fun x o n1 n2 e => b x o n1 n2 (a x o n1 n2 e)
theorem K2.putF {F D : Addr} {H : Hp} (o : HO) : K2 F D H (upd H F o) := fun b x n _ e => by
  rw [upd_ne n]
  exact e
theorem K2.putD {F D : Addr} {H : Hp} (o : HO) : K2 F D H (upd H D o) := fun b x _ n e => by
  rw [upd_ne n]
  exact e
theorem Found.same {H H' : Hp} {F D : Addr} {g : Got} (s : Same H H') (f : Found H F D g) : Found H' F D g := by
  obtain ⟨tv, ps, h1, h2, h3, h4, h5, h6⟩ := f.ex
  refine ⟨tv, ps, s _ _ h1, ?_, s _ _ h3, h4, fun p hp => (h5 p hp).tups (Tups.of s), h6⟩
  cases eg : g.2.1 with
  | none =>
    rw [eg] at h2
    exact h2
  | some ys =>
    rw [eg] at h2
    obtain ⟨t, e, n, h, r⟩ := h2
    exact ⟨t, e, n, s _ _ h, r⟩
theorem TLt.same {H H' : Hp} {F : Addr} {tv : V} (s : Same H H') : ∀ {to : Option (List Str)}, TLt H F tv to → TLt H' F tv to
  | some _, ⟨t, e, n, h, r⟩ => ⟨t, e, n, s _ _ h, r⟩
  | none, h => h
theorem TLt.putF {H : Hp} {F : Addr} {tv : V} {o : HO} : ∀ {to : Option (List Str)}, TLt H F tv to → TLt (upd H F o) F tv to
  | some _, ⟨t, e, n, h, r⟩ => ⟨t, e, n, by rw [upd_ne n]; exact h, r⟩
  | none, h => h
theorem TLt.putD {H : Hp} {F D : Addr} {tv : V} {kvs kvs' : List (L2.Key × V)} (eD : H D = some (.dK kvs)) : ∀ {to : Option (List Str)}, TLt H F tv to → TLt (upd H D (.dK kvs')) F tv to
  | some _, ⟨t, e, n, h, r⟩ => ⟨t, e, n, by
      rw [upd_ne (fun z => by rw [z, eD] at h; cases h)]
      exact h, r⟩
  | none, h => h
/-- takes, of words -/
def takes1 (g : Got) (ws : List Str) : Option Got :=
  if g.1 = none ∧ bareB ws = true then some (some (ws.getD 1 ""), g.2.1, g.2.2)
  else if g.2.1 = none ∧ topsB ws = true then some (g.1, some (ws.drop 1), g.2.2)
  else match readW ws with
    | some d => if d.1 ∈ g.2.2.map (·.1) then none else some (g.1, g.2.1, g.2.2 ++ [d])
    | none => none
abbrev s_l_takes : Stmt := topS 45
abbrev nTk : List Str := ["_law_found", "_law_line", "_law_words", "_law_form", "_law_word"]
theorem sc_l_takes : FnScope nTk ["_law_found", "_law_line"] (defScope s_l_takes) := ⟨rfl, rfl, rfl, by decide +kernel, rfl, by decide +kernel, by decide +kernel⟩
def spTakes : Sp := fun vs H Q _ => ∃ (F D : Addr) (v : V) (g : Got), vs = [.ref F, v] ∧ Found H F D g ∧ g.2.2.length < 60 ∧ Judged H v ∧ (wordsV v).length ≤ 60 ∧ (∀ g', takes g v = some g' → ∀ H', K2 F D H H' → Found H' F D g' → Q (.bl true) H') ∧ (takes g v = none → ∀ H', K2 F D H H' → Q (.bl false) H')
section
variable {P : Program} {w : World} {K : PySem.W.Frag} {mg : Str → Option Value} {base : Heap}
theorem ok_l_takes (D : Df K mg "_law_takes" s_l_takes ["_law_found", "_law_line"]) (G_l_is_name : Cg P w K mg base 1 "_law_is_name" spNam) (G_l_form_in : Cg P w K mg base 2 "_law_form_in" (spForm1 K)) (z_isinstance : mg "isinstance" = none) (z_str : mg "str" = none) (z_len : mg "len" = none) (z_sorted : mg "sorted" = none) (z_set : mg "set" = none) :
    Cg P w K mg base 3 "_law_takes" spTakes := by
  refine D.ok sc_l_takes (fun vs H Q E h => ?_) (fun cdv A outer s H vs Q E f0 hc hr h => ?_)
  · obtain ⟨F, D', v, g, rfl, _⟩ := h
    rfl
  · obtain ⟨F, D', v, g, rfl, fd, gl, jd, w60, q1, q2⟩ := h
    refine ⟨_, (pss_cons (ps_if (pt_not (pt_val (pe_callB call_isi (by rfl) z_isinstance (by decide +kernel) (pa_cons (pv 1) (pa_cons (pe_bltn (v := .ty "str") (by rfl) z_str (by decide +kernel) rfl) pa_nil)))))
      (pss_one (ps_ret pe_bl))
      pss_nil)
      (pss_cons (ps_set (i := 2) sc_l_takes.nd rfl (Or.inl rfl) (pe_bm PySem.F.plainAttrs_str PySem.F.slot_str_split PySem.F.type_str_split mt_split (pv 1) (pa_cons pe_str pa_nil)))
      (pss_cons (ps_set (i := 3) sc_l_takes.nd rfl (Or.inl rfl) (pe_cg G_l_form_in hc hr (by rfl) (pa_cons (pe_slice (sl_list : SlR _ (rSlL K)) (pv 2) (po_some pe_int) po_none) pa_nil)))
      (pss_cons (ps_if (PW.pt (pw_and (pt_cmpR op_eq (pe_ix (ix_list : IxR _ (rIxL K)) (pv 2) pe_int (fun _ _ => rfl)) pe_str (nomark _)) (pw_and (pt_cmpR op_eq (pe_callB call_len_seq (by rfl) z_len PySem.boot_len (pa_cons (pv 2) pa_nil)) pe_int (nomark _)) (pw_and (pt_val (pe_cg G_l_is_name hc hr (by rfl) (pa_cons (pe_ix (ix_list : IxR _ (rIxL K)) (pv 2) pe_int (fun _ _ => rfl)) pa_nil))) (pw_and1 (pt_cmpR op_isN (pe_ix (ix_list : IxR _ (rIxL K)) (pv 0) pe_int (fun _ _ => rfl)) pe_non (nomark _)))))))
      (pss_cons (ps_asg (pe_ix (ix_list : IxR _ (rIxL K)) (pv 2) pe_int (fun _ _ => rfl)) (pg_sub (pv 0) pe_int set_list))
      (pss_one (ps_ret pe_bl)))
      pss_nil)
      (pss_cons (ps_if (PW.pt (pw_and (pt_cmpR op_eq (pe_ix (ix_list : IxR _ (rIxL K)) (pv 2) pe_int (fun _ _ => rfl)) pe_str (nomark _)) (pw_and (pt_cmpR op_gt (pe_callB call_len_seq (by rfl) z_len PySem.boot_len (pa_cons (pv 2) pa_nil)) pe_int (nomark _)) (pw_and1 (pt_cmpR op_isN (pe_ix (ix_list : IxR _ (rIxL K)) (pv 0) pe_int (fun _ _ => rfl)) pe_non (nomark _))))))
      (pss_cons (ps_asg (pe_ifExp (pt_cmpR (op_eqD hr.units) (pe_lc (own := [("_law_word", 4)]) (g := gName 4) (by rfl) sc_l_takes.nd (pi_list (pe_slice (sl_list : SlR _ (rSlL K)) (pv 2) (po_some pe_int) po_none)) (blkOk_by (own := [("_law_word", 4)]) (N := nTk) (sc := defScope s_l_takes) (by decide +kernel)) (fun _ _ _ _ _ => pg_name (i := 4) sc_l_takes.nd rfl (Or.inl rfl)) (fun _ _ _ _ _ => (pts_one (pt_not (pt_val (pe_cg G_l_is_name hc hr (by rfl) (pa_cons (pv 4) pa_nil)))))) (fun _ _ _ _ _ => (pv 4))) (pe_lst pa_nil) (nomark _)) (pe_slice (sl_list : SlR _ (rSlL K)) (pv 2) (po_some pe_int) po_none) pe_non) (pg_sub (pv 0) pe_int set_list))
      (pss_cons (ps_asg (pe_ifExp (PW.pt (pw_and (pt_cmpR op_notN (pe_ix (ix_list : IxR _ (rIxL K)) (pv 0) pe_int (fun _ _ => rfl)) pe_non (nomark _)) (pw_and1 (pt_cmpR (op_eqD hr.units) (pe_ix (ix_list : IxR _ (rIxL K)) (pv 0) pe_int (fun _ _ => rfl)) (pe_callB (cr_sortTexts rfl) (by rfl) z_sorted (by decide +kernel) (pa_cons (pe_callTy (cr_setTexts rfl) (by rfl) z_set (by decide +kernel) (pa_cons (pe_ix (ix_list : IxR _ (rIxL K)) (pv 0) pe_int (fun _ _ => rfl)) pa_nil)) pa_nil)) (nomark _))))) (pe_ix (ix_list : IxR _ (rIxL K)) (pv 0) pe_int (fun _ _ => rfl)) pe_non) (pg_sub (pv 0) pe_int set_list))
      (pss_one (ps_ret (pe_cmpR op_notN (pe_ix (ix_list : IxR _ (rIxL K)) (pv 0) pe_int (fun _ _ => rfl)) pe_non (nomark _))))))
      pss_nil)
      (pss_cons (ps_if (PW.pt (pw_or (pt_cmpR op_ne (pe_ix (ix_list : IxR _ (rIxL K)) (pv 2) pe_int (fun _ _ => rfl)) pe_str (nomark _)) (pw_or (pt_cmpR op_isN (pv 3) pe_non (nomark _)) (pw_or1 (pt_cmp (pc_din (hu_of hr) (pe_ix (ix_tup : IxR _ (rIxT K)) (pv 3) pe_int (fun _ _ => rfl)) (pe_ix (ix_list : IxR _ (rIxL K)) (pv 0) pe_int (fun _ _ => rfl))) (by rfl))))))
      (pss_one (ps_ret pe_bl))
      pss_nil)
      (pss_cons (ps_dput (hu_of hr) (pe_ix (ix_list : IxR _ (rIxL K)) (pv 0) pe_int (fun _ _ => rfl)) (pe_ix (ix_tup : IxR _ (rIxT K)) (pv 3) pe_int (fun _ _ => rfl)) (pe_slice (sl_tup : SlR _ (rSlT K)) (pv 3) (po_some pe_int) po_none) (by rfl))
      (pss_one (ps_ret pe_bl))))))))), ?_⟩
    have big : ∀ {n : Nat}, n ≤ 200 → n < sizeLine := fun h => Nat.lt_of_le_of_lt h (by decide)
    have noW : wordsV v = [] → takes g v = none := fun e => by
      have b1 : bareB [] = false := by decide +kernel
      have b2 : topsB [] = false := by decide +kernel
      have b3 : readW [] = none := by decide +kernel
      unfold takes
      rw [e, if_neg (by rw [b1]; simp), if_neg (by rw [b2]; simp), b3]
    have D2 : ∀ {H' : Hp}, K2 F D' H H' → takes g v = none → Q (.bl false) H' := fun k e => q2 e _ k
    cases v with
    | int i => exact ⟨_, rfl, _, _, _, _, false, rfl, .ty _, .base (.int i), kit_ty ki_is, _, rfl, iteT (D2 (K2.of (Same.refl _)) (noW rfl))⟩
    | bl b => exact ⟨_, rfl, _, _, _, _, false, rfl, .ty _, .base (.bl b), kit_ty ki_bs, _, rfl, iteT (D2 (K2.of (Same.refl _)) (noW rfl))⟩
    | non => exact ⟨_, rfl, _, _, _, _, false, rfl, .ty _, .base .non, kit_ty (by decide +kernel), _, rfl, iteT (D2 (K2.of (Same.refl _)) (noW rfl))⟩
    | ref a =>
      rcases jd with ⟨xs, e⟩ | ⟨xs, e⟩ | ⟨kvs, e⟩
      · exact ⟨_, rfl, _, _, _, _, false, rfl, .ty _, .base (.lst e), kit_ty (by decide +kernel), _, rfl, iteT (D2 (K2.of (Same.refl _)) (noW rfl))⟩
      · exact ⟨_, rfl, _, _, _, _, false, rfl, .ty _, .base (.tup e), kit_ty (by decide +kernel), _, rfl, iteT (D2 (K2.of (Same.refl _)) (noW rfl))⟩
      · exact ⟨_, rfl, _, _, _, _, false, rfl, .ty _, .base (.dK e), kit_ty (by decide +kernel), _, rfl, iteT (D2 (K2.of (Same.refl _)) (noW rfl))⟩
    | byt b => exact jd.elim
    | flt b => exact jd.elim
    | ty b => exact jd.elim
    | str z =>
      refine ⟨_, rfl, _, _, _, _, true, rfl, .ty _, .base (.str z), kit_ty ki_ss, _, rfl, iteF ?_⟩
      have pl : Plain (wordsV (.str z)) := (words_plain (H := H) (v := .str z) jd).1
      have lp : 1 ≤ (wordsV (.str z)).length := split_pos z
      have wdef : wordsV (.str z) = Txt.split z " " := rfl
      have tdef : takes g (.str z) = takes1 g (wordsV (.str z)) := rfl
      rw [tdef] at q1 q2 D2
      refine ⟨_, rfl, rfl, z, _, rfl, rfl, by decide +kernel, Nat.le_trans (show z.length + 2 ≤ 2000 by have := jd.1; omega) (by decide), fun p np => ?_⟩
      rw [← wdef]
      generalize wordsV (.str z) = ws at pl lp w60 q1 q2 D2
      have s1 := same_new (o := .lst (ws.map V.str)) np
      refine ⟨_, rfl, _, rfl, p, _, rfl, .inl (.inl upd_same), fun l nl => ?_⟩
      rw [cut1]
      have s2 := same_new (o := .lst ((ws.drop 1).map V.str)) nl
      refine ⟨l, ws.drop 1, rfl, .inl (.inl upd_same), upd_same, fun y hy => pl y (List.mem_of_mem_drop hy), by rw [List.length_drop]; omega, fun fv H3 s3 told => ?_⟩
      have s03 : Same H H3 := (s1.trans s2).trans s3
      have ep3 : H3 p = some (.lst (ws.map V.str)) := s3 _ _ (s2 _ _ upd_same)
      have hL : ∀ {H' : Hp}, Same H3 H' → SqL K H' p (ws.map V.str) := fun s => .inl (.inl (s _ _ ep3))
      have a0 : atI (ws.map V.str) 0 = some (.str (ws.getD 0 "")) := at_str (j := 0) (by omega)
      obtain ⟨tv, ps, eF, eT, eD, eps, rows, psl⟩ := (fd.same s03).ex
      have hF : ∀ {H' : Hp}, Same H3 H' → SqL K H' F [bV g.1, tv, .ref D'] := fun s => .inl (.inl (s _ _ eF))
      have nFD : F ≠ D' := fun z => by
        rw [z, eD] at eF
        cases eF
      have w0 : ∀ (y : Str) {H' : Hp} {σ : L2.St}, Same H3 H' → σ[2]? = some (some (.ref p)) → Tells (tTest (tOp rEq (tOp (rIxL K) (tVar 2) (tC (.int 0))) (tC (.str y)))) σ H' (decide (ws.getD 0 "" = y)) := fun y H' σ s hσ Q' q' =>
        ⟨_, hσ, p, _, _, _, rfl, rfl, hL s, a0, rfl, _, rfl, by rw [str_dec]; exact q' _ (Same.refl _)⟩
      have isb : decide (bV g.1 = V.non) = decide (g.1 = none) := by
        cases g.1 <;> simp [bV]
      have ist : decide (tv = V.non) = decide (g.2.1 = none) := by
        cases eg : g.2.1 with
        | none =>
          rw [eg] at eT
          have eT : tv = .non := eT
          subst eT
          rfl
        | some ys =>
          rw [eg] at eT
          obtain ⟨t, rfl, _⟩ := eT
          rfl
      have gtw : ∀ {H' : Hp} {A B : Bool}, A = B → ∀ {R : Bool → Hp → Prop}, R B H' → R A H' := fun e _ r => e ▸ r
      refine if_tells (A := decide (ws.getD 0 "" = "bare") && (decide (ws.length = 2) && (isNam (.str (ws.getD 1 "")) && decide (bV g.1 = V.non)))) (tells_and (w0 "bare" (Same.refl _) rfl) (fun H4 s4 _ => tells_and (fun Q' q' => ?_) (fun H5 s5 e2 => tells_and (fun Q' q' => ?_) (fun H6 s6 _ => fun Q' q' => ?_)))) (fun e H4 s4 => ?_) (fun e H4 s4 => ?_)
      · refine ⟨_, rfl, p, _, rfl, .inl (hL s4), ?_⟩
        rw [List.length_map]
        refine ⟨rfl, _, rfl, ?_⟩
        have ei : decide (V.int (ws.length : Int) = V.int 2) = decide (ws.length = 2) := by
          by_cases h : ws.length = 2
          · rw [h]
            rfl
          · rw [decide_eq_false h, decide_eq_false fun z => h (by have := V.int.inj z; omega)]
        rw [ei]
        exact q' _ (Same.refl _)
      · have h2 := of_decide_eq_true e2
        have a1 : atI (ws.map V.str) 1 = some (.str (ws.getD 1 "")) := at_str (j := 1) (by omega)
        have m1 := pl _ (getD_mem (ws := ws) (j := 1) (by omega))
        exact ⟨_, rfl, p, _, _, _, rfl, rfl, hL (s4.trans s5), a1, _, rfl, m1.1, m1.2, fun H7 s7 => ⟨_, rfl, q' H7 s7⟩⟩
      · exact ⟨_, rfl, F, _, _, _, rfl, rfl, hF ((s4.trans s5).trans s6), rfl, rfl, _, rfl, q' _ (Same.refl _)⟩
      · simp only [Bool.and_eq_true, decide_eq_true_eq] at e
        obtain ⟨e0, e2, e3, e4⟩ := e
        have g0 : g.1 = none := by
          rw [← decide_eq_true_iff (p := g.1 = none), ← isb]
          exact decide_eq_true e4
        have bb : bareB ws = true := by
          unfold bareB
          rw [decide_eq_true e2, decide_eq_true e0, e3]
          rfl
        have tk : takes1 g ws = some (some (ws.getD 1 ""), g.2.1, g.2.2) := if_pos ⟨g0, bb⟩
        have a1 : atI (ws.map V.str) 1 = some (.str (ws.getD 1 "")) := at_str (j := 1) (by omega)
        refine ⟨_, rfl, p, _, _, _, rfl, rfl, hL s4, a1, _, rfl, F, _, _, 0, rfl, rfl, s4 _ _ eF, rfl, ?_⟩
        have k4 := (K2.of (F := F) (D := D') (s03.trans s4)).trans (K2.putF (.lst ([bV g.1, tv, .ref D'].set 0 (.str (ws.getD 1 "")))))
        refine q1 _ tk _ k4 ⟨tv, ps, upd_same, ?_, ?_, eps, fun p' hp' => (rows p' hp').tups ((Tups.of s4).trans (Tups.putL _ (s4 _ _ eF))), psl⟩
        · exact TLt.putF (eT.same s4)
        · rw [upd_ne (Ne.symm nFD)]
          exact s4 _ _ eD
      · have n1 : ¬ (g.1 = none ∧ bareB ws = true) := fun z => by
          have zb := z.2
          unfold bareB at zb
          simp only [Bool.and_eq_true, decide_eq_true_eq] at zb
          rw [isb, decide_eq_true z.1, decide_eq_true zb.1, decide_eq_true zb.2.1, zb.2.2] at e
          cases e
        have hT1 : takes1 g ws = if g.2.1 = none ∧ topsB ws = true then some (g.1, some (ws.drop 1), g.2.2) else match readW ws with
            | some d => if d.1 ∈ g.2.2.map (·.1) then none else some (g.1, g.2.1, g.2.2 ++ [d])
            | none => none := if_neg n1
        refine if_tells (A := decide (ws.getD 0 "" = "tops") && (decide (1 < ws.length) && decide (tv = V.non))) (tells_and (w0 "tops" s4 rfl) (fun H5 s5 _ => tells_and (fun Q' q' => ?_) (fun H6 s6 _ => fun Q' q' => ?_))) (fun e H5 s5 => ?_) (fun e H5 s5 => ?_)
        · refine ⟨_, rfl, p, _, rfl, .inl (hL (s4.trans s5)), ?_⟩
          rw [List.length_map]
          refine ⟨_, _, rfl, rfl, _, rfl, ?_⟩
          have ei : decide ((1 : Int) < (ws.length : Int)) = decide (1 < ws.length) := by
            rw [decide_eq_decide]
            omega
          first
            | (rw [ei]; exact q' _ (Same.refl _))
            | trace_state
        · exact ⟨_, rfl, F, _, _, _, rfl, rfl, hF ((s4.trans s5).trans s6), rfl, rfl, _, rfl, q' _ (Same.refl _)⟩
        · simp only [Bool.and_eq_true, decide_eq_true_eq] at e
          obtain ⟨e0, e1, e2⟩ := e
          have g0 : g.2.1 = none := by
            rw [← decide_eq_true_iff (p := g.2.1 = none), ← ist]
            exact decide_eq_true e2
          have nf : readW ws = none := by
            rw [read_eq lp, if_neg]
            rw [e0]
            decide +kernel
          have s05 := s4.trans s5
          have bd : (ws.drop 1).length ≤ 60 := by rw [List.length_drop]; omega
          have pd : ∀ y ∈ ws.drop 1, y.length ≤ 1000 ∧ Asc y := fun y hy => pl y (List.mem_of_mem_drop hy)
          -- the words that are no names
          refine ⟨_, rfl, _, rfl, p, _, rfl, .inl (.inl (s05 _ _ ep3)), fun l5 nl5 => ?_⟩
          rw [cut1]
          have s6 := same_new (o := .lst ((ws.drop 1).map V.str)) nl5
          refine ⟨l5, rfl, ⟨_, .inl (.inl upd_same)⟩, fun D5 nD5 => ?_⟩
          refine lc_list (K := K) (a := l5) (xs := (ws.drop 1).map V.str) (fun i H' => Same (upd H5 l5 (.lst ((ws.drop 1).map V.str))) H' ∧ H' D5 = some (.lst ((((ws.drop 1).take i).filter fun y => !nam y).map V.str))) ⟨same_put nD5 (Same.refl _), upd_same⟩ (fun i H' _ h => .inl (.inl (h.1 _ _ upd_same))) (fun i x H6 hx h => ?_) (fun H6 h => ?_)
          · obtain ⟨s7, eD5⟩ := h
            rw [List.getElem?_map] at hx
            obtain ⟨y, hy, rfl⟩ := Option.map_eq_some_iff.mp hx
            have py := pd y (List.mem_of_getElem? hy)
            have il : i < (ws.drop 1).length := (List.getElem?_eq_some_iff.mp hy).1
            have tk : (ws.drop 1).take (i + 1) = (ws.drop 1).take i ++ [y] := by
              rw [List.take_add_one, hy]
              rfl
            refine ⟨rfl, _, rfl, y, rfl, py.1, py.2, fun H7 s8 => ⟨_, rfl, ?_⟩⟩
            have eD7 := s8 _ _ eD5
            have fl : (((ws.drop 1).take i).filter fun y => !nam y).length ≤ i := Nat.le_trans (List.length_filter_le _ _) (by rw [List.length_take]; exact Nat.min_le_left _ _)
            cases en : nam y with
            | true =>
              have en' : isNam (.str y) = true := en
              rw [en']
              refine iteF ⟨s7.trans s8, ?_⟩
              rw [tk, List.filter_append, eD7]
              simp [en]
            | false =>
              have en' : isNam (.str y) = false := en
              rw [en']
              refine iteT ⟨_, rfl, _, eD7, by rw [List.length_map]; exact big (by omega), same_put nD5 (s7.trans s8), ?_⟩
              rw [upd_same, tk, List.filter_append, List.map_append]
              simp [en]
          · obtain ⟨s7, eD5⟩ := h
            rw [List.length_map, List.take_of_length_le (Nat.le_refl _)] at eD5
            have s57 := s6.trans s7
            refine ⟨Nat.zero_le _, fun l6 nl6 => ?_⟩
            have s8 := same_new (o := .lst []) nl6
            have eD6 := s8 _ _ eD5
            have fa : ∀ y ∈ (ws.drop 1).filter (fun y => !nam y), Asc y := fun y hy => (pd y (List.mem_filter.mp hy).1).2
            refine ⟨.list (((ws.drop 1).filter fun y => !nam y).map PyData.str), .list ([].map PyData.str), .lst (.inl (.inl eD6)) (dp_strs _), .lst (.inl (.inl upd_same)) .nil, shaped_strs fa, by decide +kernel, _, rfl, ?_⟩
            rw [eqv_list]
            have s38 := (s05.trans s57).trans s8
            have eF8 := s38 _ _ eF
            have eD8 := s38 _ _ eD
            have rows8 : ∀ p' ∈ ps, RowAt (upd H6 l6 (.lst [])) p'.2 p'.1 := fun p' hp' => (rows p' hp').tups (Tups.of s38)
            by_cases hb : (ws.drop 1).filter (fun y => !nam y) = []
            · rw [decide_eq_true hb]
              have alln : (ws.drop 1).all nam = true := List.all_eq_true.mpr fun y hy => by
                cases en : nam y with
                | true => rfl
                | false =>
                  have : y ∈ (ws.drop 1).filter (fun y => !nam y) := List.mem_filter.mpr ⟨hy, by simp [en]⟩
                  rw [hb] at this
                  cases this
              refine iteT ⟨_, rfl, _, rfl, p, _, rfl, .inl (.inl (s38 _ _ ep3)), fun t nt => ?_⟩
              rw [cut1]
              have s9 := same_new (o := .lst ((ws.drop 1).map V.str)) nt
              have eF9 := s9 _ _ eF8
              have tF : t ≠ F := fun z => by
                rw [z, eF8] at nt
                cases nt
              refine ⟨_, rfl, F, _, _, 1, rfl, rfl, eF9, rfl, ?_⟩
              have eF10 : (upd (upd (upd H6 l6 (.lst [])) t (.lst ((ws.drop 1).map V.str))) F (.lst ([bV g.1, tv, V.ref D'].set 1 (V.ref t)))) F = some (.lst [bV g.1, .ref t, .ref D']) := upd_same
              have eT10 : (upd (upd (upd H6 l6 (.lst [])) t (.lst ((ws.drop 1).map V.str))) F (.lst ([bV g.1, tv, V.ref D'].set 1 (V.ref t)))) t = some (.lst ((ws.drop 1).map V.str)) := by
                rw [upd_ne tF]
                exact upd_same
              have eD10 : (upd (upd (upd H6 l6 (.lst [])) t (.lst ((ws.drop 1).map V.str))) F (.lst ([bV g.1, tv, V.ref D'].set 1 (V.ref t)))) D' = some (.dK (kvsP ps)) := by
                rw [upd_ne (Ne.symm nFD)]
                exact s9 _ _ eD8
              have k10 : K2 F D' H (upd (upd (upd H6 l6 (.lst [])) t (.lst ((ws.drop 1).map V.str))) F (.lst ([bV g.1, tv, V.ref D'].set 1 (V.ref t)))) := (K2.of ((s03.trans s38).trans s9)).trans (K2.putF _)
              have tp10 : Tups (upd H6 l6 (.lst [])) (upd (upd (upd H6 l6 (.lst [])) t (.lst ((ws.drop 1).map V.str))) F (.lst ([bV g.1, tv, V.ref D'].set 1 (V.ref t)))) := (Tups.of s9).trans (Tups.putL _ eF9)
              generalize (upd (upd (upd H6 l6 (.lst [])) t (.lst ((ws.drop 1).map V.str))) F (.lst ([bV g.1, tv, V.ref D'].set 1 (V.ref t)))) = H10 at eF10 eT10 eD10 k10 tp10 ⊢
              have sF10 : SqL K H10 F [bV g.1, .ref t, .ref D'] := .inl (.inl eF10)
              refine ⟨_, rfl, F, _, _, _, rfl, rfl, sF10, rfl, rfl, _, rfl, iteT ?_⟩
              refine ⟨_, rfl, F, _, _, _, rfl, rfl, sF10, rfl, _, rfl, F, _, _, _, rfl, rfl, sF10, rfl, t, ws.drop 1, rfl, .inl (.inl (.inl eT10)), by omega, fun st c nst hc' => ⟨st, ws.drop 1, c, rfl, upd_same, by omega, fun zs pz mem srt nd _ npz => ?_⟩⟩
              have s11 := same_new (o := TsO P w st (among (ws.drop 1) (ws.drop 1).length) c) nst
              have s12 := same_new (o := .lst (zs.map V.str)) npz
              have s112 := s11.trans s12
              refine ⟨.list ((ws.drop 1).map PyData.str), .list (zs.map PyData.str), .lst (.inl (.inl (s112 _ _ eT10))) (dp_strs _), .lst (.inl (.inl upd_same)) (dp_strs zs), shaped_strs fun y hy => (pd y hy).2, shaped_strs fun y hy => (pd y ((mem y).mp hy)).2, _, rfl, ?_⟩
              rw [eqv_list, eq_sorted mem srt nd]
              have eF12 := s112 _ _ eF10
              have sF12 : SqL K _ F [bV g.1, .ref t, .ref D'] := .inl (.inl eF12)
              cases ea : asc (ws.drop 1) with
              | true =>
                have tb : topsB ws = true := by
                  unfold topsB
                  rw [decide_eq_true e0, decide_eq_true e1, alln, ea]
                  rfl
                refine iteT ⟨_, rfl, F, _, _, _, rfl, rfl, sF12, rfl, _, rfl, F, _, _, 1, rfl, rfl, eF12, rfl, ?_⟩
                refine ⟨_, rfl, F, _, _, _, rfl, rfl, .inl (.inl upd_same), rfl, rfl, ?_⟩
                refine q1 _ (hT1.trans (if_pos ⟨g0, tb⟩)) _ ((k10.trans (K2.of s112)).trans (K2.putF _)) ⟨.ref t, ps, upd_same, ⟨t, rfl, tF, ?_, pd, bd⟩, ?_, eps, fun p' hp' => (rows8 p' hp').tups ((tp10.trans (Tups.of s112)).trans (Tups.putL _ eF12)), psl⟩
                · rw [upd_ne tF]
                  exact s112 _ _ eT10
                · rw [upd_ne (Ne.symm nFD)]
                  exact s112 _ _ eD10
              | false =>
                have tb : topsB ws = false := by
                  unfold topsB
                  rw [ea, Bool.and_false, Bool.and_false, Bool.and_false]
                refine iteF ⟨_, rfl, F, _, _, 1, rfl, rfl, eF12, rfl, ?_⟩
                refine ⟨_, rfl, F, _, _, _, rfl, rfl, .inl (.inl upd_same), rfl, rfl, ?_⟩
                refine D2 ((k10.trans (K2.of s112)).trans (K2.putF _)) ?_
                rw [hT1, if_neg (by rw [tb]; simp), nf]
            · rw [decide_eq_false hb]
              have tb : topsB ws = false := by
                unfold topsB
                cases ea : (ws.drop 1).all nam with
                | false => rw [Bool.false_and, Bool.and_false, Bool.and_false]
                | true =>
                  exact absurd (List.filter_eq_nil_iff.mpr fun y hy => by
                    have := List.all_eq_true.mp ea y hy
                    simp [this]) hb
              refine iteF ⟨_, rfl, F, _, _, 1, rfl, rfl, eF8, rfl, ?_⟩
              refine ⟨_, rfl, F, _, _, _, rfl, rfl, .inl (.inl upd_same), rfl, rfl, _, rfl, iteF (iteF ?_)⟩
              refine ⟨_, rfl, F, _, _, 1, rfl, rfl, upd_same, rfl, ?_⟩
              refine ⟨_, rfl, F, _, _, _, rfl, rfl, .inl (.inl upd_same), rfl, rfl, ?_⟩
              refine D2 (((K2.of (s03.trans s38)).trans (K2.putF _)).trans (K2.putF _)) ?_
              rw [hT1, if_neg (by rw [tb]; simp), nf]
        · have n2 : ¬ (g.2.1 = none ∧ topsB ws = true) := fun z => by
            have zt := z.2
            unfold topsB at zt
            simp only [Bool.and_eq_true, decide_eq_true_eq] at zt
            rw [ist, decide_eq_true z.1, decide_eq_true zt.1, decide_eq_true zt.2.1] at e
            cases e
          have hT2 : takes1 g ws = match readW ws with
              | some d => if d.1 ∈ g.2.2.map (·.1) then none else some (g.1, g.2.1, g.2.2 ++ [d])
              | none => none := hT1.trans (if_neg n2)
          rw [read_eq lp] at hT2
          have s05 := s4.trans s5
          have nef : ∀ {H' : Hp} {σ : L2.St}, Same H3 H' → σ[2]? = some (some (.ref p)) → Tells (tTest (tOp rNe (tOp (rIxL K) (tVar 2) (tC (.int 0))) (tC (.str "form")))) σ H' (!decide (ws.getD 0 "" = "form")) := fun {H' σ} s hσ Q' q' =>
            ⟨_, hσ, p, _, _, _, rfl, rfl, hL s, a0, rfl, _, rfl, by rw [str_dec]; exact q' _ (Same.refl _)⟩
          cases er : readF (ws.drop 1) with
          | none =>
            rw [er] at told
            have told : fv = .non := told
            subst told
            have tn : takes1 g ws = none := by
              rw [hT2, er]
              by_cases ew : ws.getD 0 "" = "form"
              · rw [if_pos ew]
              · rw [if_neg ew]
            refine if_tells (A := !decide (ws.getD 0 "" = "form") || (decide (V.non = V.non) || false)) (tells_or (nef s05 rfl) (fun H6 s6 _ => tells_or (fun Q' q' => ⟨_, rfl, rfl, _, rfl, q' _ (Same.refl _)⟩) (fun H7 s7 e7 => absurd e7 (by simp)))) (fun _ H6 s6 => D2 (K2.of ((s03.trans s05).trans s6)) tn) (fun e _ _ => absurd e (by simp))
          | some d =>
            rw [er] at told
            obtain ⟨n, so, cs⟩ := d
            obtain ⟨pf, ch, ks, rfl, ef, KK⟩ := told
            have hTf : ∀ {H' : Hp}, Same H3 H' → SqT K H' pf [.str n, .str so, .ref ch] := fun s => .inl (.inl (s _ _ ef))
            refine if_tells (A := !decide (ws.getD 0 "" = "form") || (decide (V.ref pf = V.non) || (valV (kvsP ps) (Sum.inr n)).isSome)) (tells_or (nef s05 rfl) (fun H6 s6 _ => tells_or (fun Q' q' => ⟨_, rfl, rfl, _, rfl, q' _ (Same.refl _)⟩) (fun H7 s7 _ => fun Q' q' =>
              ⟨_, rfl, pf, _, _, _, rfl, rfl, hTf ((s05.trans s6).trans s7), rfl, _, rfl, F, _, _, _, rfl, rfl, hF ((s05.trans s6).trans s7), rfl, D', _, rfl, DGet.k (k := Sum.inr n) (((s05.trans s6).trans s7) _ _ eD), _, rfl, q' _ (Same.refl _)⟩))) (fun e H6 s6 => ?_) (fun e H6 s6 => ?_)
            · refine D2 (K2.of ((s03.trans s05).trans s6)) ?_
              rw [hT2, er]
              by_cases ew : ws.getD 0 "" = "form"
              · rw [if_pos ew]
                rw [decide_eq_true ew] at e
                have hs : (valV (kvsP ps) (Sum.inr n)).isSome = true := by simpa using e
                obtain ⟨v, hv⟩ := Option.isSome_iff_exists.mp hs
                have m := valV_in hv
                have gin : n ∈ g.2.2.map (·.1) := by
                  rw [← eps]
                  obtain ⟨kv, hkv, ekv⟩ := List.mem_map.mp m
                  obtain ⟨p', hp', rfl⟩ := List.mem_map.mp hkv
                  have ekv : p'.1.1 = n := Sum.inr.inj ekv
                  exact List.mem_map.mpr ⟨p'.1, List.mem_map.mpr ⟨p', hp', rfl⟩, ekv⟩
                exact if_pos gin
              · rw [if_neg ew]
            · simp only [Bool.or_eq_false_iff, Bool.not_eq_false', decide_eq_true_eq] at e
              obtain ⟨ew, _, en⟩ := e
              rw [if_pos ew, er] at hT2
              have hv : valV (kvsP ps) (Sum.inr n) = none := by
                cases ev : valV (kvsP ps) (Sum.inr n) with
                | none => rfl
                | some v =>
                  rw [ev] at en
                  cases en
              have nin : n ∉ ps.map (·.1.1) := fun z => by
                refine valV_not hv ?_
                obtain ⟨p', hp', e'⟩ := List.mem_map.mp z
                exact List.mem_map.mpr ⟨(Sum.inr p'.1.1, V.ref p'.2), List.mem_map.mpr ⟨p', hp', rfl⟩, by rw [e']⟩
              have gin : n ∉ g.2.2.map (·.1) := by
                rw [← eps, List.map_map]
                exact nin
              have s06 := s05.trans s6
              refine ⟨_, rfl, _, rfl, pf, _, rfl, hTf s06, ?_, fun tq ntq => ?_⟩
              · intro z
                have e : HT.sIx ([V.str n, V.str so, V.ref ch] : List V).length 0 (some 1) = min 1 ([V.str n, V.str so, V.ref ch] : List V).length := HT.sIx_nat _ _ 1
                rw [e] at z
                exact absurd z.1 (by show ¬ min 1 3 = 0; decide)
              · have st := same_new (o := .tup (cutV [V.str n, V.str so, V.ref ch] (some 1) none)) ntq
                have sF7 := hF (s06.trans st)
                have eF7 := st _ _ (s06 _ _ eF)
                have eD7 := st _ _ (s06 _ _ eD)
                refine ⟨_, rfl, F, _, _, _, rfl, rfl, sF7, rfl, _, rfl, pf, _, _, _, rfl, rfl, hTf (s06.trans st), rfl, D', _, rfl, DPut.k (k := Sum.inr n) eD7 (by unfold kvsP; rw [List.length_map]; exact big (by omega)), ?_⟩
                have ek := kvsP_put (ps := ps) (p := ((n, so, cs), tq)) nin
                have tp : Tups (upd H6 tq (.tup (cutV [V.str n, V.str so, V.ref ch] (some 1) none))) (upd (upd H6 tq (.tup (cutV [V.str n, V.str so, V.ref ch] (some 1) none))) D' (.dK (putK (kvsP ps) (Sum.inr n) (V.ref tq)))) := Tups.putD _ eD7
                have pl2 : ps.length = g.2.2.length := by rw [← eps, List.length_map]
                refine q1 _ (hT2.trans (if_neg gin)) _ ((K2.of ((s03.trans s06).trans st)).trans (K2.putD _)) ⟨tv, ps ++ [((n, so, cs), tq)], ?_, TLt.putD eD7 (eT.same (s06.trans st)), by rw [upd_same]; exact congrArg (fun z => some (HO.dK z)) ek, by rw [List.map_append, eps]; rfl, fun p' hp' => ?_, by rw [List.length_append]; show ps.length + 1 ≤ 60; omega⟩
                · rw [upd_ne nFD]
                  exact eF7
                · rcases List.mem_append.mp hp' with hp' | hp'
                  · exact (rows p' hp').tups ((Tups.of (s06.trans st)).trans tp)
                  · obtain rfl := List.mem_singleton.mp hp'
                    refine ⟨ch, ks, tp _ _ upd_same, KK.tups ((Tups.of (s06.trans st)).trans tp)⟩
end
end K04
set_option Elab.async false
set_option linter.all false
set_option autoImplicit false
set_option maxRecDepth 100000
set_option maxHeartbeats 4000000
/-! Tn: how many different texts there are: len(set(texts)). -/
namespace Ts
open PySem PySem.Spec PyProof.Rows L2 Vb
section
variable {P : Program} {w : World}
theorem TxtSet.count {h : Heap} {a : Addr} {ys zs : List Str} {c : Nat} (T : TxtSet P w h a (among ys ys.length) c) (nz : zs.Nodup) (mz : ∀ k, k ∈ zs ↔ k ∈ ys) : c = zs.length := by
  have h1 : c ≤ zs.length := T.few fun y hy => (mz y).mpr hy
  obtain ⟨o, es, ep, t, ho, ex, hd, G, hn⟩ := T
  obtain ⟨_, nd, mem⟩ := G.texts (out := es.toList.map (·.2)) (List.Perm.refl _)
  have h2 := nodup_len zs _ nz fun k hk => (mem k).mpr (by
    unfold among
    rw [List.take_length]
    exact decide_eq_true ((mz k).mp hk))
  have el : es.toList.length = es.size := Array.length_toList
  rw [List.length_map, List.length_map, el, hn] at h2
  omega
end
section
variable {X : Cx}
def rLenTexts (P : Program) (w : World) : List V → Hp → VK → Prop := fun xs H Q => ∃ (a : Addr) (ys : List Str) (c : Nat), xs = [.ref a] ∧ H a = some (TsO P w a (among ys ys.length) c) ∧ c ≤ 1000 ∧ ((∀ zs : List Str, zs.Nodup → (∀ k, k ∈ zs ↔ k ∈ ys) → c = zs.length) → Q (.int c) H)
theorem cr_lenTexts : CallR X (.builtin "len") (rLenTexts X.prog X.w) := by
  intro pins s σ H xs us Q I r h
  obtain ⟨a, ys, c, rfl, ha, few, q⟩ := h
  rw [Vals.ref1 r]
  have T : TxtSet X.prog X.w s.heap a (among ys ys.length) c := (I.hok a _ ha).1
  have cnt : ∀ zs : List Str, zs.Nodup → (∀ k, k ∈ zs ↔ k ∈ ys) → c = zs.length := fun zs n m => T.count n m
  obtain ⟨o, es, ep, t, eo, ex, ed, G, hn⟩ := T
  subst hn
  exact call_len_set eo ex ed G.fit (by omega) ⟨.int es.size, H, I.tok _, ⟨_, rfl⟩, q cnt⟩
end
end Ts
set_option Elab.async false
set_option linter.all false
set_option autoImplicit false
set_option maxRecDepth 100000
set_option maxHeartbeats 4000000
/-! Lv: list(d.values()). -/
namespace Lv
open PySem PySem.Spec PyProof.Rows L2
section
variable {X : Cx} {o : Expr} {x : Str} {p pos apos mpos : Pos} {td : TE}
def tListVals (td : TE) : TE := fun σ H Q => td σ H fun x H1 => ∃ a kvs, x = V.ref a ∧ H1 a = some (.dK kvs) ∧ ∀ q, H1 q = none → Q (.ref q) (upd H1 q (.lst (kvs.map (·.2))))
theorem pe_listVals (hc : X.calm = true) (hg : Gl X "list") (hm : X.mg "list" = none) (hd : PE X o td) (hbase : attributeBase o "values" X.env (eval o X.env) = eval o X.env := by rfl) (hline : (apos.endLine == mpos.line) = true := by rfl)
    (hse : starEach [Expr.Call (.Attribute o "values" apos) [] [] mpos] X.env = [(false, eval (Expr.Call (.Attribute o "values" apos) [] [] mpos) X.env)] := by rfl) :
    PE X (.Call (.Name "list" p) [.Call (.Attribute o "values" apos) [] [] mpos] [] pos) (tListVals td) := by
  refine ⟨fun pins s σ H Q I h => ?_⟩
  refine wpAny_Call_Name_kw (ld_blt I hg hm (u := .type "list") (by first | rfl | decide +kernel) ?_ (by first | decide +kernel | decide) (by first | decide +kernel | decide))
  rw [hse]
  refine PySem.callWith_type1 (wpAny_Call_method0_late hbase hline (thn (hd.run pins s σ H _ I h) fun v s1 ⟨x, H1, I1, r1, a, kvs, ex, ha, q⟩ => ?_))
  subst ex
  obtain rfl : v = Value.ref a := r1
  obtain ⟨z, hsys, vs, rel, dof⟩ := dk_of I1.hok ha
  obtain ⟨ep, dat⟩ := dof.dictAt
  have dat' := dat
  obtain ⟨ob, es, ho, ex, hdat, hko, hpr, hnd⟩ := dat'
  refine ⟨"dict", "dict.values", F.plainAttrs_dict, F.slot_dict_values, F.type_dict_values, ⟨ob, ho, ex.1⟩, fun b e => ?_, Calls.callWith_builtin rfl (PySem.evalArgs_none ?_)⟩
  · cases e
    exact ⟨ob, ho, ex.2.1⟩
  refine call_meetsIn F.slot_dict_values ⟨ob, ho, ex.1⟩ F.entry_dict_values (F.args_dict_values_1 _) (meets_dict_values (mixKind X.prog X.w) a hsys) ⟨⟨vs, dof⟩, ?_⟩
  have k1 : ∀ b u, s1.heap.get? b = some u → (s1.heap.push { cls := .type "dict_values", data := .fields #[.ref a] }).get? b = some u := fun b u e => Heap.get?_push_of_some _ e
  have dat1 : (s1.heap.push { cls := .type "dict_values", data := .fields #[.ref a] }).DictAt (mixKind X.prog X.w) a vs ep := dat.keep k1
  have I2 : Inv X pins σ H1 { s1 with heap := s1.heap.push { cls := .type "dict_values", data := .fields #[.ref a] } } := I1.kept (t' := s1.toks) k1
  have hl : kvs.length = vs.length := KV.length rel
  refine PySem.W.kdl_call (s := { s1 with heap := s1.heap.push { cls := .type "dict_values", data := .fields #[.ref a] } }) (PySem.W.kdl_values (r := s1.heap.objs.size) (d := a) (knd := mixKind X.prog X.w) (kvs := vs) (ep := ep)) (I.ok.hd hc) ⟨⟨_, Heap.get?_push_size _ rfl, rfl, rfl⟩, dat1⟩ (by rw [← hl]; exact z) fun h' tk acc' c' hkeep hS hacc => ?_
  refine ⟨.ref _, _, I2.laid (t' := tk) (o := .lst (kvs.map (·.2))) hkeep (Nat.le_refl _) ?_, rfl, q _ (I2.hok.fresh (Nat.le_refl _))⟩
  refine ⟨?_, acc'.toList, c', ?_, ?_⟩
  · rw [List.length_map]; exact z
  · have el : acc'.toList.length = acc'.size := by simp
    refine vals_of_at (by rw [List.length_map, el, hacc.1, hl]) fun j y w h1 h2 => ?_
    obtain ⟨k, hky⟩ := hacc.2 j w (by rw [← Array.getElem?_toList]; exact h2)
    obtain ⟨y', e1, e2⟩ := KV.at' rel hky
    rw [List.getElem?_map, e1] at h1
    cases h1
    exact e2
  · rw [Array.toArray_toList]; exact hS
end
end Lv
set_option Elab.async false
set_option linter.all false
set_option autoImplicit false
set_option maxRecDepth 100000
set_option maxHeartbeats 4000000
/-! Rd: repr of any data, in calm room. -/
namespace Rd
open PySem PySem.Spec PyProof.Rows L2 Vb
def rReprD (K : PySem.W.Frag) : List V → Hp → VK → Prop := fun xs H Q => ∃ (v : V) (d : PyData), xs = [v] ∧ Dp K H v d ∧ d.showable = true ∧ d.hasDict = false ∧ d.depth < 64 ∧ d.shown.length ≤ sizeLine ∧ Q (.str d.shown) H
theorem cr_reprD {X : Cx} (hc : Calm X.A) (hu : X.A.units + 64 < cLine) : CallR X (.builtin "repr") (rReprD X.K) := by
  intro pins s σ H xs us Q I r h
  obtain ⟨v, d, rfl, hd, hs, hn, hz, hl, q⟩ := h
  obtain ⟨u, rfl, r1⟩ := vals1 r
  have same : ∀ {t : Tok}, Inv X pins σ H { s with toks := t } := fun {t} => I.kept (h' := s.heap) (t' := t) fun _ _ e => e
  cases hd with
  | non =>
    cases (show u = Value.none from r1)
    exact PySem.P.repr_of_none ⟨.str _, H, same, ⟨_, rfl⟩, q⟩
  | bl b =>
    cases (show u = Value.bool b from r1)
    exact PySem.P.repr_of_bool ⟨.str _, H, same, ⟨_, rfl⟩, q⟩
  | int i =>
    obtain ⟨t, rfl⟩ := r1
    exact PySem.P.repr_of_int (of_decide_eq_true hs) ⟨.str _, H, same, ⟨_, rfl⟩, q⟩
  | str x =>
    obtain ⟨t, rfl⟩ := r1
    exact PySem.P.repr_of_str ⟨.str _, H, same, ⟨_, rfl⟩, q⟩ (hsz := hl)
  | lst a b => exact call_repr_data hc hu pins s σ H _ _ Q I (.cons r1 .nil) ⟨_, _, rfl, .lst a b, hs, hn, hz, hl, q⟩
  | tup a b => exact call_repr_data hc hu pins s σ H _ _ Q I (.cons r1 .nil) ⟨_, _, rfl, .tup a b, hs, hn, hz, hl, q⟩
end Rd
set_option Elab.async false
set_option linter.all false
set_option autoImplicit false
set_option maxRecDepth 100000
set_option maxHeartbeats 8000000
namespace K04
open PySem PySem.Spec PyProof.Rows L2 Vb Wd Xd Xo Xe Xi Xm Xr Xv Ts K01 Zt Zk Nc Nd Lv Rd
theorem takes_ok {L : List Str} {g g' : Got} {v : V} (h : takes g v = some g') (lin : LineIn L (wordsV v)) (ok : GotOk L g) : GotOk L g' ∧ g'.2.2.length ≤ g.2.2.length + 1 := by
  unfold takes at h
  split at h
  · cases h
    exact ⟨⟨ok.tops, ok.form, ok.once⟩, Nat.le_succ _⟩
  · split at h
    · rename_i e
      cases h
      refine ⟨⟨fun ys z => ?_, ok.form, ok.once⟩, Nat.le_succ _⟩
      cases z
      exact lin.tops e.2
    · cases er : readW (wordsV v) with
      | none =>
        rw [er] at h
        cases h
      | some d =>
        rw [er] at h
        have h : (if d.1 ∈ g.2.2.map (·.1) then none else some (g.1, g.2.1, g.2.2 ++ [d])) = some g' := h
        by_cases gin : d.1 ∈ g.2.2.map (·.1)
        · rw [if_pos gin] at h
          cases h
        · rw [if_neg gin] at h
          cases h
          have fn : isNam (.str d.1) = true ∧ isNam (.str d.2.1) = true := by
            unfold readW at er
            cases ef : formB (wordsV v) with
            | false =>
              rw [ef] at er
              cases er
            | true =>
              rw [ef] at er
              cases er
              unfold formB at ef
              simp only [Bool.and_eq_true, decide_eq_true_eq, List.all_eq_true] at ef
              exact ⟨ef.1.1.2, ef.1.2⟩
          refine ⟨⟨ok.tops, fun d' hd => ?_, ?_⟩, by show (g.2.2 ++ [d]).length ≤ _; rw [List.length_append]; exact Nat.le_refl _⟩
          · rcases List.mem_append.mp hd with hd | hd
            · exact ok.form d' hd
            · obtain rfl := List.mem_singleton.mp hd
              exact ⟨lin.form _ er, fn.1, fn.2⟩
          · show ((g.2.2 ++ [d]).map (·.1)).Nodup
            rw [List.map_append]
            exact List.nodup_append.mpr ⟨ok.once, by simp, fun a ha b hb => by
              obtain rfl := List.mem_singleton.mp hb
              exact fun z => gin (by
                have z : a = d.1 := z
                rw [← z]
                exact ha)⟩
theorem same_K2 {H0 H H' : Hp} {F D : Addr} (s : Same H0 H) (nF : H0 F = none) (nD : H0 D = none) (k : K2 F D H H') : Same H0 H' := fun b o e => k b o (ne_of_none e nF) (ne_of_none e nD) (s b o e)
theorem small_int : ∀ n < 64, (PyData.int ((n : Nat) : Int)).showable = true ∧ (PyData.int ((n : Nat) : Int)).hasDict = false ∧ (PyData.int ((n : Nat) : Int)).depth < 64 ∧ (PyData.int ((n : Nat) : Int)).shown.length ≤ 2 := by decide +kernel
theorem gName_eq {i : Nat} {v : V} {σ : L2.St} {H : Hp} {Q : L2.St → Hp → Prop} : gName i v σ H Q = Q (σ.set i (some v)) H := rfl
theorem ifE_tells {tt : TT} {t u : TE} {σ : L2.St} {H : Hp} {A : Bool} {Q : VK} (hA : Tells tt σ H A) (h1 : A = true → ∀ H', Same H H' → t σ H' Q) (h2 : A = false → ∀ H', Same H H' → u σ H' Q) : tIf tt t u σ H Q := by
  refine hA _ fun H' s' => ?_
  cases A with
  | false => exact iteF (h2 rfl H' s')
  | true => exact iteT (h1 rfl H' s')
abbrev s_l_read : Stmt := topS 46
abbrev nRd : List Str := ["_law_lines", "_law_found", "_law_at", "_law_kinds", "_law_kind", "_law_sorts", "_law_sort", "_law_step"]
theorem sc_l_read : FnScope nRd ["_law_lines"] (defScope s_l_read) := ⟨rfl, rfl, rfl, by decide +kernel, rfl, by decide +kernel, by decide +kernel⟩
/-- lines that may be asked -/
structure LinesOk (H : Hp) (L : List Str) (ls : List V) : Prop where
  few : ls.length ≤ 40
  lL : L.length < 64
  each : ∀ v ∈ ls, Judged H v ∧ (wordsV v).length ≤ 60 ∧ LineIn L (wordsV v)
def spRead : Sp := fun vs H Q _ => ∃ (l : Addr) (ls : List V) (L : List Str), vs = [.ref l] ∧ H l = some (.lst ls) ∧ LinesOk H L ls ∧
  (∀ i g, i < ls.length → readTo ls i = some g → readTo ls (i + 1) = none → ∀ H', Same H H' → Q (.str ("parse " ++ (PyData.int (i : Nat)).shown)) H') ∧
  ∀ g, readTo ls ls.length = some g → GotOk L g → (schG g = false → ∀ H', Same H H' → Q (.str "scheme") H') ∧
    ∀ b ys, g.1 = some b → g.2.1 = some ys → schB (.str b) (some ys) g.2.2 = true → ∀ F tl tb ps H', Same H H' → Held H' F tl tb b ys ps → (∀ y ∈ ys, Fine y) → ps.map (·.1) = g.2.2 → Q (.ref F) H'
section
variable {P : Program} {w : World} {K : PySem.W.Frag} {mg : Str → Option Value} {base : Heap}
theorem ok_l_read (D : Df K mg "_law_read" s_l_read ["_law_lines"]) (G_l_takes : Cg P w K mg base 3 "_law_takes" spTakes) (z_range : mg "range" = none) (z_len : mg "len" = none) (z_repr : mg "repr" = none) (z_list : mg "list" = none) (z_set : mg "set" = none) :
    Cg P w K mg base 4 "_law_read" spRead := by
  refine D.ok sc_l_read (fun vs H Q E h => ?_) (fun cdv A outer s H vs Q E f0 hc hr h => ?_)
  · obtain ⟨l, ls, L, rfl, _⟩ := h
    rfl
  · obtain ⟨l, ls, L, rfl, hl, LO, q1, q2⟩ := h
    refine ⟨_, (pss_cons (ps_set (i := 1) sc_l_read.nd rfl (Or.inl rfl) (pe_lst (pa_cons pe_non (pa_cons pe_non (pa_cons pe_dnewK pa_nil)))))
      (pss_cons (ps_for PassesOwn.never rfl (pi_range1 (by rfl) z_range (pa_cons (pe_callB call_len_seq (by rfl) z_len PySem.boot_len (pa_cons (pv 0) pa_nil)) pa_nil)) (pg_name (i := 2) sc_l_read.nd rfl (Or.inl rfl))
      (pss_one (ps_if (pt_not (pt_val (pe_cg G_l_takes hc hr (by rfl) (pa_cons (pv 1) (pa_cons (pe_ix (ix_list : IxR _ (rIxL K)) (pv 0) (pv 2) (fun _ _ => rfl)) pa_nil)))))
      (pss_one (ps_ret (pe_op op_add_str pe_str (pe_callB (cr_reprD hc hr.units) (by rfl) z_repr (by decide +kernel) (pa_cons (pv 2) pa_nil)))))
      pss_nil)))
      (pss_cons (ps_set (i := 3) sc_l_read.nd rfl (Or.inl rfl) (pe_listVals rfl (by rfl) z_list (pe_ix (ix_list : IxR _ (rIxL K)) (pv 1) pe_int (fun _ _ => rfl))))
      (pss_cons (ps_if (PW.pt (pw_or (pt_cmpR op_isN (pe_ix (ix_list : IxR _ (rIxL K)) (pv 1) pe_int (fun _ _ => rfl)) pe_non (nomark _)) (pw_or (pt_cmpR op_isN (pe_ix (ix_list : IxR _ (rIxL K)) (pv 1) pe_int (fun _ _ => rfl)) pe_non (nomark _)) (pw_or (pt_cmpR op_notIn_seq (pe_ix (ix_list : IxR _ (rIxL K)) (pv 1) pe_int (fun _ _ => rfl)) (pe_ix (ix_list : IxR _ (rIxL K)) (pv 1) pe_int (fun _ _ => rfl)) (by rfl)) (pw_or1 (pt_cmpR (op_eqD hr.units) (pv 3) (pe_lst pa_nil) (nomark _)))))))
      (pss_one (ps_ret pe_str))
      pss_nil)
      (pss_cons (ps_set (i := 5) sc_l_read.nd rfl (Or.inl rfl) (pe_op op_cat (pe_ix (ix_list : IxR _ (rIxL K)) (pv 1) pe_int (fun _ _ => rfl)) (pe_lc (own := [("_law_kind", 4)]) (g := gName 4) (by rfl) sc_l_read.nd (pi_list (pv 3)) (blkOk_by (own := [("_law_kind", 4)]) (N := nRd) (sc := defScope s_l_read) (by decide +kernel)) (fun _ _ _ _ _ => pg_name (i := 4) sc_l_read.nd rfl (Or.inl rfl)) (fun _ _ _ _ _ => pts_nil) (fun _ _ _ _ _ => (pe_ix (ix_tup : IxR _ (rIxT K)) (pv 4) pe_int (fun _ _ => rfl))))))
      (pss_cons (ps_for PassesOwn.never rfl (pi_list (pv 3)) (pg_name (i := 4) sc_l_read.nd rfl (Or.inl rfl))
      (pss_one (ps_set (i := 5) sc_l_read.nd rfl (Or.inl rfl) (pe_op op_cat (pv 5) (pe_lc (own := [("_law_sort", 6), ("_law_step", 7)]) (g := gTup K 2 (gCons (gName 6) (gCons (gName 7) gNil))) (by rfl) sc_l_read.nd (pi_tup (pe_ix (ix_tup : IxR _ (rIxT K)) (pv 4) pe_int (fun _ _ => rfl))) (blkOk_by (own := [("_law_sort", 6), ("_law_step", 7)]) (N := nRd) (sc := defScope s_l_read) (by decide +kernel)) (fun _ _ _ _ _ => pg_tup (by rfl) (pgs_cons (pg_name (i := 6) sc_l_read.nd rfl (Or.inl rfl)) (pgs_cons (pg_name (i := 7) sc_l_read.nd rfl (Or.inl rfl)) pgs_nil))) (fun _ _ _ _ _ => pts_nil) (fun _ _ _ _ _ => (pv 6)))))))
      (pss_one (ps_ret (pe_ifExp (PW.pt (pw_or (pt_cmpR op_lt (pe_callB cr_lenSet (by rfl) z_len (by decide +kernel) (pa_cons (pe_callTy (cr_setKeys rfl hr.units) (by rfl) z_set (by decide +kernel) (pa_cons (pv 3) pa_nil)) pa_nil)) (pe_callB call_len_seq (by rfl) z_len PySem.boot_len (pa_cons (pv 3) pa_nil)) (nomark _)) (pw_or (pt_cmpR op_gt (pe_callB cr_lenTexts (by rfl) z_len (by decide +kernel) (pa_cons (pe_callTy (cr_setFew rfl) (by rfl) z_set (by decide +kernel) (pa_cons (pv 5) pa_nil)) pa_nil)) pe_int (nomark _)) (pw_or1 (pt_cmpR op_gt (pe_callB call_len_seq (by rfl) z_len PySem.boot_len (pa_cons (pv 3) pa_nil)) pe_int (nomark _)))))) pe_str (pv 1)))))))))), ?_⟩
    have big : ∀ {n : Nat}, n ≤ 400 → n < sizeLine := fun h => Nat.lt_of_le_of_lt h (by decide)
    refine fun D0 nD0 => ⟨by show 3 ≤ sizeLine; decide, fun F nF => ?_⟩
    have sD := same_new (o := .dK []) nD0
    have sF := same_new (o := .lst [V.non, .non, .ref D0]) nF
    have nF0 : H F = none := by
      cases e : H F with
      | none => rfl
      | some o =>
        have := sD _ _ e
        rw [nF] at this
        cases this
    have lk : ∀ {H' : Hp}, Same H H' → SqL K H' l ls := fun s => .inl (.inl (s _ _ hl))
    refine ⟨_, rfl, l, ls, rfl, .inl (lk (sD.trans sF)), _, rfl, ?_, ?_, for_range (lo := 0) (fun i σ H' => ∃ (g : Got) (o2 : Option V), readTo ls i = some g ∧ σ = [some (.ref l), some (.ref F), o2, none, none, none, none, none] ∧ Same H H' ∧ Found H' F D0 g ∧ GotOk L g ∧ g.2.2.length ≤ i) ⟨(none, none, []), none, rfl, rfl, sD.trans sF, ⟨.non, [], upd_same, rfl, sF _ _ upd_same, rfl, (fun q hq => absurd hq List.not_mem_nil), Nat.zero_le _⟩, ⟨(fun _ z => by cases z), (fun _ z => absurd z List.not_mem_nil), List.nodup_nil⟩, Nat.le_refl _⟩ ?_ ?_⟩
    · have := LO.few
      omega
    · have := LO.few
      omega
    · rintro i σ H1 hi ⟨g, o2, hg, rfl, sm, fd, ok, gl⟩
      have hv : ls[i]? = some ls[i] := List.getElem?_eq_getElem hi
      obtain ⟨jd, w60, lin⟩ := LO.each ls[i] (List.getElem_mem hi)
      have nx := readTo_step hg hv
      have few := LO.few
      have ei : (0 : Int) + (i : Nat) = (i : Nat) := by omega
      rw [ei]
      generalize ls[i] = v at hv jd w60 lin nx
      have ai : atI ls (i : Int) = some v := by
        rw [atI_nat]
        exact hv
      refine ⟨_, rfl, _, rfl, _, rfl, l, _, _, _, rfl, rfl, lk sm, ai, F, D0, v, g, rfl, fd, by omega, jd.same sm, w60, fun g' hg' H2 k2 fd' => ⟨_, rfl, iteF ?_⟩, fun hn H2 k2 => ⟨_, rfl, iteT ?_⟩⟩
      · obtain ⟨ok', gl'⟩ := takes_ok hg' lin ok
        exact ⟨g', _, nx.trans hg', rfl, same_K2 sm nF0 nD0 k2, fd', ok', by omega⟩
      · have sm2 := same_K2 sm nF0 nD0 k2
        obtain ⟨t1, t2, t3, t4⟩ := small_int i (by omega)
        have l6 : ("parse " : Str).length = 6 := by decide +kernel
        exact ⟨_, rfl, _, .int (i : Nat), rfl, .int _, t1, t2, t3, Nat.le_of_lt (big (by omega)), _, _, rfl, rfl, Nat.le_of_lt (big (by omega)), q1 i g hi hg (nx.trans hn) H2 sm2⟩
    · rintro σ H1 ⟨g, o2, hg, rfl, sm, fd, ok, gl⟩
      rw [Int.toNat_natCast] at hg gl
      obtain ⟨r1, r2⟩ := q2 g hg ok
      obtain ⟨tv, ps, eF, eT, eD, eps, rows, psl⟩ := fd.ex
      refine ⟨_, rfl, F, _, _, .ref D0, rfl, rfl, .inl (.inl eF), by rfl, D0, kvsP ps, rfl, eD, fun lk' nlk => ?_⟩
      have ev : (kvsP ps).map (·.2) = ps.map fun p => V.ref p.2 := by unfold kvsP; rw [List.map_map]; rfl
      rw [ev]
      have s1 := same_new (o := .lst (ps.map fun p => V.ref p.2)) nlk
      have e1 : (upd H1 lk' (.lst (ps.map fun p => V.ref p.2))) lk' = some (.lst (ps.map fun p => V.ref p.2)) := upd_same
      generalize upd H1 lk' (.lst (ps.map fun p => V.ref p.2)) = H2 at s1 e1 ⊢
      show gName 3 (V.ref lk') _ _ _
      rw [gName_eq]
      dsimp only
      have eF2 := s1 _ _ eF
      have lF : ∀ {H' : Hp}, Same H2 H' → SqL K H' F [bV g.1, tv, .ref D0] := fun s => .inl (.inl (s _ _ eF2))
      have rows2 : ∀ {H' : Hp}, Same H2 H' → ∀ p ∈ ps, RowAt H' p.2 p.1 := fun s p hp => (rows p hp).tups (Tups.of (s1.trans s))
      have emp : decide (ps = []) = PyData.eqv (.list (ps.map fun p => (kindK p.1.2).data)) (.list []) := by
        cases ps <;> rfl
      have pl2 : ps.length = g.2.2.length := by rw [← eps, List.length_map]
      have few := LO.few
      have askE : ∀ {H' : Hp} {σ : L2.St}, Same H2 H' → σ[3]? = some (some (.ref lk')) → Tells (tTest (tOp (rEqD K) (tVar 3) (tLst tNil))) σ H' (decide (ps = [])) := fun {H' σ} s hσ Q' q' => by
        refine ⟨_, hσ, Nat.zero_le _, fun l6 nl6 => ?_⟩
        have s8 := same_new (o := .lst []) nl6
        refine ⟨.list (ps.map fun p => (kindK p.1.2).data), .list [], .lst (.inl (.inl ((s.trans s8) _ _ e1))) (rows_dp (rows2 (s.trans s8))), .lst (.inl (.inl upd_same)) .nil, ?_, by decide +kernel, _, rfl, ?_⟩
        · refine (lays_lst (n := 3) fun x hx => ?_).shaped (by decide)
          obtain ⟨p, hp, rfl⟩ := List.mem_map.mp hx
          obtain ⟨ch, ks, er, kk⟩ := rows p hp
          have okp := ok.form p.1 (by rw [← eps]; exact List.mem_map.mpr ⟨p, hp, rfl⟩)
          exact lays_kind (low_asc fun c hc => List.all_eq_true.mp (nam_len okp.2.2).2.2 c hc) kk.asc
        · rw [← emp]
          exact q' _ s8
      have is0 : decide (bV g.1 = V.non) = decide (g.1 = none) := by
        cases g.1 <;> simp [bV]
      cases eb : g.1 with
      | none =>
        have bad : schG g = false := by
          unfold schG
          rw [eb]
          cases eg : g.2.1 with
          | none => rfl
          | some ys =>
            rw [show bV none = V.non from rfl, schB_some]
            have : inV .non (ys.map V.str) = false := by
              unfold inV
              rw [List.any_eq_false]
              intro x hx
              obtain ⟨y, hy, rfl⟩ := List.mem_map.mp hx
              simp [eqV]
            rw [this]
            rfl
        rw [eb] at eF2 lF
        refine if_tells (A := true || false) (tells_or (fun Q' q' => ⟨_, rfl, F, _, _, _, rfl, rfl, lF (Same.refl _), rfl, rfl, _, rfl, q' _ (Same.refl _)⟩) (fun _ _ z => absurd z (by simp))) (fun _ H3 s3 => r1 bad H3 (sm.trans (s1.trans s3))) (fun z => absurd z (by simp))
      | some b =>
        rw [eb] at eF2 lF
        cases eg : g.2.1 with
        | none =>
          rw [eg] at eT
          have eT : tv = .non := eT
          subst eT
          have bad : schG g = false := by
            unfold schG
            rw [eg]
            rfl
          refine if_tells (A := decide (V.str b = V.non) || (decide (V.non = V.non) || false)) (tells_or (fun Q' q' => ⟨_, rfl, F, _, _, _, rfl, rfl, lF (Same.refl _), rfl, rfl, _, rfl, q' _ (Same.refl _)⟩) (fun H3 s3 _ => tells_or (fun Q' q' => ⟨_, rfl, F, _, _, _, rfl, rfl, lF s3, rfl, rfl, _, rfl, q' _ (Same.refl _)⟩) (fun _ _ z => absurd z (by simp)))) (fun _ H3 s3 => r1 bad H3 (sm.trans (s1.trans s3))) (fun z => absurd z (by simp))
        | some ys =>
          rw [eg] at eT
          obtain ⟨t, rfl, tF, et, fy, yl⟩ := eT
          have sch : schG g = schB (.str b) (some ys) g.2.2 := by
            unfold schG
            rw [eb, eg]
            rfl
          have lt : ∀ {H' : Hp}, Same H2 H' → SqL K H' t (ys.map V.str) := fun s => .inl (.inl ((s1.trans s) _ _ et))
          have fls : (ys.map V.str).all flatV = true := flat_strs ys
          refine if_tells (A := decide (V.str b = V.non) || (decide (V.ref t = V.non) || (!inV (.str b) (ys.map V.str) || decide (ps = [])))) (tells_or (fun Q' q' => ⟨_, rfl, F, _, _, _, rfl, rfl, lF (Same.refl _), rfl, rfl, _, rfl, q' _ (Same.refl _)⟩) (fun H3 s3 _ => tells_or (fun Q' q' => ⟨_, rfl, F, _, _, _, rfl, rfl, lF s3, rfl, rfl, _, rfl, q' _ (Same.refl _)⟩) (fun H4 s4 _ => tells_or (fun Q' q' => ⟨_, rfl, F, _, _, _, rfl, rfl, lF (s3.trans s4), rfl, _, rfl, F, _, _, _, rfl, rfl, lF (s3.trans s4), rfl, t, _, rfl, .inl (lt (s3.trans s4)), rfl, fls, _, rfl, q' _ (Same.refl _)⟩) (fun H5 s5 _ => askE ((s3.trans s4).trans s5) rfl)))) (fun e H3 s3 => ?_) (fun e H3 s3 => ?_)
          · refine r1 ?_ H3 (sm.trans (s1.trans s3))
            rw [sch, schB_some]
            simp only [Bool.or_eq_true, Bool.not_eq_true', decide_eq_true_eq] at e
            rcases e with e | e | e | e
            · cases e
            · cases e
            · rw [e]
              rfl
            · have : g.2.2 = [] := by rw [← eps, e]; rfl
              rw [this]
              simp
          · simp only [Bool.or_eq_false_iff, Bool.not_eq_false', decide_eq_false_iff_not] at e
            obtain ⟨_, _, bm, nps⟩ := e
            have s13 := s1.trans s3
            have kids4 : ∀ p ∈ ps, p.1.2.2.length ≤ 4 := fun p hp => by
              obtain ⟨ch, ks, _, kk⟩ := rows p hp
              have := kk.hi
              have := kk.len
              omega
            have e13 := s3 _ _ e1
            -- the sorts of the forms
            refine ⟨_, rfl, F, _, _, _, rfl, rfl, lF s3, rfl, _, rfl, lk', rfl, ⟨_, .inl (.inl e13)⟩, fun Dc nDc => ?_⟩
            refine lc_list (K := K) (a := lk') (xs := ps.map fun p => V.ref p.2) (fun i H' => Same H3 H' ∧ H' Dc = some (.lst (((ps.take i).map (·.1.2.1)).map V.str))) ⟨same_put nDc (Same.refl _), upd_same⟩ (fun i H' _ h => .inl (.inl (h.1 _ _ e13))) (fun i x H5 hx h => ?_) (fun H5 h => ?_)
            · obtain ⟨s5, e5⟩ := h
              rw [List.getElem?_map] at hx
              obtain ⟨p', hp', rfl⟩ := Option.map_eq_some_iff.mp hx
              have il : i < ps.length := (List.getElem?_eq_some_iff.mp hp').1
              obtain ⟨ch, ks, er, kk⟩ := rows2 (s3.trans s5) p' (List.mem_of_getElem? hp')
              refine ⟨rfl, _, rfl, p'.2, _, _, _, rfl, rfl, .inl (.inl er), rfl, _, e5, ?_, same_put nDc s5, ?_⟩
              · rw [List.length_map, List.length_map, List.length_take]
                exact big (by omega)
              · rw [upd_same, List.take_add_one, hp', List.map_append, List.map_append]
                rfl
            · obtain ⟨s5, e5⟩ := h
              rw [List.length_map, List.take_of_length_le (Nat.le_refl _)] at e5
              have s15 := s13.trans s5
              refine ⟨t, Dc, _, _, rfl, rfl, s15 _ _ et, e5, ?_, fun sl nsl => ?_⟩
              · rw [List.length_map, List.length_map, List.length_map]
                exact Nat.le_of_lt (big (by omega))
              · have s6 := same_new (o := .lst (ys.map V.str ++ (ps.map (·.1.2.1)).map V.str)) nsl
                have e6 : (upd H5 sl (.lst (ys.map V.str ++ (ps.map (·.1.2.1)).map V.str))) sl = some (.lst ((ys ++ ps.map (·.1.2.1)).map V.str)) := by
                  rw [upd_same, List.map_append]
                have s26 := (s3.trans s5).trans s6
                generalize upd H5 sl (.lst (ys.map V.str ++ (ps.map (·.1.2.1)).map V.str)) = H6 at e6 s6 s26 ⊢
                have kidsN : ∀ i, ((ps.take i).flatMap fun p => p.1.2.2.map (·.1)).length ≤ i * 4 := fun i => by
                  induction i with
                  | zero => exact Nat.zero_le _
                  | succ i ih =>
                    by_cases h : i < ps.length
                    · rw [List.take_add_one, List.getElem?_eq_getElem h, List.flatMap_append, List.length_append]
                      have := kids4 ps[i] (List.getElem_mem h)
                      simp only [Option.toList_some, List.flatMap_cons, List.flatMap_nil, List.append_nil, List.length_map]
                      omega
                    · rw [List.take_of_length_le (by omega)]
                      rw [List.take_of_length_le (by omega)] at ih
                      omega
                have e16 := s26 _ _ e1
                refine ⟨_, rfl, lk', rfl, ⟨_, .inl (.inl e16)⟩, for_list (K := K) (a := lk') (xs := ps.map fun p => V.ref p.2) (fun i σ H' => Same H6 H' ∧ ∃ (o2 o4 o6 o7 : Option V) (sa : Addr), σ = [some (.ref l), some (.ref F), o2, some (.ref lk'), o4, some (.ref sa), o6, o7] ∧ H' sa = some (.lst ((ys ++ ps.map (·.1.2.1) ++ (ps.take i).flatMap fun p => p.1.2.2.map (·.1)).map V.str))) ⟨Same.refl _, _, _, _, _, sl, rfl, by simp [e6]⟩ (fun i σ H' _ h => .inl (.inl (h.1 _ _ e16))) ?_ ?_⟩
                · rintro i x σ H7 hx ⟨s7, o2', o4', o6', o7', sa, rfl, esa⟩
                  rw [List.getElem?_map] at hx
                  obtain ⟨p', hp', rfl⟩ := Option.map_eq_some_iff.mp hx
                  have il : i < ps.length := (List.getElem?_eq_some_iff.mp hp').1
                  obtain ⟨ch, ks, er, kk⟩ := rows2 (s26.trans s7) p' (List.mem_of_getElem? hp')
                  have k4 := kids4 p' (List.mem_of_getElem? hp')
                  refine ⟨_, rfl, _, rfl, p'.2, _, _, _, rfl, rfl, .inl (.inl er), rfl, ch, rfl, ⟨_, .inl (.inl kk.at_)⟩, fun Dk nDk => ?_⟩
                  refine lc_tup (K := K) (a := ch) (xs := ks.map V.ref) (fun j H' => Same H7 H' ∧ H' Dk = some (.lst (((p'.1.2.2.take j).map (·.1)).map V.str))) ⟨same_put nDk (Same.refl _), upd_same⟩ (fun j H' _ h => .inl (.inl (h.1 _ _ kk.at_))) (fun j x H8 hx h => ?_) (fun H8 h => ?_)
                  · obtain ⟨s8, e8⟩ := h
                    rw [List.getElem?_map] at hx
                    obtain ⟨tk, htk, rfl⟩ := Option.map_eq_some_iff.mp hx
                    have jl : j < ks.length := (List.getElem?_eq_some_iff.mp htk).1
                    have jl2 : j < p'.1.2.2.length := by have := kk.len; omega
                    have hc : p'.1.2.2[j]? = some p'.1.2.2[j] := List.getElem?_eq_getElem jl2
                    have kd := kk.kid j tk _ htk hc
                    refine ⟨tk, _, rfl, .inl (.inl (s8 _ _ kd.at_)), rfl, _, _, rfl, _, _, rfl, rfl, rfl, _, rfl, _, e8, ?_, same_put nDk s8, ?_⟩
                    · rw [List.length_map, List.length_map, List.length_take]
                      exact big (by omega)
                    · rw [upd_same, List.take_add_one, hc, List.map_append, List.map_append]
                      rfl
                  · obtain ⟨s8, e8⟩ := h
                    rw [List.length_map, List.take_of_length_le (by have := kk.len; omega)] at e8
                    have kn := kidsN i
                    refine ⟨sa, Dk, _, _, rfl, rfl, s8 _ _ esa, e8, ?_, fun sn nsn => ?_⟩
                    · simp only [List.length_map, List.length_append]
                      exact Nat.le_of_lt (big (by omega))
                    · refine ⟨(s7.trans s8).trans (same_new nsn), _, _, _, _, sn, rfl, ?_⟩
                      rw [upd_same, List.take_add_one, hp', List.flatMap_append, ← List.append_assoc, List.map_append]
                      simp
                · rintro σ H7 ⟨s7, o2', o4', o6', o7', sa, rfl, esa⟩
                  rw [List.length_map, List.take_of_length_le (Nat.le_refl _)] at esa
                  have s27 := s26.trans s7
                  have mem_said : ∀ k, k ∈ ys ++ ps.map (·.1.2.1) ++ ps.flatMap (fun p => p.1.2.2.map (·.1)) ↔ k ∈ ys ++ said g.2.2 := fun k => by
                    rw [← eps]
                    unfold said saidBy
                    simp only [List.mem_append, List.mem_map, List.mem_flatMap, List.mem_cons]
                    constructor
                    · rintro ((h | ⟨p', hp', rfl⟩) | ⟨p', hp', c, hc, rfl⟩)
                      · exact .inl h
                      · exact .inr ⟨p'.1, ⟨p', hp', rfl⟩, .inl rfl⟩
                      · exact .inr ⟨p'.1, ⟨p', hp', rfl⟩, .inr ⟨c, hc, rfl⟩⟩
                    · rintro (h | ⟨d, ⟨p', hp', rfl⟩, rfl | ⟨c, hc, rfl⟩⟩)
                      · exact .inl (.inl h)
                      · exact .inl (.inr ⟨p', hp', rfl⟩)
                      · exact .inr ⟨p', hp', c, hc, rfl⟩
                  have inL : ∀ k ∈ ys ++ ps.map (·.1.2.1) ++ ps.flatMap (fun p => p.1.2.2.map (·.1)), k ∈ L := fun k hk => by
                    rcases List.mem_append.mp ((mem_said k).mp hk) with h | h
                    · exact ok.tops ys eg k h
                    · unfold said at h
                      obtain ⟨d, hd, h⟩ := List.mem_flatMap.mp h
                      exact (ok.form d hd).1 k h
                  have allN : (ys ++ ps.map (·.1.2.1) ++ ps.flatMap (fun p => p.1.2.2.map (·.1))).length ≤ 400 := by
                    have h1 := kidsN ps.length
                    rw [List.take_of_length_le (Nat.le_refl _)] at h1
                    simp only [List.length_append, List.length_map]
                    omega
                  generalize ys ++ ps.map (·.1.2.1) ++ ps.flatMap (fun p => p.1.2.2.map (·.1)) = all at esa mem_said inL allN
                  have lL := LO.lL
                  dsimp only [tRet]
                  refine ifE_tells (A := (!decide (g.2.2.map (·.2)).Nodup) || (decide (8 < (dd (ys ++ said g.2.2)).length) || decide (24 < ps.length))) (tells_or (fun Q' q' => ?_) (fun H8 s8 _ => tells_or (fun Q' q' => ?_) (fun H9 s9 _ => fun Q' q' => ?_))) (fun e H8 s8 => ?_) (fun e H8 s8 => ?_)
                  · refine ⟨_, rfl, lk', ps.map fun p => (kindK p.1.2, p.2), rfl, ?_, fun m hm => ?_, by rw [List.length_map]; omega, fun st n1 nst le1 cnt1 => ?_⟩
                    · refine .inl (.inl ?_)
                      rw [List.map_map]
                      exact s27 _ _ e1
                    · obtain ⟨p', hp', rfl⟩ := List.mem_map.mp hm
                      exact ⟨(rows2 s27 p' hp').dp, kind_depth _⟩
                    · have s2 := same_new (o := SetN st n1) nst
                      have ek : (ps.map fun p => (kindK p.1.2, p.2)).map (·.1) = (ps.map (·.1)).map fun d => kindK d.2 := by rw [List.map_map, List.map_map]; rfl
                      rw [ek, nodup_kinds, List.length_map, eps] at cnt1
                      rw [List.length_map] at le1
                      refine ⟨st, n1, rfl, upd_same, by omega, _, rfl, lk', _, rfl, .inl (.inl (.inl ((s27.trans s2) _ _ e1))), _, _, rfl, rfl, _, rfl, ?_⟩
                      rw [List.length_map]
                      have ed : decide ((n1 : Int) < (ps.length : Int)) = !decide (g.2.2.map (·.2)).Nodup := by
                        by_cases e : n1 = ps.length
                        · rw [decide_eq_true (cnt1.mp e), decide_eq_false (by omega)]
                          rfl
                        · rw [decide_eq_false fun z => e (cnt1.mpr z), decide_eq_true (by omega)]
                          rfl
                      rw [ed]
                      exact q' _ s2
                  · refine ⟨_, rfl, sa, all, L, rfl, .inl (.inl (.inl (s8 _ _ esa))), by omega, inL, fun st c nst cl cL => ⟨st, all, c, rfl, upd_same, by omega, fun cnt => ?_⟩⟩
                    have s2 := same_new (o := TsO P w st (among all all.length) c) nst
                    have ec := cnt (dd (ys ++ said g.2.2)) (nodup_dd _) fun k => (mem_dd _ k).trans (mem_said k).symm
                    refine ⟨_, _, rfl, rfl, _, rfl, ?_⟩
                    have ed : decide ((8 : Int) < (c : Int)) = decide (8 < (dd (ys ++ said g.2.2)).length) := by
                      rw [ec, decide_eq_decide]
                      omega
                    rw [ed]
                    exact q' _ s2
                  · refine ⟨_, rfl, lk', _, rfl, .inl (.inl (.inl ((s27.trans (s8.trans s9)) _ _ e1))), _, _, rfl, rfl, _, rfl, ?_⟩
                    rw [List.length_map]
                    have ed : decide ((24 : Int) < (ps.length : Int)) = decide (24 < ps.length) := by
                      rw [decide_eq_decide]
                      omega
                    rw [ed]
                    exact q' _ (Same.refl _)
                  · refine r1 ?_ H8 (sm.trans (s1.trans (s27.trans s8)))
                    rw [sch, schB_some]
                    simp only [Bool.or_eq_true, Bool.not_eq_true', decide_eq_true_eq, decide_eq_false_iff_not] at e
                    rcases e with e | e | e
                    · rw [decide_eq_false e]
                      simp
                    · rw [decide_eq_false (p := (dd (ys ++ said g.2.2)).length ≤ 8) (by omega)]
                      simp
                    · rw [decide_eq_false (p := g.2.2.length ≤ 24) (by omega)]
                      simp
                  · simp only [Bool.or_eq_false_iff, Bool.not_eq_false', decide_eq_true_eq, decide_eq_false_iff_not] at e
                    obtain ⟨h1, h2, h3⟩ := e
                    have good : schB (.str b) (some ys) g.2.2 = true := by
                      have p1 : 1 ≤ g.2.2.length := by
                        rw [← pl2]
                        exact List.length_pos_iff.mpr nps
                      rw [schB_some, bm, decide_eq_true p1, decide_eq_true (p := g.2.2.length ≤ 24) (by omega), decide_eq_true (p := (dd (ys ++ said g.2.2)).length ≤ 8) (by omega), decide_eq_true ok.once, decide_eq_true h1]
                      rfl
                    have s28 := s27.trans s8
                    exact ⟨_, rfl, r2 b ys eb eg good F t D0 ps H8 (sm.trans (s1.trans s28)) ⟨s28 _ _ eF2, (s1.trans s28) _ _ et, (s1.trans s28) _ _ eD, rows2 s28⟩ fy eps⟩
end
end K04
set_option Elab.async false
set_option linter.all false
set_option autoImplicit false
set_option maxRecDepth 100000
set_option maxHeartbeats 4000000
/-! Xl: a lambda without parameters handed to a def that calls it, in calm room; what it lets out is taken there. -/
namespace Xl
open PySem PySem.Spec PyProof.Rows L2 Vb Xd LamX
section
variable {X : Cx} {pins : List (Addr × Obj)} {σ : L2.St} {H : Hp} {s : Shared}
/-- the call of the lambda's name in the def that got it -/
theorem pe_actC {CXg : CXT} {Eg : XK} {Ng : List Str} {qg : Str} {sg : Scope} {g f c' : Addr} {cdg pm ctv : Value} {params : Arguments} {body : Expr} {scope : Scope} {k i : Nat} {a : Str} {pn : List (Addr × Obj)} {xe : Value → Shared → Prop} {W : WX} {E : XK} {tb : TE} {p1 p2 : Pos} (hcalm : Calm X.A)
    (I : Inv X pins σ H s) (L : LamS X.env.scope scope) (hf : s.heap.get? f = some (PySem.W.kla_obj "<lambda>" (X.env.qual ++ "<lambda>") params body scope (cloFrom X.env.cells scope.names []) pm c' ctv)) (hfn : H f = none) (hfr : f ∉ frs X.stack)
    (hbind : bindArgs (PySem.W.kla_fn "<lambda>" (X.env.qual ++ "<lambda>") params body scope (cloFrom X.env.cells scope.names []) pm (.ref c') ctv) ⟨[], []⟩ = pure [])
    (tk : Takes ((cxOf CXg X.prog X.w X.K X.mg X.base Ng qg sg g cdg X.A X.stack s H Eg).tr pn xe) W) (hW : ∀ cls d σ' H', E cls d H' → W cls d σ' H') (hr : Room (k + 1) (X.A.deeper (envOfC qg sg s.heap.objs.size g cdg)))
    (hbody : ∀ (A : Around) (outer : List Env) (s : Shared) (H : Hp), Calm A → Room k (A.deeper (lamEnv X scope s.heap.objs.size f c')) → PE (lamCx X A outer s H E scope f c') body tb)
    (hN : Ng[i]? = some a) (hv : Vis sg a) (hd : (a == ("__debug__" : Str)) = false) (hcd : (a == ("__classdict__" : Str)) = false) :
    PE ((cxOf CXg X.prog X.w X.K X.mg X.base Ng qg sg g cdg X.A X.stack s H Eg).tr pn xe) (.Call (.Name a p1) [] [] p2)
      (fun σZ HZ Q => σZ[i]? = some (some (.ref f)) ∧ HZ c' = some (CodeO c' (X.env.qual ++ "<lambda>")) ∧ tb σ HZ Q) := by
  constructor
  intro pinsZ sZ σZ HZ Q IZ h
  obtain ⟨hs, hc, ht⟩ := h
  have readName := (pe_var (pos := p1) (i := i) hN hv hd hcd).run pinsZ sZ σZ HZ (fun v H1 => v = .ref f ∧ H1 = HZ) IZ ⟨.ref f, hs, rfl, rfl⟩
  refine wpAny_Call_Name_kw (thn readName fun u s1 hh => ?_)
  obtain ⟨v, H1, I1, r1, ev, eH⟩ := hh
  subst ev
  subst eH
  obtain rfl : u = Value.ref f := r1
  have there : s1.heap.get? f = some (PySem.W.kla_obj "<lambda>" (X.env.qual ++ "<lambda>") params body scope (cloFrom X.env.cells scope.names []) pm c' ctv) :=
    I1.base.keep f _ hf hfn hfr fun z => nomatch (show f ∈ ([] : List Addr) from z)
  refine PySem.W.callWith_F0 ⟨_, _, _, _, there⟩ ?_
  have un : Un (frs X.stack) [] H H1 s.heap s1.heap := I1.base
  obtain ⟨⟨oc, vs, t, hoc, hdc, hvc⟩, _, _⟩ := I1.hok c' _ hc
  have room1 : Room k ((X.A.deeper (envOfC qg sg s.heap.objs.size g cdg)).deeper (lamEnv X scope s1.heap.objs.size f c')) := hr.deeper _
  have goes : codeAny (model X.prog X.w) (X.A.deeper (envOfC qg sg s.heap.objs.size g cdg)) (.call (.ref f) ⟨[], []⟩) (CR (L2.CX X.prog X.w) (envOfC qg sg s.heap.objs.size g cdg :: X.stack) X.prog X.w H1 s1 Q E) s1 := by
    refine PySem.W.kla_callFunE hr.depth there rfl L.co L.gen rfl ⟨c', oc, vs, t, rfl, hoc, hdc, hvc⟩ ?_
    rw [hbind]
    refine wpAny_pure (wpAny_newFunctionEnv (fun y hy => (L.own y hy).2) (fun y hy => absurd hy (by simp)) (fun h₁ hns hsb => ⟨I1.nolimit.fresh _ hsb, ?_⟩) L.kind)
    show codeAny _ _ (.expr body (lamEnv X scope s1.heap.objs.size f c')) _ _
    have keeps : ∀ b o, s1.heap.get? b = some o → h₁.get? b = some o := fun b o e =>
      hsb.extBut b o (Nat.ne_of_lt (Heap.lt_size e)) (Heap.get?_push_of_some _ e)
    have J : Inv (lamCx X (X.A.deeper (envOfC qg sg s.heap.objs.size g cdg)) (envOfC qg sg s.heap.objs.size g cdg :: X.stack) s1 H1 E scope f c') [] σ H1 { s1 with heap := h₁, toks := s1.toks + ([] : List (Str × Value)).length } :=
      lam_start2 I L I1.env0 hr.hd un hns keeps
    refine PySem.W.kla_codeExpr (thn ((hbody _ _ s1 H1 (hcalm.deep _) room1).run [] _ _ H1 Q J ht) fun v s' hq => ?_)
    obtain ⟨w', H', J', rv, q⟩ := hq
    exact ⟨w', H', J'.os, J'.bare, J'.base, J'.hok, rv, q⟩
  have lets : Passes (L2.CX X.prog X.w) ((cxOf CXg X.prog X.w X.K X.mg X.base Ng qg sg g cdg X.A X.stack s H Eg).tr pn xe) E := passes_call tk hW
  refine wpAny_call (codeAny_mono goes fun r s' hq => ?_)
  match r, hq with
  | .error e, hq => exact lets pinsZ σZ H1 s1 e s' I1 hq
  | .ok (.ret u), hq => exact I1.after hq
  | .ok .next, hq => exact False.elim hq
  | .ok .brk, hq => exact False.elim hq
  | .ok .cont, hq => exact False.elim hq
/-- what the def at g, which calls its parameter a, makes of a lambda's reading -/
def Makes (X : Cx) (Ng : List Str) (x : Str) (sg : Scope) (g : Addr) (cdg : Value) (bg : List Stmt) (a : Str) (q : Str) (k : Nat) (TT : (XK → Hp → VK → Prop) → Hp → VK → Prop) : Prop :=
  ∀ (f c' : Addr) (s : Shared) (H : Hp) (Q : VK) (tl : XK → Hp → VK → Prop), Calm (X.A.deeper (envOfC x sg s.heap.objs.size g cdg)) → Room k (X.A.deeper (envOfC x sg s.heap.objs.size g cdg)) →
    (∀ (W : WX) (pn : List (Addr × Obj)) (xe : Value → Shared → Prop) (E : XK) (p1 p2 : Pos), Takes ((cxOf CX0 X.prog X.w X.K X.mg X.base Ng x sg g cdg X.A X.stack s H E0).tr pn xe) W → (∀ cls d σ' H', E cls d H' → W cls d σ' H') →
      PE ((cxOf CX0 X.prog X.w X.K X.mg X.base Ng x sg g cdg X.A X.stack s H E0).tr pn xe) (.Call (.Name a p1) [] [] p2) (fun σZ HZ Q => σZ[0]? = some (some (.ref f)) ∧ HZ c' = some (CodeO c' q) ∧ tl E HZ Q)) →
    H c' = some (CodeO c' q) → TT tl H Q →
    ∃ t, PSs (cxOf CX0 X.prog X.w X.K X.mg X.base Ng x sg g cdg X.A X.stack s H E0).nox bg t ∧ t { nx := fun _ H' => Q .non H', rt := Q } (L2.start Ng [.ref f]) H
/-- x(lambda: body) -/
theorem pe_lamC {X : Cx} {T : List (Addr × Str)} {TT : (XK → Hp → VK → Prop) → Hp → VK → Prop} {x a : Str} {g c P : Addr} {k : Nat} {pg : Arguments} {bg : List Stmt} {sg : Scope} {dV kV doc pm cdv ct oc : Value} {an od : Option Addr} {osl : Array (Option Value)} {Ng : List Str}
    {params : Arguments} {body : Expr} {scope : Scope} {t : XK → TE} {p lpos pos : Pos} (hcalm : Calm X.A) (hg : Gl X x) (hm : X.mg x = some (.ref g)) (hk : PySem.W.keepIn X.K (.ref g) = true)
    (lk : X.K.lookup g = some ⟨oc, od, .func (PySem.W.fnOf x x pg bg sg dV kV doc pm an cdv ct), osl⟩) (hcg : PySem.W.codeIn X.K cdv x = true) (hb : L2.Binds X.K (PySem.W.fnOf x x pg bg sg dV kV doc pm an cdv ct) [a] []) (Sg : FnScope Ng [a] sg) (hNg : Ng[0]? = some a) (hva : Vis sg a)
    (hG : Makes X Ng x sg g cdv bg a (X.env.qual ++ "<lambda>") (k + 1) TT) (TB : TabB X.base X.mg c P) (hcode : X.env.code = .ref c) (hmT : (P, X.env.qual ++ "<lambda>") ∈ T) (hu : ∀ p ∈ T, p.1 = P → p.2 = X.env.qual ++ "<lambda>") (hr : Room (k + 2) X.A) (L : LamS X.env.scope scope)
    (hdef : defaultsOf params X.env = ([], [])) (hbind : ∀ (q : Str) (cl : List (Str × Addr)) (pm cv ctv : Value), bindArgs (PySem.W.kla_fn "<lambda>" q params body scope cl pm cv ctv) ⟨[], []⟩ = pure [])
    (hbody : ∀ (A : Around) (outer : List Env) (s : Shared) (H : Hp) (E : XK) (f c' : Addr), Calm A → Room k (A.deeper (lamEnv X scope s.heap.objs.size f c')) → PE (lamCx X A outer s H E scope f c') body (t E))
    (hdb : (x == ("__debug__" : Str)) = false) (hd : (a == ("__debug__" : Str)) = false) (hcd : (a == ("__classdict__" : Str)) = false) :
    PE X (.Call (.Name x p) [.Lambda params body scope lpos] [] pos) (tLam T TT t) := by
  constructor
  intro pins s σ H Q I h
  obtain ⟨hT, h⟩ := h
  refine wpAny_Call_Name_kw (ld_glob I hg hm ?_ hdb)
  refine PySem.W.callWith_K (h₀ := X.base) I.ok.mod.kin hk ?_ (by rfl) (by rfl)
  show wpAny _ _ (spliced ((false, eval (.Lambda params body scope lpos) X.env) :: backTo pos (starEach [] X.env))) _ _ s
  refine Calls.spliced_cons (lam_make2 I TB hcode hmT hu hT hdef (L.has I.ok) fun f c' pm' ctv H1 s' I1 eN T1 hf hfn hfr hco => Calls.spliced_nil ⟨I1.kIn, ?_⟩)
  have goes : codeAny (model X.prog X.w) X.A (.call (.ref g) ⟨[.ref f], []⟩) (CR CX0 X.stack X.prog X.w H1 s' Q E0) s' := by
    refine run_ofS (N := Ng) (ps := [a]) (us := [.ref f]) (vs := [.ref f]) lk hcg Sg hr I1.env0 (hb s' [.ref f] I1.kIn rfl) (.cons rfl .nil) rfl fun hr' => ?_
    obtain ⟨t', ht', hq'⟩ := hG f c' s' H1 Q (fun E H' Q' => t E σ H' Q') (hcalm.deep _) hr' (fun W pn xe E p1 p2 tk hW => pe_actC (i := 0) hcalm I1 L hf hfn hfr (hbind _ _ _ _ _) tk hW hr' (fun A outer s H hcA hr2 => hbody A outer s H E f c' hcA hr2) hNg hva hd hcd) hco (h H1 eN T1)
    exact ⟨t', ht'.nox, hq'⟩
  refine wpAny_call (codeAny_mono goes fun r s2 hq => ?_)
  match r, hq with
  | .error e, hq => exact (show False from hq).elim
  | .ok (.ret u), hq => exact I1.after hq
  | .ok .next, hq => exact False.elim hq
  | .ok .brk, hq => exact False.elim hq
  | .ok .cont, hq => exact False.elim hq
end
end Xl
set_option Elab.async false
set_option linter.all false
set_option autoImplicit false
set_option maxRecDepth 100000
set_option maxHeartbeats 4000000
/-! Yl: lambdas as values in calm room (kept in a list, say), and the call of what an expression gives, a lambda made in the same def. -/
namespace Yl
open PySem PySem.Spec PyProof.Rows L2 Vb Wd Xd LamX Xl
/-- a lambda's words -/
structure LB where
  params : Arguments
  body : Expr
  scope : Scope
/-- the lambda's object -/
def LamO (f c' : Addr) (q : Str) (b : LB) (cl : List (Str × Addr)) : HO := .ext fun h => ∃ pm ctv, h.get? f = some (PySem.W.kla_obj "<lambda>" q b.params b.body b.scope cl pm c' ctv)
theorem lamO_ne {f c' : Addr} {q : Str} {b : LB} {cl : List (Str × Addr)} (ps : Array Value) : LamO f c' q b cl ≠ .tbl ps := fun z => by
  unfold LamO at z
  cases z
/-- at f stands the lambda with the words b, made in the def of X -/
def LamIs (X : Cx) (H : Hp) (f : Addr) (b : LB) : Prop := ∃ c', H f = some (LamO f c' (X.env.qual ++ "<lambda>") b (cloFrom X.env.cells b.scope.names [])) ∧ H c' = some (CodeO c' (X.env.qual ++ "<lambda>"))
theorem LamIs.ext {X : Cx} {H H' : Hp} {f : Addr} {b : LB} (l : LamIs X H f b) (e : ExtN H H') : LamIs X H' f b := by
  obtain ⟨c', h1, h2⟩ := l
  exact ⟨c', e _ _ h1 lamO_ne, e _ _ h2 codeO_ne⟩
section
variable {X : Cx} {pins : List (Addr × Obj)} {σ : L2.St} {H : Hp} {s : Shared}
theorem lam_keep {T : List (Addr × Str)} {c P : Addr} {b : LB} {pos : Pos} {E : Value → Shared → Prop} {Q : Value → Shared → Prop} (I : Inv X pins σ H s) (TB : TabB X.base X.mg c P) (hcode : X.env.code = .ref c)
    (hm : (P, X.env.qual ++ "<lambda>") ∈ T) (hu : ∀ p ∈ T, p.1 = P → p.2 = X.env.qual ++ "<lambda>") (hT : Tabs T H) (hdef : defaultsOf b.params X.env = ([], [])) (hfree : ∀ y ∈ b.scope.names, y.2 = .free → ∃ c, X.env.cells.lookup y.1 = some c)
    (h : ∀ (f : Addr) (H1 : Hp) (s' : Shared), Inv X pins σ H1 s' → ExtN H H1 → Tabs T H1 → H f = none → LamIs X H1 f b → Q (.ref f) s') :
    wpAny (model X.prog X.w) X.A (eval (.Lambda b.params b.body b.scope pos) X.env) Q E s := by
  obtain ⟨ps, hP, ht, ha⟩ := hT _ hm
  refine PySem.W.kla_eval hdef ?_
  have bP : s.heap.BuiltinsAt X.mg P := TB.bm.keeps I.bk
  have hP' : s.heap.get? P = some { cls := .none, data := .fields ps } := I.hok P _ hP
  have lay : ∀ {H1 : Hp} {h' : Heap} {tk tk' : Nat} {c' : Addr} {ctv : Value}, Inv X pins σ H1 { s with heap := h', toks := tk } →
      Inv X pins σ (upd H1 h'.objs.size (LamO h'.objs.size c' (X.env.qual ++ "<lambda>") b (cloFrom X.env.cells b.scope.names []))) { s with heap := h'.push (PySem.W.kla_obj "<lambda>" (X.env.qual ++ "<lambda>") b.params b.body b.scope (cloFrom X.env.cells b.scope.names []) ((X.mg "__name__").getD .none) c' ctv), toks := tk' } := by
    intro H1 h' tk tk' c' ctv I1
    refine I1.laid (a := h'.objs.size) (fun b u e => Heap.get?_push_of_some _ e) (Nat.le_refl _) ?_
    have e : (h'.push (PySem.W.kla_obj "<lambda>" (X.env.qual ++ "<lambda>") b.params b.body b.scope (cloFrom X.env.cells b.scope.names []) ((X.mg "__name__").getD .none) c' ctv)).get? h'.objs.size = some (PySem.W.kla_obj "<lambda>" (X.env.qual ++ "<lambda>") b.params b.body b.scope (cloFrom X.env.cells b.scope.names []) ((X.mg "__name__").getD .none) c' ctv) := Heap.get?_push_size _ rfl
    exact ⟨⟨_, _, e⟩, ⟨_, e⟩, fun h1 h2 ⟨pm, t, z⟩ st => ⟨pm, t, st _ z⟩⟩
  cases hc : codeAmong pos ps.toList with
  | none =>
    refine PySem.W.kla_makeFunction (mg := X.mg) (c := c) (P := P) (ps := ps) (closure_ok hfree) I.ok.glob (I.mod.glob.keeps I.bk) hcode (TB.code.keeps I.bk) hP' ht hc TB.gP bP fun c' ctv h' tk hx hge hlt hrec htb => ?_
    obtain ⟨c2, oc, vs, t, e2, hoc, hd, hv⟩ := hrec
    cases e2
    have hsz : s.heap.objs.size ≤ h'.objs.size := Nat.le_trans hge (Nat.le_of_lt hlt)
    have nC : H c' = none := I.hok.fresh hge
    have I1 := inv_table (t' := tk) (more := #[rawInt pos.line, rawInt pos.col, .ref c']) (h' := h') I hP
      (fun b o hb e => hx b o hb e) htb hge ⟨oc, vs, t, hoc, hd, hv⟩
    have hE : ExtN H (upd (upd H P (.tbl (ps ++ #[rawInt pos.line, rawInt pos.col, .ref c']))) c' (CodeO c' (X.env.qual ++ "<lambda>"))) := fun b o e n => by
      rw [upd_ne (ne_of_none e nC), upd_ne (fun z => n ps (Option.some.inj (e.symm.trans (by rw [z]; exact hP))))]
      exact e
    have eL : (ps ++ #[rawInt pos.line, rawInt pos.col, .ref c']).toList = ps.toList ++ [rawInt pos.line, rawInt pos.col, .ref c'] := by simp
    have nF1 : (upd (upd H P (.tbl (ps ++ #[rawInt pos.line, rawInt pos.col, .ref c']))) c' (CodeO c' (X.env.qual ++ "<lambda>"))) h'.objs.size = none := I1.hok.fresh (Nat.le_refl _)
    have sn := same_new (o := LamO h'.objs.size c' (X.env.qual ++ "<lambda>") b (cloFrom X.env.cells b.scope.names [])) nF1
    refine h h'.objs.size _ _ (lay (tk' := tk) (c' := c') (ctv := ctv) I1) (hE.trans (ExtN.of sn)) (Tabs.ext (fun p hp => ?_) sn) (I.hok.fresh hsz) ⟨c', upd_same, sn _ _ upd_same⟩
    · by_cases hb : p.1 = P
      · rw [hu p hp hb, hb]
        refine ⟨_, by rw [upd_ne (ne_of_none hP nC), upd_same], by rw [eL]; exact PySem.TriplesOk_snoc _ _ _ _ ht, fun p' cv hcv => ?_⟩
        rw [eL] at hcv
        rcases among_app _ ht hcv with z | z
        · obtain ⟨c0, e1, e2⟩ := ha p' cv z
          exact ⟨c0, e1, hE _ _ e2 codeO_ne⟩
        · exact ⟨c', z, upd_same⟩
      · obtain ⟨ps', a1, a2, a3⟩ := hT p hp
        refine ⟨ps', by rw [upd_ne (ne_of_none a1 nC), upd_ne hb]; exact a1, a2, fun p' cv hcv => ?_⟩
        obtain ⟨c0, e1, e2⟩ := a3 p' cv hcv
        exact ⟨c0, e1, hE _ _ e2 codeO_ne⟩
  | some cv =>
    obtain ⟨c', e, hco⟩ := ha pos cv hc
    subst e
    refine PySem.W.kla_makeFunctionHit (mg := X.mg) (c := c) (P := P) (ps := ps) (closure_ok hfree) I.ok.glob (I.mod.glob.keeps I.bk) hcode (TB.code.keeps I.bk) hP' ht hc bP fun ctv h' tk hx hsz => ?_
    have I1 : Inv X pins σ H { s with heap := h', toks := tk } := I.kept fun b o e => hx b o e
    have sn := same_new (o := LamO h'.objs.size c' (X.env.qual ++ "<lambda>") b (cloFrom X.env.cells b.scope.names [])) (I.hok.fresh hsz)
    exact h h'.objs.size _ _ (lay (tk' := tk) (c' := c') (ctv := ctv) I1) (ExtN.of sn) (hT.ext sn) (I.hok.fresh hsz) ⟨c', upd_same, sn _ _ hco⟩
/-- a lambda as a value -/
def tLamV (X : Cx) (T : List (Addr × Str)) (b : LB) : TE := fun _ H Q => Tabs T H ∧ ∀ f H1, ExtN H H1 → Tabs T H1 → H f = none → LamIs X H1 f b → Q (.ref f) H1
theorem pe_lamV {T : List (Addr × Str)} {c P : Addr} {params : Arguments} {body : Expr} {scope : Scope} {pos : Pos} (TB : TabB X.base X.mg c P) (hcode : X.env.code = .ref c)
    (hm : (P, X.env.qual ++ "<lambda>") ∈ T) (hu : ∀ p ∈ T, p.1 = P → p.2 = X.env.qual ++ "<lambda>") (L : LamS X.env.scope scope) (hdef : defaultsOf params X.env = ([], [])) : PE X (.Lambda params body scope pos) (tLamV X T ⟨params, body, scope⟩) :=
  ⟨fun pins s σ H Q I h => lam_keep (b := ⟨params, body, scope⟩) I TB hcode hm hu h.1 hdef (L.has I.ok) fun f H1 s' I1 e t n l => ⟨.ref f, H1, I1, rfl, h.2 f H1 e t n l⟩⟩
/-- x(), x what an expression gives: one of the lambdas made here -/
theorem pe_callV {W : WX} {E : XK} {k : Nat} {fe : Expr} {te : TE} {pos : Pos} {R : LB → TE → Prop} (he : PE X fe te) (hcalm : Calm X.A) (hr : Room (k + 1) X.A) (tk : Takes X W) (hW : ∀ cls d σ' H', E cls d H' → W cls d σ' H')
    (hR : ∀ b t, R b t → LamS X.env.scope b.scope ∧ (∀ (q : Str) (cl : List (Str × Addr)) (pm cv ctv : Value), bindArgs (PySem.W.kla_fn "<lambda>" q b.params b.body b.scope cl pm cv ctv) ⟨[], []⟩ = pure []) ∧
      ∀ (A : Around) (outer : List Env) (s : Shared) (H : Hp) (f c' : Addr), Calm A → Room k (A.deeper (lamEnv X b.scope s.heap.objs.size f c')) → PE (lamCx X A outer s H E b.scope f c') b.body t)
    (ht : eval (.Call fe [] [] pos) X.env = (do callWith pos (← eval fe X.env) [] (backTo pos (starEach [] X.env)) (backToKw pos (keywordEach [] X.env))) := by rfl) :
    PE X (.Call fe [] [] pos) (fun σ H Q => te σ H fun v H1 => ∃ f b t, v = .ref f ∧ LamIs X H1 f b ∧ R b t ∧ t σ H1 Q) := by
  refine ⟨fun pins s σ H Q I h => ?_⟩
  refine Call_ (thn (he.run pins s σ H _ I h) fun u s1 ⟨v, H1, I1, r1, f, b, t, ev, L1, hb, hq⟩ => ?_) ht
  subst ev
  obtain rfl : u = Value.ref f := r1
  obtain ⟨c', hf, hc⟩ := L1
  obtain ⟨L, hbind, hbody⟩ := hR b t hb
  obtain ⟨⟨pm, ctv, there⟩, _, _⟩ := I1.hok f _ hf
  refine PySem.W.callWith_F0 ⟨_, _, _, _, there⟩ ?_
  obtain ⟨⟨oc, vs, t', hoc, hdc, hvc⟩, _, _⟩ := I1.hok c' _ hc
  have goes : codeAny (model X.prog X.w) X.A (.call (.ref f) ⟨[], []⟩) (CR (L2.CX X.prog X.w) X.stack X.prog X.w H1 s1 Q E) s1 := by
    refine PySem.W.kla_callFunE hr.depth there rfl L.co L.gen rfl ⟨c', oc, vs, t', rfl, hoc, hdc, hvc⟩ ?_
    rw [hbind]
    refine wpAny_pure (wpAny_newFunctionEnv (fun y hy => (L.own y hy).2) (fun y hy => absurd hy (by simp)) (fun h₁ hns hsb => ⟨I1.nolimit.fresh _ hsb, ?_⟩) L.kind)
    show codeAny _ _ (.expr b.body (lamEnv X b.scope s1.heap.objs.size f c')) _ _
    have keeps : ∀ b o, s1.heap.get? b = some o → h₁.get? b = some o := fun b o e =>
      hsb.extBut b o (Nat.ne_of_lt (Heap.lt_size e)) (Heap.get?_push_of_some _ e)
    have J : Inv (lamCx X X.A X.stack s1 H1 E b.scope f c') [] σ H1 { s1 with heap := h₁, toks := s1.toks + ([] : List (Str × Value)).length } :=
      lam_start2 I1 L I1.env0 hr.hd Un.refl hns keeps
    refine PySem.W.kla_codeExpr (thn ((hbody _ _ s1 H1 f c' hcalm (hr.deeper _)).run [] _ _ H1 Q J hq) fun v s' hq => ?_)
    obtain ⟨w', H', J', rv, q⟩ := hq
    exact ⟨w', H', J'.os, J'.bare, J'.base, J'.hok, rv, q⟩
  have lets : Passes (L2.CX X.prog X.w) X E := passes_call tk hW
  refine wpAny_call (codeAny_mono goes fun r s' hq => ?_)
  match r, hq with
  | .error e, hq => exact lets pins σ H1 s1 e s' I1 hq
  | .ok (.ret u), hq => exact I1.after hq
  | .ok .next, hq => exact False.elim hq
  | .ok .brk, hq => exact False.elim hq
  | .ok .cont, hq => exact False.elim hq
end
end Yl
set_option Elab.async false
set_option linter.all false
set_option autoImplicit false
set_option maxRecDepth 100000
set_option maxHeartbeats 4000000
/-! Xg: a def whose code object is known; all but the dice and the tables of code objects stays. -/
namespace Xg
open PySem PySem.Spec PyProof.Rows L2 Vb LamX
/-- the def at f, with its code object -/
structure FunC (K : PySem.W.Frag) (x qual : Str) (st : Stmt) (f : Addr) (fd : FuncData) (cdv : Value) : Prop where
  ex : ∃ (oc : Value) (od : Option Addr) (kV doc pm : Value) (an : Option Addr) (ct : Value) (osl : Array (Option Value)), fd = PySem.W.fnOf x qual (defArgs st) (defBody st) (defScope st) .none kV doc pm an cdv ct ∧ K.lookup f = some ⟨oc, od, .func fd, osl⟩ ∧ PySem.W.codeIn K cdv qual = true
section
variable {P : Program} {w : World} {K : PySem.W.Frag} {mg : Str → Option Value} {base : Heap}
theorem goes_byC {x qual : Str} {st : Stmt} {f : Addr} {fd : FuncData} {cdv : Value} {N ps : List Str} {k : Nat} {sp : Sp} (F : FunC K x qual st f fd cdv) (S : FnScope N ps (defScope st)) (len : ∀ vs H Q E, sp vs H Q E → vs.length = ps.length)
    (body : ∀ (A : Around) (outer : List Env) (s : Shared) (H : Hp) (vs : List V) (Q : VK) (E : XK), Calm (A.deeper (envOfC qual (defScope st) s.heap.objs.size f cdv)) → Room k (A.deeper (envOfC qual (defScope st) s.heap.objs.size f cdv)) → sp vs H Q E →
      ∃ t, PSs (cxOf CX0 P w K mg base N qual (defScope st) f cdv A outer s H E).nox (defBody st) t ∧ t { nx := fun _ H' => Q .non H', rt := Q } (start N vs) H) : FnG P w K mg base (k + 1) f fd ps sp := by
  obtain ⟨oc, od, kV, doc, pm, an, ct, osl, rfl, lk, hcd⟩ := F.ex
  refine ⟨len, fun A outer s H args us vs Q E hc hr e0 hb r hsp => ?_⟩
  refine run_ofS (N := N) (ps := ps) (us := us) (vs := vs) lk hcd S hr e0 hb r (len _ _ _ _ hsp) fun hr' => ?_
  obtain ⟨t, ht, hq⟩ := body A outer s H vs Q E (hc.deep _) hr' hsp
  exact ⟨t, ht.nox, hq⟩
end
theorem tbl_ne_dz {g s c : Int} (ps : Array Value) : dz g s c ≠ .tbl ps := fun z => nomatch z
/-- all but the dice and the tables stays -/
structure Go (T : List (Addr × Str)) (d : Addr) (H H' : Hp) : Prop where
  keep : ∀ b o, b ≠ d → (∀ ps, o ≠ .tbl ps) → H b = some o → H' b = some o
  dice : Dice H' d
  tabs : Tabs T H'
section
variable {T : List (Addr × Str)} {d : Addr} {H H1 H' : Hp}
theorem Go.trans (a : Go T d H H1) (b : Go T d H1 H') : Go T d H H' := ⟨fun x o n t e => b.keep x o n t (a.keep x o n t e), b.dice, b.tabs⟩
theorem Go.refl (h : Dice H d) (t : Tabs T H) : Go T d H H := ⟨fun _ _ _ _ e => e, h, t⟩
theorem tabs_past (h : Dice H d) (t : Tabs T H) (p : Past d H H') : Tabs T H' := fun q hq => by
  obtain ⟨ps, h1, h2, h3⟩ := t q hq
  obtain ⟨g, s, c, hd⟩ := h
  have n1 : q.1 ≠ d := fun z => by
    rw [z, hd] at h1
    cases h1
  refine ⟨ps, p.1 _ _ n1 h1, h2, fun pos cv hc => ?_⟩
  obtain ⟨c', e1, e2⟩ := h3 pos cv hc
  have n2 : c' ≠ d := fun z => by
    rw [z, hd] at e2
    have e3 : dz g s c = CodeO d q.2 := Option.some.inj e2
    unfold CodeO dz at e3
    cases e3
  exact ⟨c', e1, p.1 _ _ n2 e2⟩
theorem Go.past (h : Dice H d) (t : Tabs T H) (p : Past d H H') : Go T d H H' := ⟨fun x o n _ e => p.1 x o n e, p.dice, tabs_past h t p⟩
theorem Go.same (h : Dice H d) (t : Tabs T H) (s : Same H H') : Go T d H H' := Go.past h t (Past.same h s)
theorem Go.extN (h : Dice H d) (e : ExtN H H') (t : Tabs T H') : Go T d H H' := by
  obtain ⟨g, s, c, hd⟩ := h
  exact ⟨fun x o _ nt ex => e x o ex nt, ⟨g, s, c, e _ _ hd fun ps => tbl_ne_dz ps⟩, t⟩
theorem Go.thenP (a : Go T d H H1) (p : Past d H1 H') : Go T d H H' := a.trans (Go.past a.dice a.tabs p)
theorem Go.thenS (a : Go T d H H1) (s : Same H1 H') : Go T d H H' := a.trans (Go.same a.dice a.tabs s)
theorem Go.thenE (a : Go T d H H1) (e : ExtN H1 H') (t : Tabs T H') : Go T d H H' := a.trans (Go.extN a.dice e t)
theorem Go.seq {K : PySem.W.Frag} {a : Addr} {xs : List V} (g : Go T d H H') (n : a ≠ d) (s : SqL K H a xs) : SqL K H' a xs := by
  rcases s with (s | ⟨o, s⟩) | s
  · exact .inl (.inl (g.keep _ _ n (fun ps z => nomatch z) s))
  · exact .inl (.inr ⟨o, g.keep _ _ n (fun ps z => nomatch z) s⟩)
  · exact .inr s
end
end Xg
set_option Elab.async false
set_option linter.all false
set_option autoImplicit false
set_option maxRecDepth 100000
set_option maxHeartbeats 8000000
namespace K04
open PySem PySem.Spec PyProof.Rows L2 Vb Wd Xd Xo Xe Xi Xm Xr Xv Xg Xl Ts K01 Zt Zk Nc Nd Lv Rd LamX Yl Ys
theorem goes_excC {P : Program} {w : World} {K : PySem.W.Frag} {mg : Str → Option Value} {base : Heap} {x qual : Str} {st : Stmt} {f : Addr} {fd : FuncData} {cdv : Value} {N ps : List Str} {k : Nat} {sp : Sp} (F : FunC K x qual st f fd cdv) (S : FnScope N ps (defScope st)) (len : ∀ vs H Q E, sp vs H Q E → vs.length = ps.length)
    (body : ∀ (A : Around) (outer : List Env) (s : Shared) (H : Hp) (vs : List V) (Q : VK) (E : XK), Calm (A.deeper (envOfC qual (defScope st) s.heap.objs.size f cdv)) → Room k (A.deeper (envOfC qual (defScope st) s.heap.objs.size f cdv)) →
      Takes (cxOf (L2.CX P w) P w K mg base N qual (defScope st) f cdv A outer s H E) (fun cls d _ H' => E cls d H') → sp vs H Q E →
      ∃ t, PSs (cxOf (L2.CX P w) P w K mg base N qual (defScope st) f cdv A outer s H E) (defBody st) t ∧ t { nx := fun _ H' => Q .non H', rt := Q } (start N vs) H) : FnE P w K mg base (k + 1) f fd ps sp := by
  obtain ⟨oc, od, kV, doc, pm, an, ct, osl, rfl, lk, hcd⟩ := F.ex
  refine ⟨len, fun A outer s H args us vs Q E hc hr e0 hb r hsp => ?_⟩
  have hl := len _ _ _ _ hsp
  have KX : K.In s.heap := e0.mod.kin.keeps fun b o e => (e0.bs b o e).1
  have lim : s.heap.NoLimit := e0.mod.nolimit.keeps fun b o e => (e0.bs b o e).1
  have kinds : ∀ y ∈ ps.zip us, (defScope st).names.lookup y.1 = some .local ∨ ((defScope st).names.lookup y.1 = some .cell ∧ ((cellsFrom (s.heap.objs.size + 1) (defScope st).names []).lookup y.1).isSome = true) := by
    intro y hy
    obtain ⟨n, v⟩ := y
    exact (S.par n (List.of_mem_zip hy).1).imp id fun q => ⟨q, PySem.W.cellsFrom_some _ _ _ (Or.inl q)⟩
  refine codeAny_call_function hr.depth (KX _ _ lk) rfl S.co S.gen rfl (PySem.W.codeRec_of KX hcd) (hb _ _ _ _ ?_)
  refine wpAny_newFunctionEnv_cells S.kind kinds fun env he s1 x => ?_
  cases he
  refine ⟨lim.keeps x.toInCall.keep, codeAny_func ?_⟩
  obtain ⟨t, ht, hq⟩ := body A outer s H vs Q E (hc.deep _) (hr.deeper _) (takes_of rfl rfl rfl rfl) hsp
  have I := inv_start (CX := L2.CX P w) (E := E) S hr.hd e0 hl r x
  refine wpAny_mono (ht.run [] s1 (start N vs) H _ I hq) (fun fl s' hs => ?_) (fun _ _ z => z)
  cases fl with
  | brk => exact hs.elim fun _ z => z.elim fun _ z => z.2.elim
  | cont => exact hs.elim fun _ z => z.elim fun _ z => z.2.elim
  | ret u =>
    obtain ⟨v, σ', H', J, rv, q⟩ := hs
    exact ⟨v, H', J.os, J.bare, J.base, J.hok, rv, q⟩
  | next =>
    obtain ⟨σ', H', J, q⟩ := hs
    exact ⟨V.non, H', J.os, J.bare, J.base, J.hok, rfl, q⟩
/-- a[i], a[i + 1], .. of the list in the slot s, k of them, then t -/
def argsC (K : PySem.W.Frag) (s : Nat) : Nat → Nat → TA → TA
  | _, 0, t => t
  | i, k + 1, t => tCons (tOp (rIxL K) (tVar s) (tC (.int i))) (argsC K s (i + 1) k t)
theorem args_run {K : PySem.W.Frag} {s la : Nat} {xs : List V} {σ : L2.St} {H : Hp} {t : TA} (hs : σ[s]? = some (some (.ref la))) (hl : H la = some (.lst xs)) : ∀ (k i : Nat) (Q : List V → Hp → Prop), i + k ≤ xs.length → t σ H (fun ys H' => Q ((xs.drop i).take k ++ ys) H') → argsC K s i k t σ H Q
  | 0, i, Q, _, h => h
  | k + 1, i, Q, le, h => by
    have hi : i < xs.length := by omega
    have hat : atI xs (i : Int) = some xs[i] := by
      rw [atI_nat]
      exact List.getElem?_eq_getElem hi
    refine ⟨_, hs, la, xs, _, xs[i], rfl, rfl, .inl (.inl hl), hat, ?_⟩
    · refine args_run hs hl k (i + 1) (fun ys H' => Q (xs[i] :: ys) H') (by omega) ?_
      have e : (xs.drop i).take (k + 1) = xs[i] :: (xs.drop (i + 1)).take k := by
        rw [List.drop_eq_getElem_cons hi, List.take_succ_cons]
      rw [e] at h
      exact h
abbrev s_l_asked : Stmt := topS 47
abbrev nAs : List Str := ["_law_lines", "_law_n", "_law_some", "_law_a", "_law_b"]
theorem sc_l_asked : FnScope nAs ["_law_lines"] (defScope s_l_asked) := ⟨rfl, rfl, rfl, by decide +kernel, rfl, by decide +kernel, by decide +kernel⟩
/-- the lambda that a row makes -/
def lamOf : Stmt → LB
  | .Assign _ (.List (.Lambda p b s _ :: _) _) _ => ⟨p, b, s⟩
  | .Expr (.Call _ (.Lambda p b s _ :: _) _ _) _ => ⟨p, b, s⟩
  | _ => ⟨defArgs s_l_asked, .Constant .none 0 ⟨0, 0, 0, 0⟩, defScope s_l_asked⟩
def rowsOf : Stmt → List Stmt
  | .If _ a _ _ => a
  | _ => []
/-- the j-th lambda of the i-th part -/
def lamE (i j : Nat) : LB := lamOf ((if i < 3 then rowsOf ((defBody s_l_asked).getD (1 + i) (.Pass ⟨0, 0, 0, 0⟩)) else (defBody s_l_asked).drop 5).getD j (.Pass ⟨0, 0, 0, 0⟩))
theorem lam_check : (List.range 4).all (fun i => (List.range (if i = 0 then 5 else if i = 3 then 4 else 3)).all fun j => lamSB (defScope s_l_asked) (lamE i j).scope) = true := by decide +kernel
/-- Scheme.from_lines as a promise -/
def spFLS (K : PySem.W.Frag) (C CS CI CP : Addr) : Sp := fun vs H Q E => ∃ ws rest, vs = ws ++ rest ∧ ws.length = ["cls"].length ∧ rest.length ≤ sizeLine ∧ ∀ p, H p = Option.none → spFL0 K C CS CI CP (ws ++ [V.ref p]) (upd H p (.tup rest)) Q E
structure EnvA (P : Program) (w : World) (K : PySem.W.Frag) (mg : Str → Option Value) (base : Heap) (C CS CI CP : Addr) where
  gS : mg "Scheme" = some (.ref CS)
  f : Addr
  FS : FnS P w K mg base 9 f (spFLS K C CS CI CP)
  mc : Value
  p : Addr
  rS : ClX.CRead K CS mc
  cS : ClX.CMet K CS mc "from_lines" p f
/-- what the j-th lambda of the i-th part does -/
def argsOf (K : PySem.W.Frag) (i j : Nat) : TA := if i = 0 then argsC K 3 0 j tNil else if i = 1 then argsC K 3 0 (5 + j) tNil else if i = 2 then argsC K 3 0 (8 + j) tNil else argsC K 3 0 7 (argsC K 4 0 (4 + j) tNil)
def tLamB (K : PySem.W.Frag) (C CS CI CP : Addr) (E : XK) (i j : Nat) : TE := ClX.tCMeth CS (spFLS K C CS CI CP) E (tC (.ref CS)) (argsOf K i j)
def lamR (K : PySem.W.Frag) (C CS CI CP : Addr) (E : XK) (i m : Nat) : LB → TE → Prop := fun b t => ∃ j, j < m ∧ b = lamE i j ∧ t = tLamB K C CS CI CP E i j
abbrev cxA (P : Program) (w : World) (K : PySem.W.Frag) (mg : Str → Option Value) (base : Heap) (f c : Addr) (A : Around) (outer : List Env) (s : Shared) (H : Hp) (E : XK) : Cx := cxOf (L2.CX P w) P w K mg base nAs "_law_asked" (defScope s_l_asked) f (.ref c) A outer s H E
section
variable {P : Program} {w : World} {K : PySem.W.Frag} {mg : Str → Option Value} {base : Heap} {C CS CI CP f0 c0 : Addr} {A0 : Around} {outer0 : List Env} {s0 : Shared} {H0 : Hp} {E : XK}
theorem lam_part0 (VA : EnvA P w K mg base C CS CI CP) : ∀ b t, lamR K C CS CI CP E 0 5 b t → LamS (cxA P w K mg base f0 c0 A0 outer0 s0 H0 E).env.scope b.scope ∧ (∀ (q : Str) (cl : List (Str × Addr)) (pm cv ctv : Value), bindArgs (PySem.W.kla_fn "<lambda>" q b.params b.body b.scope cl pm cv ctv) ⟨[], []⟩ = pure []) ∧
    ∀ (A : Around) (outer : List Env) (s : Shared) (H : Hp) (f c' : Addr), Calm A → Room 9 (A.deeper (lamEnv (cxA P w K mg base f0 c0 A0 outer0 s0 H0 E) b.scope s.heap.objs.size f c')) → PE (lamCx (cxA P w K mg base f0 c0 A0 outer0 s0 H0 E) A outer s H E b.scope f c') b.body t := by
  rintro b t ⟨j, hj, rfl, rfl⟩
  match j, hj with
  | 0, _ => exact ⟨(show LamS (defScope s_l_asked) (lamE 0 0).scope from lamS_by (by decide +kernel)), fun _ _ _ _ _ => rfl, fun A' outer' s' H' f' c' hc' hr' => pe_cmethS0 (pe_glob (v := .ref CS) (by rfl) VA.gS rfl) VA.rS VA.cS VA.FS (hc'.deep _) (hr'.mono (by decide)) (takes_of rfl rfl rfl rfl) (fun _ _ _ _ z => z)⟩
  | 1, _ => exact ⟨(show LamS (defScope s_l_asked) (lamE 0 1).scope from lamS_by (by decide +kernel)), fun _ _ _ _ _ => rfl, fun A' outer' s' H' f' c' hc' hr' => pe_cmethS (pe_glob (v := .ref CS) (by rfl) VA.gS rfl) VA.rS VA.cS VA.FS (hc'.deep _) (hr'.mono (by decide)) (takes_of rfl rfl rfl rfl) (fun _ _ _ _ z => z) (pa_cons (pe_ix (ix_list : IxR _ (rIxL K)) (pv 3) pe_int (fun _ _ => rfl)) pa_nil)⟩
  | 2, _ => exact ⟨(show LamS (defScope s_l_asked) (lamE 0 2).scope from lamS_by (by decide +kernel)), fun _ _ _ _ _ => rfl, fun A' outer' s' H' f' c' hc' hr' => pe_cmethS (pe_glob (v := .ref CS) (by rfl) VA.gS rfl) VA.rS VA.cS VA.FS (hc'.deep _) (hr'.mono (by decide)) (takes_of rfl rfl rfl rfl) (fun _ _ _ _ z => z) (pa_cons (pe_ix (ix_list : IxR _ (rIxL K)) (pv 3) pe_int (fun _ _ => rfl)) (pa_cons (pe_ix (ix_list : IxR _ (rIxL K)) (pv 3) pe_int (fun _ _ => rfl)) pa_nil))⟩
  | 3, _ => exact ⟨(show LamS (defScope s_l_asked) (lamE 0 3).scope from lamS_by (by decide +kernel)), fun _ _ _ _ _ => rfl, fun A' outer' s' H' f' c' hc' hr' => pe_cmethS (pe_glob (v := .ref CS) (by rfl) VA.gS rfl) VA.rS VA.cS VA.FS (hc'.deep _) (hr'.mono (by decide)) (takes_of rfl rfl rfl rfl) (fun _ _ _ _ z => z) (pa_cons (pe_ix (ix_list : IxR _ (rIxL K)) (pv 3) pe_int (fun _ _ => rfl)) (pa_cons (pe_ix (ix_list : IxR _ (rIxL K)) (pv 3) pe_int (fun _ _ => rfl)) (pa_cons (pe_ix (ix_list : IxR _ (rIxL K)) (pv 3) pe_int (fun _ _ => rfl)) pa_nil)))⟩
  | 4, _ => exact ⟨(show LamS (defScope s_l_asked) (lamE 0 4).scope from lamS_by (by decide +kernel)), fun _ _ _ _ _ => rfl, fun A' outer' s' H' f' c' hc' hr' => pe_cmethS (pe_glob (v := .ref CS) (by rfl) VA.gS rfl) VA.rS VA.cS VA.FS (hc'.deep _) (hr'.mono (by decide)) (takes_of rfl rfl rfl rfl) (fun _ _ _ _ z => z) (pa_cons (pe_ix (ix_list : IxR _ (rIxL K)) (pv 3) pe_int (fun _ _ => rfl)) (pa_cons (pe_ix (ix_list : IxR _ (rIxL K)) (pv 3) pe_int (fun _ _ => rfl)) (pa_cons (pe_ix (ix_list : IxR _ (rIxL K)) (pv 3) pe_int (fun _ _ => rfl)) (pa_cons (pe_ix (ix_list : IxR _ (rIxL K)) (pv 3) pe_int (fun _ _ => rfl)) pa_nil))))⟩
theorem lam_part1 (VA : EnvA P w K mg base C CS CI CP) : ∀ b t, lamR K C CS CI CP E 1 3 b t → LamS (cxA P w K mg base f0 c0 A0 outer0 s0 H0 E).env.scope b.scope ∧ (∀ (q : Str) (cl : List (Str × Addr)) (pm cv ctv : Value), bindArgs (PySem.W.kla_fn "<lambda>" q b.params b.body b.scope cl pm cv ctv) ⟨[], []⟩ = pure []) ∧
    ∀ (A : Around) (outer : List Env) (s : Shared) (H : Hp) (f c' : Addr), Calm A → Room 9 (A.deeper (lamEnv (cxA P w K mg base f0 c0 A0 outer0 s0 H0 E) b.scope s.heap.objs.size f c')) → PE (lamCx (cxA P w K mg base f0 c0 A0 outer0 s0 H0 E) A outer s H E b.scope f c') b.body t := by
  rintro b t ⟨j, hj, rfl, rfl⟩
  match j, hj with
  | 0, _ => exact ⟨(show LamS (defScope s_l_asked) (lamE 1 0).scope from lamS_by (by decide +kernel)), fun _ _ _ _ _ => rfl, fun A' outer' s' H' f' c' hc' hr' => pe_cmethS (pe_glob (v := .ref CS) (by rfl) VA.gS rfl) VA.rS VA.cS VA.FS (hc'.deep _) (hr'.mono (by decide)) (takes_of rfl rfl rfl rfl) (fun _ _ _ _ z => z) (pa_cons (pe_ix (ix_list : IxR _ (rIxL K)) (pv 3) pe_int (fun _ _ => rfl)) (pa_cons (pe_ix (ix_list : IxR _ (rIxL K)) (pv 3) pe_int (fun _ _ => rfl)) (pa_cons (pe_ix (ix_list : IxR _ (rIxL K)) (pv 3) pe_int (fun _ _ => rfl)) (pa_cons (pe_ix (ix_list : IxR _ (rIxL K)) (pv 3) pe_int (fun _ _ => rfl)) (pa_cons (pe_ix (ix_list : IxR _ (rIxL K)) (pv 3) pe_int (fun _ _ => rfl)) pa_nil)))))⟩
  | 1, _ => exact ⟨(show LamS (defScope s_l_asked) (lamE 1 1).scope from lamS_by (by decide +kernel)), fun _ _ _ _ _ => rfl, fun A' outer' s' H' f' c' hc' hr' => pe_cmethS (pe_glob (v := .ref CS) (by rfl) VA.gS rfl) VA.rS VA.cS VA.FS (hc'.deep _) (hr'.mono (by decide)) (takes_of rfl rfl rfl rfl) (fun _ _ _ _ z => z) (pa_cons (pe_ix (ix_list : IxR _ (rIxL K)) (pv 3) pe_int (fun _ _ => rfl)) (pa_cons (pe_ix (ix_list : IxR _ (rIxL K)) (pv 3) pe_int (fun _ _ => rfl)) (pa_cons (pe_ix (ix_list : IxR _ (rIxL K)) (pv 3) pe_int (fun _ _ => rfl)) (pa_cons (pe_ix (ix_list : IxR _ (rIxL K)) (pv 3) pe_int (fun _ _ => rfl)) (pa_cons (pe_ix (ix_list : IxR _ (rIxL K)) (pv 3) pe_int (fun _ _ => rfl)) (pa_cons (pe_ix (ix_list : IxR _ (rIxL K)) (pv 3) pe_int (fun _ _ => rfl)) pa_nil))))))⟩
  | 2, _ => exact ⟨(show LamS (defScope s_l_asked) (lamE 1 2).scope from lamS_by (by decide +kernel)), fun _ _ _ _ _ => rfl, fun A' outer' s' H' f' c' hc' hr' => pe_cmethS (pe_glob (v := .ref CS) (by rfl) VA.gS rfl) VA.rS VA.cS VA.FS (hc'.deep _) (hr'.mono (by decide)) (takes_of rfl rfl rfl rfl) (fun _ _ _ _ z => z) (pa_cons (pe_ix (ix_list : IxR _ (rIxL K)) (pv 3) pe_int (fun _ _ => rfl)) (pa_cons (pe_ix (ix_list : IxR _ (rIxL K)) (pv 3) pe_int (fun _ _ => rfl)) (pa_cons (pe_ix (ix_list : IxR _ (rIxL K)) (pv 3) pe_int (fun _ _ => rfl)) (pa_cons (pe_ix (ix_list : IxR _ (rIxL K)) (pv 3) pe_int (fun _ _ => rfl)) (pa_cons (pe_ix (ix_list : IxR _ (rIxL K)) (pv 3) pe_int (fun _ _ => rfl)) (pa_cons (pe_ix (ix_list : IxR _ (rIxL K)) (pv 3) pe_int (fun _ _ => rfl)) (pa_cons (pe_ix (ix_list : IxR _ (rIxL K)) (pv 3) pe_int (fun _ _ => rfl)) pa_nil)))))))⟩
theorem lam_part2 (VA : EnvA P w K mg base C CS CI CP) : ∀ b t, lamR K C CS CI CP E 2 3 b t → LamS (cxA P w K mg base f0 c0 A0 outer0 s0 H0 E).env.scope b.scope ∧ (∀ (q : Str) (cl : List (Str × Addr)) (pm cv ctv : Value), bindArgs (PySem.W.kla_fn "<lambda>" q b.params b.body b.scope cl pm cv ctv) ⟨[], []⟩ = pure []) ∧
    ∀ (A : Around) (outer : List Env) (s : Shared) (H : Hp) (f c' : Addr), Calm A → Room 9 (A.deeper (lamEnv (cxA P w K mg base f0 c0 A0 outer0 s0 H0 E) b.scope s.heap.objs.size f c')) → PE (lamCx (cxA P w K mg base f0 c0 A0 outer0 s0 H0 E) A outer s H E b.scope f c') b.body t := by
  rintro b t ⟨j, hj, rfl, rfl⟩
  match j, hj with
  | 0, _ => exact ⟨(show LamS (defScope s_l_asked) (lamE 2 0).scope from lamS_by (by decide +kernel)), fun _ _ _ _ _ => rfl, fun A' outer' s' H' f' c' hc' hr' => pe_cmethS (pe_glob (v := .ref CS) (by rfl) VA.gS rfl) VA.rS VA.cS VA.FS (hc'.deep _) (hr'.mono (by decide)) (takes_of rfl rfl rfl rfl) (fun _ _ _ _ z => z) (pa_cons (pe_ix (ix_list : IxR _ (rIxL K)) (pv 3) pe_int (fun _ _ => rfl)) (pa_cons (pe_ix (ix_list : IxR _ (rIxL K)) (pv 3) pe_int (fun _ _ => rfl)) (pa_cons (pe_ix (ix_list : IxR _ (rIxL K)) (pv 3) pe_int (fun _ _ => rfl)) (pa_cons (pe_ix (ix_list : IxR _ (rIxL K)) (pv 3) pe_int (fun _ _ => rfl)) (pa_cons (pe_ix (ix_list : IxR _ (rIxL K)) (pv 3) pe_int (fun _ _ => rfl)) (pa_cons (pe_ix (ix_list : IxR _ (rIxL K)) (pv 3) pe_int (fun _ _ => rfl)) (pa_cons (pe_ix (ix_list : IxR _ (rIxL K)) (pv 3) pe_int (fun _ _ => rfl)) (pa_cons (pe_ix (ix_list : IxR _ (rIxL K)) (pv 3) pe_int (fun _ _ => rfl)) pa_nil))))))))⟩
  | 1, _ => exact ⟨(show LamS (defScope s_l_asked) (lamE 2 1).scope from lamS_by (by decide +kernel)), fun _ _ _ _ _ => rfl, fun A' outer' s' H' f' c' hc' hr' => pe_cmethS (pe_glob (v := .ref CS) (by rfl) VA.gS rfl) VA.rS VA.cS VA.FS (hc'.deep _) (hr'.mono (by decide)) (takes_of rfl rfl rfl rfl) (fun _ _ _ _ z => z) (pa_cons (pe_ix (ix_list : IxR _ (rIxL K)) (pv 3) pe_int (fun _ _ => rfl)) (pa_cons (pe_ix (ix_list : IxR _ (rIxL K)) (pv 3) pe_int (fun _ _ => rfl)) (pa_cons (pe_ix (ix_list : IxR _ (rIxL K)) (pv 3) pe_int (fun _ _ => rfl)) (pa_cons (pe_ix (ix_list : IxR _ (rIxL K)) (pv 3) pe_int (fun _ _ => rfl)) (pa_cons (pe_ix (ix_list : IxR _ (rIxL K)) (pv 3) pe_int (fun _ _ => rfl)) (pa_cons (pe_ix (ix_list : IxR _ (rIxL K)) (pv 3) pe_int (fun _ _ => rfl)) (pa_cons (pe_ix (ix_list : IxR _ (rIxL K)) (pv 3) pe_int (fun _ _ => rfl)) (pa_cons (pe_ix (ix_list : IxR _ (rIxL K)) (pv 3) pe_int (fun _ _ => rfl)) (pa_cons (pe_ix (ix_list : IxR _ (rIxL K)) (pv 3) pe_int (fun _ _ => rfl)) pa_nil)))))))))⟩
  | 2, _ => exact ⟨(show LamS (defScope s_l_asked) (lamE 2 2).scope from lamS_by (by decide +kernel)), fun _ _ _ _ _ => rfl, fun A' outer' s' H' f' c' hc' hr' => pe_cmethS (pe_glob (v := .ref CS) (by rfl) VA.gS rfl) VA.rS VA.cS VA.FS (hc'.deep _) (hr'.mono (by decide)) (takes_of rfl rfl rfl rfl) (fun _ _ _ _ z => z) (pa_cons (pe_ix (ix_list : IxR _ (rIxL K)) (pv 3) pe_int (fun _ _ => rfl)) (pa_cons (pe_ix (ix_list : IxR _ (rIxL K)) (pv 3) pe_int (fun _ _ => rfl)) (pa_cons (pe_ix (ix_list : IxR _ (rIxL K)) (pv 3) pe_int (fun _ _ => rfl)) (pa_cons (pe_ix (ix_list : IxR _ (rIxL K)) (pv 3) pe_int (fun _ _ => rfl)) (pa_cons (pe_ix (ix_list : IxR _ (rIxL K)) (pv 3) pe_int (fun _ _ => rfl)) (pa_cons (pe_ix (ix_list : IxR _ (rIxL K)) (pv 3) pe_int (fun _ _ => rfl)) (pa_cons (pe_ix (ix_list : IxR _ (rIxL K)) (pv 3) pe_int (fun _ _ => rfl)) (pa_cons (pe_ix (ix_list : IxR _ (rIxL K)) (pv 3) pe_int (fun _ _ => rfl)) (pa_cons (pe_ix (ix_list : IxR _ (rIxL K)) (pv 3) pe_int (fun _ _ => rfl)) (pa_cons (pe_ix (ix_list : IxR _ (rIxL K)) (pv 3) pe_int (fun _ _ => rfl)) pa_nil))))))))))⟩
theorem lam_part3 (VA : EnvA P w K mg base C CS CI CP) : ∀ b t, lamR K C CS CI CP E 3 4 b t → LamS (cxA P w K mg base f0 c0 A0 outer0 s0 H0 E).env.scope b.scope ∧ (∀ (q : Str) (cl : List (Str × Addr)) (pm cv ctv : Value), bindArgs (PySem.W.kla_fn "<lambda>" q b.params b.body b.scope cl pm cv ctv) ⟨[], []⟩ = pure []) ∧
    ∀ (A : Around) (outer : List Env) (s : Shared) (H : Hp) (f c' : Addr), Calm A → Room 9 (A.deeper (lamEnv (cxA P w K mg base f0 c0 A0 outer0 s0 H0 E) b.scope s.heap.objs.size f c')) → PE (lamCx (cxA P w K mg base f0 c0 A0 outer0 s0 H0 E) A outer s H E b.scope f c') b.body t := by
  rintro b t ⟨j, hj, rfl, rfl⟩
  match j, hj with
  | 0, _ => exact ⟨(show LamS (defScope s_l_asked) (lamE 3 0).scope from lamS_by (by decide +kernel)), fun _ _ _ _ _ => rfl, fun A' outer' s' H' f' c' hc' hr' => pe_cmethS (pe_glob (v := .ref CS) (by rfl) VA.gS rfl) VA.rS VA.cS VA.FS (hc'.deep _) (hr'.mono (by decide)) (takes_of rfl rfl rfl rfl) (fun _ _ _ _ z => z) (pa_cons (pe_ix (ix_list : IxR _ (rIxL K)) (pv 3) pe_int (fun _ _ => rfl)) (pa_cons (pe_ix (ix_list : IxR _ (rIxL K)) (pv 3) pe_int (fun _ _ => rfl)) (pa_cons (pe_ix (ix_list : IxR _ (rIxL K)) (pv 3) pe_int (fun _ _ => rfl)) (pa_cons (pe_ix (ix_list : IxR _ (rIxL K)) (pv 3) pe_int (fun _ _ => rfl)) (pa_cons (pe_ix (ix_list : IxR _ (rIxL K)) (pv 3) pe_int (fun _ _ => rfl)) (pa_cons (pe_ix (ix_list : IxR _ (rIxL K)) (pv 3) pe_int (fun _ _ => rfl)) (pa_cons (pe_ix (ix_list : IxR _ (rIxL K)) (pv 3) pe_int (fun _ _ => rfl)) (pa_cons (pe_ix (ix_list : IxR _ (rIxL K)) (pv 4) pe_int (fun _ _ => rfl)) (pa_cons (pe_ix (ix_list : IxR _ (rIxL K)) (pv 4) pe_int (fun _ _ => rfl)) (pa_cons (pe_ix (ix_list : IxR _ (rIxL K)) (pv 4) pe_int (fun _ _ => rfl)) (pa_cons (pe_ix (ix_list : IxR _ (rIxL K)) (pv 4) pe_int (fun _ _ => rfl)) pa_nil)))))))))))⟩
  | 1, _ => exact ⟨(show LamS (defScope s_l_asked) (lamE 3 1).scope from lamS_by (by decide +kernel)), fun _ _ _ _ _ => rfl, fun A' outer' s' H' f' c' hc' hr' => pe_cmethS (pe_glob (v := .ref CS) (by rfl) VA.gS rfl) VA.rS VA.cS VA.FS (hc'.deep _) (hr'.mono (by decide)) (takes_of rfl rfl rfl rfl) (fun _ _ _ _ z => z) (pa_cons (pe_ix (ix_list : IxR _ (rIxL K)) (pv 3) pe_int (fun _ _ => rfl)) (pa_cons (pe_ix (ix_list : IxR _ (rIxL K)) (pv 3) pe_int (fun _ _ => rfl)) (pa_cons (pe_ix (ix_list : IxR _ (rIxL K)) (pv 3) pe_int (fun _ _ => rfl)) (pa_cons (pe_ix (ix_list : IxR _ (rIxL K)) (pv 3) pe_int (fun _ _ => rfl)) (pa_cons (pe_ix (ix_list : IxR _ (rIxL K)) (pv 3) pe_int (fun _ _ => rfl)) (pa_cons (pe_ix (ix_list : IxR _ (rIxL K)) (pv 3) pe_int (fun _ _ => rfl)) (pa_cons (pe_ix (ix_list : IxR _ (rIxL K)) (pv 3) pe_int (fun _ _ => rfl)) (pa_cons (pe_ix (ix_list : IxR _ (rIxL K)) (pv 4) pe_int (fun _ _ => rfl)) (pa_cons (pe_ix (ix_list : IxR _ (rIxL K)) (pv 4) pe_int (fun _ _ => rfl)) (pa_cons (pe_ix (ix_list : IxR _ (rIxL K)) (pv 4) pe_int (fun _ _ => rfl)) (pa_cons (pe_ix (ix_list : IxR _ (rIxL K)) (pv 4) pe_int (fun _ _ => rfl)) (pa_cons (pe_ix (ix_list : IxR _ (rIxL K)) (pv 4) pe_int (fun _ _ => rfl)) pa_nil))))))))))))⟩
  | 2, _ => exact ⟨(show LamS (defScope s_l_asked) (lamE 3 2).scope from lamS_by (by decide +kernel)), fun _ _ _ _ _ => rfl, fun A' outer' s' H' f' c' hc' hr' => pe_cmethS (pe_glob (v := .ref CS) (by rfl) VA.gS rfl) VA.rS VA.cS VA.FS (hc'.deep _) (hr'.mono (by decide)) (takes_of rfl rfl rfl rfl) (fun _ _ _ _ z => z) (pa_cons (pe_ix (ix_list : IxR _ (rIxL K)) (pv 3) pe_int (fun _ _ => rfl)) (pa_cons (pe_ix (ix_list : IxR _ (rIxL K)) (pv 3) pe_int (fun _ _ => rfl)) (pa_cons (pe_ix (ix_list : IxR _ (rIxL K)) (pv 3) pe_int (fun _ _ => rfl)) (pa_cons (pe_ix (ix_list : IxR _ (rIxL K)) (pv 3) pe_int (fun _ _ => rfl)) (pa_cons (pe_ix (ix_list : IxR _ (rIxL K)) (pv 3) pe_int (fun _ _ => rfl)) (pa_cons (pe_ix (ix_list : IxR _ (rIxL K)) (pv 3) pe_int (fun _ _ => rfl)) (pa_cons (pe_ix (ix_list : IxR _ (rIxL K)) (pv 3) pe_int (fun _ _ => rfl)) (pa_cons (pe_ix (ix_list : IxR _ (rIxL K)) (pv 4) pe_int (fun _ _ => rfl)) (pa_cons (pe_ix (ix_list : IxR _ (rIxL K)) (pv 4) pe_int (fun _ _ => rfl)) (pa_cons (pe_ix (ix_list : IxR _ (rIxL K)) (pv 4) pe_int (fun _ _ => rfl)) (pa_cons (pe_ix (ix_list : IxR _ (rIxL K)) (pv 4) pe_int (fun _ _ => rfl)) (pa_cons (pe_ix (ix_list : IxR _ (rIxL K)) (pv 4) pe_int (fun _ _ => rfl)) (pa_cons (pe_ix (ix_list : IxR _ (rIxL K)) (pv 4) pe_int (fun _ _ => rfl)) pa_nil)))))))))))))⟩
  | 3, _ => exact ⟨(show LamS (defScope s_l_asked) (lamE 3 3).scope from lamS_by (by decide +kernel)), fun _ _ _ _ _ => rfl, fun A' outer' s' H' f' c' hc' hr' => pe_cmethS (pe_glob (v := .ref CS) (by rfl) VA.gS rfl) VA.rS VA.cS VA.FS (hc'.deep _) (hr'.mono (by decide)) (takes_of rfl rfl rfl rfl) (fun _ _ _ _ z => z) (pa_cons (pe_ix (ix_list : IxR _ (rIxL K)) (pv 3) pe_int (fun _ _ => rfl)) (pa_cons (pe_ix (ix_list : IxR _ (rIxL K)) (pv 3) pe_int (fun _ _ => rfl)) (pa_cons (pe_ix (ix_list : IxR _ (rIxL K)) (pv 3) pe_int (fun _ _ => rfl)) (pa_cons (pe_ix (ix_list : IxR _ (rIxL K)) (pv 3) pe_int (fun _ _ => rfl)) (pa_cons (pe_ix (ix_list : IxR _ (rIxL K)) (pv 3) pe_int (fun _ _ => rfl)) (pa_cons (pe_ix (ix_list : IxR _ (rIxL K)) (pv 3) pe_int (fun _ _ => rfl)) (pa_cons (pe_ix (ix_list : IxR _ (rIxL K)) (pv 3) pe_int (fun _ _ => rfl)) (pa_cons (pe_ix (ix_list : IxR _ (rIxL K)) (pv 4) pe_int (fun _ _ => rfl)) (pa_cons (pe_ix (ix_list : IxR _ (rIxL K)) (pv 4) pe_int (fun _ _ => rfl)) (pa_cons (pe_ix (ix_list : IxR _ (rIxL K)) (pv 4) pe_int (fun _ _ => rfl)) (pa_cons (pe_ix (ix_list : IxR _ (rIxL K)) (pv 4) pe_int (fun _ _ => rfl)) (pa_cons (pe_ix (ix_list : IxR _ (rIxL K)) (pv 4) pe_int (fun _ _ => rfl)) (pa_cons (pe_ix (ix_list : IxR _ (rIxL K)) (pv 4) pe_int (fun _ _ => rfl)) (pa_cons (pe_ix (ix_list : IxR _ (rIxL K)) (pv 4) pe_int (fun _ _ => rfl)) pa_nil))))))))))))))⟩
end
end K04
set_option Elab.async false
set_option linter.all false
set_option autoImplicit false
set_option maxRecDepth 100000
set_option maxHeartbeats 8000000
namespace K04
open PySem PySem.Spec PyProof.Rows L2 Vb Wd Xd Xo Xe Xi Xm Xr Xv Xg Xl Ts K01 Zt Zk Nc Nd Lv Rd LamX Yl Ys
theorem Judged.extN {H H' : Hp} (e : ExtN H H') : ∀ {v : V}, Judged H v → Judged H' v
  | .int _, j => j
  | .str _, j => j
  | .non, j => j
  | .bl _, j => j
  | .ref _, j => j.imp (fun ⟨xs, h⟩ => ⟨xs, e _ _ h fun _ z => nomatch z⟩) fun j => j.imp (fun ⟨xs, h⟩ => ⟨xs, e _ _ h fun _ z => nomatch z⟩) fun ⟨xs, h⟩ => ⟨xs, e _ _ h fun _ z => nomatch z⟩
/-- lambdas in a list -/
structure Lams (X : Cx) (T : List (Addr × Str)) (H0 H : Hp) (lst : Addr) (bs : List LB) : Prop where
  ext : ExtN H0 H
  tabs : Tabs T H
  ex : ∃ fs : List Addr, H lst = some (.lst (fs.map V.ref)) ∧ fs.length = bs.length ∧ ∀ (j : Nat) (f : Addr) (b : LB), fs[j]? = some f → bs[j]? = some b → LamIs X H f b
theorem LamIs.putL {X : Cx} {H : Hp} {f a : Addr} {b : LB} {xs ys : List V} (e : H a = some (.lst xs)) (l : LamIs X H f b) : LamIs X (upd H a (.lst ys)) f b := by
  obtain ⟨c', h1, h2⟩ := l
  refine ⟨c', ?_, ?_⟩
  · rw [upd_ne (fun z => by rw [z, e] at h1; unfold LamO at h1; cases h1)]
    exact h1
  · rw [upd_ne (fun z => by rw [z, e] at h2; unfold CodeO at h2; cases h2)]
    exact h2
theorem Lams.start {X : Cx} {T : List (Addr × Str)} {H0 H1 : Hp} {lst f : Addr} {b : LB} (x : ExtN H0 H1) (t : Tabs T H1) (l : LamIs X H1 f b) (n : H1 lst = none) : Lams X T H0 (upd H1 lst (.lst [V.ref f])) lst [b] := by
  have sn := same_new (o := .lst [V.ref f]) n
  refine ⟨x.trans (ExtN.of sn), t.ext sn, [f], upd_same, rfl, fun j f' b' h1 h2 => ?_⟩
  match j, h1, h2 with
  | 0, h1, h2 =>
    cases h1
    cases h2
    exact l.ext (ExtN.of sn)
theorem Tabs.putL {T : List (Addr × Str)} {H : Hp} {a : Addr} {xs ys : List V} (e : H a = some (.lst xs)) (t : Tabs T H) : Tabs T (upd H a (.lst ys)) := fun p hp => by
  obtain ⟨ps, h1, h2, h3⟩ := t p hp
  refine ⟨ps, ?_, h2, fun pos cv hc => ?_⟩
  · rw [upd_ne (fun z => by rw [z, e] at h1; cases h1)]
    exact h1
  · obtain ⟨c, e1, e2⟩ := h3 pos cv hc
    refine ⟨c, e1, ?_⟩
    rw [upd_ne (fun z => by rw [z, e] at e2; unfold CodeO at e2; cases e2)]
    exact e2
theorem Lams.snoc {X : Cx} {T : List (Addr × Str)} {H0 H H2 : Hp} {lst f : Addr} {b : LB} {bs : List LB} (G : Lams X T H0 H lst bs) (n0 : ∀ o, H0 lst = some o → (∀ ps, o ≠ .tbl ps) → False) (x : ExtN H H2) (t : Tabs T H2) (l : LamIs X H2 f b) (hb : bs.length < sizeLine) :
    ∃ xs, H2 lst = some (.lst xs) ∧ xs.length < sizeLine ∧ Lams X T H0 (upd H2 lst (.lst (xs ++ [V.ref f]))) lst (bs ++ [b]) := by
  obtain ⟨fs, e, hl, hf⟩ := G.ex
  have e2 := x _ _ e fun _ z => nomatch z
  refine ⟨_, e2, by rw [List.length_map, hl]; exact hb, fun a o ea nt => ?_, Tabs.putL e2 t, fs ++ [f], ?_, by rw [List.length_append, List.length_append, hl]; rfl, fun j f' b' h1 h2 => ?_⟩
  · rw [upd_ne (fun z => n0 o (by rw [← z]; exact ea) nt)]
    exact x _ _ (G.ext _ _ ea nt) nt
  · rw [upd_same, List.map_append]
    rfl
  · by_cases hj : j < fs.length
    · rw [List.getElem?_append_left hj] at h1
      rw [List.getElem?_append_left (by omega)] at h2
      exact LamIs.putL e2 ((hf j f' b' h1 h2).ext x)
    · have jl : j < (fs ++ [f]).length := (List.getElem?_eq_some_iff.mp h1).1
      rw [List.length_append, List.length_singleton] at jl
      have ej : j = fs.length := by omega
      subst ej
      rw [List.getElem?_append_right (Nat.le_refl _), Nat.sub_self] at h1
      rw [hl, List.getElem?_append_right (Nat.le_refl _), Nat.sub_self] at h2
      cases h1
      cases h2
      exact LamIs.putL e2 l
theorem Lams.at_ {X : Cx} {T : List (Addr × Str)} {H0 H : Hp} {lst : Addr} {bs : List LB} (G : Lams X T H0 H lst bs) : ∃ fs : List Addr, H lst = some (.lst (fs.map V.ref)) := by
  obtain ⟨fs, e, _⟩ := G.ex
  exact ⟨fs, e⟩
theorem Lams.as {X : Cx} {T : List (Addr × Str)} {H0 H : Hp} {lst : Addr} {bs bs' : List LB} (G : Lams X T H0 H lst bs) (e : bs = bs') : Lams X T H0 H lst bs' := e ▸ G
theorem args_run7 {K : PySem.W.Frag} {la lb : Addr} {xs ys : List V} {σ : L2.St} {H : Hp} {Q : List V → Hp → Prop} (hs : σ[3]? = some (some (.ref la))) (hl : H la = some (.lst xs)) (hs' : σ[4]? = some (some (.ref lb))) (hl' : H lb = some (.lst ys)) (j : Nat) (le : 0 + 7 ≤ xs.length) (le' : 0 + (4 + j) ≤ ys.length)
    (q : Q ((xs.drop 0).take 7 ++ ((ys.drop 0).take (4 + j) ++ [])) H) : argsC K 3 0 7 (argsC K 4 0 (4 + j) tNil) σ H Q :=
  args_run hs hl 7 0 Q le (args_run hs' hl' (4 + j) 0 (fun zs H' => Q ((xs.drop 0).take 7 ++ zs) H') le' q)
theorem args_of3 {K : PySem.W.Frag} {la lb : Addr} {xs ys : List V} {σ : L2.St} {H : Hp} {Q : List V → Hp → Prop} (hs : σ[3]? = some (some (.ref la))) (hl : H la = some (.lst xs)) (hs' : σ[4]? = some (some (.ref lb))) (hl' : H lb = some (.lst ys)) (j : Nat) (le : 0 + 7 ≤ xs.length) (le' : 0 + (4 + j) ≤ ys.length)
    (q : Q ((xs.drop 0).take 7 ++ ((ys.drop 0).take (4 + j) ++ [])) H) : argsOf K 3 j σ H Q := by
  have e : argsOf K 3 j = argsC K 3 0 7 (argsC K 4 0 (4 + j) tNil) := by
    unfold argsOf
    rw [if_neg (by decide), if_neg (by decide), if_neg (by decide)]
  rw [e]
  exact args_run7 hs hl hs' hl' j le le' q
/-- what comes of lines -/
def spAsked (T : List (Addr × Str)) (C CS CI CP : Addr) : Sp := fun vs H Q E => ∃ (l : Addr) (ls : List V) (L : List Str), vs = [.ref l] ∧ H l = some (.lst ls) ∧ ls.length ≤ 14 ∧ LinesOk H L ls ∧ Tabs T H ∧
  (∀ i g, i < ls.length → readTo ls i = some g → readTo ls (i + 1) = none → ∀ H' d, ExtN H H' → Tabs T H' → H' d = some (.xd [("number", .int (i : Nat))]) → E (.ref CP) (some d) H') ∧
  ∀ g, readTo ls ls.length = some g → (∀ b ys, g.1 = some b → g.2.1 = some ys → schB (.str b) (some ys) g.2.2 = true → ∀ a H' ds', ExtN H H' → Tabs T H' → SchemeAt H' C CS a b ys ds' → ds'.Perm g.2.2 → Q (.ref a) H') ∧
    (schG g = false → ∀ H', ExtN H H' → Tabs T H' → E (.ref CI) none H')
theorem asked_end {K : PySem.W.Frag} {T : List (Addr × Str)} {C CS CI CP : Addr} {H0 H : Hp} {ls : List V} {L : List Str} {Q : VK} {E : XK} (x : ExtN H0 H) (t : Tabs T H) (LO : LinesOk H0 L ls)
    (q1 : ∀ i g, i < ls.length → readTo ls i = some g → readTo ls (i + 1) = none → ∀ H' d, ExtN H0 H' → Tabs T H' → H' d = some (.xd [("number", .int (i : Nat))]) → E (.ref CP) (some d) H')
    (q2 : ∀ g, readTo ls ls.length = some g → (∀ b ys, g.1 = some b → g.2.1 = some ys → schB (.str b) (some ys) g.2.2 = true → ∀ a H' ds', ExtN H0 H' → Tabs T H' → SchemeAt H' C CS a b ys ds' → ds'.Perm g.2.2 → Q (.ref a) H') ∧
      (schG g = false → ∀ H', ExtN H0 H' → Tabs T H' → E (.ref CI) none H')) : spFLS K C CS CI CP (.ref CS :: ls) H Q E := by
  refine ⟨[.ref CS], ls, rfl, rfl, Nat.le_trans LO.few (by decide), fun p np => ⟨p, ls, L, rfl, upd_same, LO.few, LO.lL, fun v hv => ?_, fun i g hi hg hn H' d s nd => ?_, fun g hg => ?_⟩⟩
  · obtain ⟨j, w, n⟩ := LO.each v hv
    exact ⟨(Judged.extN x j).same (same_new np), w, n⟩
  · have s2 := ((same_new (o := .tup ls) np).trans s).trans (same_new (o := .xd [("number", .int (i : Nat))]) nd)
    exact q1 i g hi hg hn _ d (x.trans (ExtN.of s2)) (t.ext s2) upd_same
  · obtain ⟨r1, r2⟩ := q2 g hg
    have sp := same_new (o := .tup ls) np
    exact ⟨fun b ys e1 e2 e3 a H' ds' s S pm => r1 b ys e1 e2 e3 a H' ds' (x.trans (ExtN.of (sp.trans s))) (t.ext (sp.trans s)) S pm, fun e H' s => r2 e H' (x.trans (ExtN.of (sp.trans s))) (t.ext (sp.trans s))⟩
section
variable {P : Program} {w : World} {K : PySem.W.Frag} {mg : Str → Option Value} {base : Heap} {C CS CI CP : Addr}
theorem ok_l_asked {f c Pt : Addr} {fd : FuncData} {T : List (Addr × Str)} (F : FunC K "_law_asked" "_law_asked" s_l_asked f fd (.ref c)) (VA : EnvA P w K mg base C CS CI CP) (TB : TabB base mg c Pt) (hmT : (Pt, ("_law_asked.<locals>.<lambda>" : Str)) ∈ T) (hu : ∀ p ∈ T, p.1 = Pt → p.2 = "_law_asked.<locals>.<lambda>")
    (z_len : mg "len" = none) (z_list : mg "list" = none) : FnE P w K mg base 11 f fd ["_law_lines"] (spAsked T C CS CI CP) := by
  refine goes_excC F sc_l_asked (fun vs H Q E h => ?_) (fun A outer s H vs Q E hc hr tk h => ?_)
  · obtain ⟨l, ls, L, rfl, _⟩ := h
    rfl
  · obtain ⟨l, ls, L, rfl, hl, l14, LO, ht, q1, q2⟩ := h
    refine ⟨_, (pss_cons (ps_asg (pe_tup (pa_cons (pe_callB call_len_seq (by rfl) z_len PySem.boot_len (pa_cons (pv 0) pa_nil)) (pa_cons (pe_op op_cat (pe_callTy call_list_of (by rfl) z_list (by decide +kernel) (pa_cons (pv 0) pa_nil)) (pe_op op_rep (pe_lst (pa_cons pe_str pa_nil)) pe_int)) pa_nil))) (pg_tup (by rfl) (pgs_cons (pg_name (i := 1) sc_l_asked.nd rfl (Or.inl rfl)) (pgs_cons (pg_name (i := 3) sc_l_asked.nd rfl (Or.inr rfl)) pgs_nil))))
      (pss_cons (ps_if (pt_cmpR op_lt (pv 1) pe_int (nomark _))
      (pss_cons (ps_set (i := 2) sc_l_asked.nd rfl (Or.inl rfl) (pe_lst (pa_cons (pe_lamV TB rfl hmT hu (show LamS (defScope s_l_asked) _ from lamS_by (by decide +kernel)) rfl) pa_nil)))
      (pss_cons (ps_expr (pe_bm PySem.F.plainAttrs_list PySem.F.slot_list_append PySem.F.type_list_append mt_append (pv 2) (pa_cons (pe_lamV TB rfl hmT hu (show LamS (defScope s_l_asked) _ from lamS_by (by decide +kernel)) rfl) pa_nil)))
      (pss_cons (ps_expr (pe_bm PySem.F.plainAttrs_list PySem.F.slot_list_append PySem.F.type_list_append mt_append (pv 2) (pa_cons (pe_lamV TB rfl hmT hu (show LamS (defScope s_l_asked) _ from lamS_by (by decide +kernel)) rfl) pa_nil)))
      (pss_cons (ps_expr (pe_bm PySem.F.plainAttrs_list PySem.F.slot_list_append PySem.F.type_list_append mt_append (pv 2) (pa_cons (pe_lamV TB rfl hmT hu (show LamS (defScope s_l_asked) _ from lamS_by (by decide +kernel)) rfl) pa_nil)))
      (pss_cons (ps_expr (pe_bm PySem.F.plainAttrs_list PySem.F.slot_list_append PySem.F.type_list_append mt_append (pv 2) (pa_cons (pe_lamV TB rfl hmT hu (show LamS (defScope s_l_asked) _ from lamS_by (by decide +kernel)) rfl) pa_nil)))
      (pss_one (ps_ret (pe_callV (k := 9) (E := E) (R := lamR K C CS CI CP E 0 5) (pe_ix (ix_list : IxR _ (rIxL K)) (pv 2) (pv 1) (fun _ _ => rfl)) hc hr tk (fun _ _ _ _ z => z) (lam_part0 VA)))))))))
      pss_nil)
      (pss_cons (ps_if (pt_cmpR op_lt (pv 1) pe_int (nomark _))
      (pss_cons (ps_set (i := 2) sc_l_asked.nd rfl (Or.inl rfl) (pe_lst (pa_cons (pe_lamV TB rfl hmT hu (show LamS (defScope s_l_asked) _ from lamS_by (by decide +kernel)) rfl) pa_nil)))
      (pss_cons (ps_expr (pe_bm PySem.F.plainAttrs_list PySem.F.slot_list_append PySem.F.type_list_append mt_append (pv 2) (pa_cons (pe_lamV TB rfl hmT hu (show LamS (defScope s_l_asked) _ from lamS_by (by decide +kernel)) rfl) pa_nil)))
      (pss_cons (ps_expr (pe_bm PySem.F.plainAttrs_list PySem.F.slot_list_append PySem.F.type_list_append mt_append (pv 2) (pa_cons (pe_lamV TB rfl hmT hu (show LamS (defScope s_l_asked) _ from lamS_by (by decide +kernel)) rfl) pa_nil)))
      (pss_one (ps_ret (pe_callV (k := 9) (E := E) (R := lamR K C CS CI CP E 1 3) (pe_ix (ix_list : IxR _ (rIxL K)) (pv 2) (pe_op op_sub (pv 1) pe_int) (fun _ _ => rfl)) hc hr tk (fun _ _ _ _ z => z) (lam_part1 VA)))))))
      pss_nil)
      (pss_cons (ps_if (pt_cmpR op_lt (pv 1) pe_int (nomark _))
      (pss_cons (ps_set (i := 2) sc_l_asked.nd rfl (Or.inl rfl) (pe_lst (pa_cons (pe_lamV TB rfl hmT hu (show LamS (defScope s_l_asked) _ from lamS_by (by decide +kernel)) rfl) pa_nil)))
      (pss_cons (ps_expr (pe_bm PySem.F.plainAttrs_list PySem.F.slot_list_append PySem.F.type_list_append mt_append (pv 2) (pa_cons (pe_lamV TB rfl hmT hu (show LamS (defScope s_l_asked) _ from lamS_by (by decide +kernel)) rfl) pa_nil)))
      (pss_cons (ps_expr (pe_bm PySem.F.plainAttrs_list PySem.F.slot_list_append PySem.F.type_list_append mt_append (pv 2) (pa_cons (pe_lamV TB rfl hmT hu (show LamS (defScope s_l_asked) _ from lamS_by (by decide +kernel)) rfl) pa_nil)))
      (pss_one (ps_ret (pe_callV (k := 9) (E := E) (R := lamR K C CS CI CP E 2 3) (pe_ix (ix_list : IxR _ (rIxL K)) (pv 2) (pe_op op_sub (pv 1) pe_int) (fun _ _ => rfl)) hc hr tk (fun _ _ _ _ z => z) (lam_part2 VA)))))))
      pss_nil)
      (pss_cons (ps_set (i := 4) sc_l_asked.nd rfl (Or.inr rfl) (pe_slice (sl_list : SlR _ (rSlL K)) (pv 3) (po_some pe_int) po_none))
      (pss_cons (ps_set (i := 2) sc_l_asked.nd rfl (Or.inl rfl) (pe_lst (pa_cons (pe_lamV TB rfl hmT hu (show LamS (defScope s_l_asked) _ from lamS_by (by decide +kernel)) rfl) pa_nil)))
      (pss_cons (ps_expr (pe_bm PySem.F.plainAttrs_list PySem.F.slot_list_append PySem.F.type_list_append mt_append (pv 2) (pa_cons (pe_lamV TB rfl hmT hu (show LamS (defScope s_l_asked) _ from lamS_by (by decide +kernel)) rfl) pa_nil)))
      (pss_cons (ps_expr (pe_bm PySem.F.plainAttrs_list PySem.F.slot_list_append PySem.F.type_list_append mt_append (pv 2) (pa_cons (pe_lamV TB rfl hmT hu (show LamS (defScope s_l_asked) _ from lamS_by (by decide +kernel)) rfl) pa_nil)))
      (pss_cons (ps_expr (pe_bm PySem.F.plainAttrs_list PySem.F.slot_list_append PySem.F.type_list_append mt_append (pv 2) (pa_cons (pe_lamV TB rfl hmT hu (show LamS (defScope s_l_asked) _ from lamS_by (by decide +kernel)) rfl) pa_nil)))
      (pss_one (ps_ret (pe_callV (k := 9) (E := E) (R := lamR K C CS CI CP E 3 4) (pe_ix (ix_list : IxR _ (rIxL K)) (pv 2) (pe_op op_sub (pv 1) pe_int) (fun _ _ => rfl)) hc hr tk (fun _ _ _ _ z => z) (lam_part3 VA))))))))))))), ?_⟩
    refine ⟨_, rfl, l, ls, rfl, .inl (.inl (.inl hl)), _, rfl, l, ls, rfl, .inl (.inl (.inl hl)), fun l1 n1 => ⟨(by show 1 ≤ sizeLine; decide), fun l2 n2 => ⟨l2, 14, [V.str ""], rfl, rfl, upd_same, by decide, by decide, (by show 1 * 14 ≤ sizeLine; decide), fun l3 n3 => ?_⟩⟩⟩
    have s1 := same_new (o := .lst ls) n1
    have s2 := same_new (o := .lst [V.str ""]) n2
    have s3 := same_new (o := .lst (List.replicate (14 : Int).toNat [V.str ""]).flatten) n3
    have lpad : (List.replicate (14 : Int).toNat [V.str ""]).flatten.length = 14 := by decide
    generalize (List.replicate (14 : Int).toNat [V.str ""]).flatten = pad at s3 lpad ⊢
    refine ⟨l1, l3, _, _, rfl, rfl, (s2.trans s3) _ _ upd_same, upd_same, Nat.le_trans (show ls.length + pad.length ≤ 28 by omega) (by decide), fun la nla => ?_⟩
    have s4 := same_new (o := .lst (ls ++ pad)) nla
    refine ⟨(by show 2 ≤ sizeLine; decide), fun tp ntp => ⟨tp, _, rfl, .inl (.inl upd_same), rfl, _, _, rfl, _, _, rfl, rfl, ?_⟩⟩
    have s5 := same_new (o := .tup [V.int ls.length, V.ref la]) ntp
    have ela := s5 _ _ (upd_same (a := la) (o := .lst (ls ++ pad)))
    have s15 := (((s1.trans s2).trans s3).trans s4).trans s5
    have x1 := ExtN.of s15
    have htb := ht.ext s15
    generalize (upd (upd (upd (upd (upd H l1 (.lst ls)) l2 (.lst [V.str ""])) l3 (.lst pad)) la (.lst (ls ++ pad))) tp (.tup [V.int ls.length, V.ref la])) = H1 at ela x1 htb ⊢
    refine ⟨_, rfl, _, _, rfl, rfl, _, rfl, ?_⟩
    by_cases h5 : ls.length < 5
    · rw [decide_eq_true (show (ls.length : Int) < 5 by omega)]
      refine iteT ?_
      refine ⟨htb, fun g0 K0 x0 t0 m0 b0 => ⟨(by show 1 ≤ sizeLine; decide), fun lst nlst => ?_⟩⟩
      have n0 : ∀ o, H1 lst = some o → (∀ ps, o ≠ .tbl ps) → False := fun o e nt => by
        have := x0 _ _ e nt
        rw [nlst] at this
        cases this
      have G0 := Lams.start (X := cxA P w K mg base f c A outer s H E) x0 t0 b0 nlst
      obtain ⟨fs1, ef1⟩ := G0.at_
      refine ⟨_, rfl, .inl ⟨rfl, _, .inl (.inl ef1)⟩, G0.tabs, fun g1 K1 x1' t1 m1 b1 => ?_⟩
      obtain ⟨xs1, e1, xl1, G1⟩ := G0.snoc n0 x1' t1 b1 (show 1 < sizeLine by decide)
      refine ⟨lst, xs1, _, rfl, rfl, e1, xl1, ?_⟩
      obtain ⟨fs2, ef2⟩ := G1.at_
      refine ⟨_, rfl, .inl ⟨rfl, _, .inl (.inl ef2)⟩, G1.tabs, fun g2 K2 x2' t2 m2 b2 => ?_⟩
      obtain ⟨xs2, e2, xl2, G2⟩ := G1.snoc n0 x2' t2 b2 (show 2 < sizeLine by decide)
      refine ⟨lst, xs2, _, rfl, rfl, e2, xl2, ?_⟩
      obtain ⟨fs3, ef3⟩ := G2.at_
      refine ⟨_, rfl, .inl ⟨rfl, _, .inl (.inl ef3)⟩, G2.tabs, fun g3 K3 x3' t3 m3 b3 => ?_⟩
      obtain ⟨xs3, e3, xl3, G3⟩ := G2.snoc n0 x3' t3 b3 (show 3 < sizeLine by decide)
      refine ⟨lst, xs3, _, rfl, rfl, e3, xl3, ?_⟩
      obtain ⟨fs4, ef4⟩ := G3.at_
      refine ⟨_, rfl, .inl ⟨rfl, _, .inl (.inl ef4)⟩, G3.tabs, fun g4 K4 x4' t4 m4 b4 => ?_⟩
      obtain ⟨xs4, e4, xl4, G4⟩ := G3.snoc n0 x4' t4 b4 (show 4 < sizeLine by decide)
      refine ⟨lst, xs4, _, rfl, rfl, e4, xl4, ?_⟩
      have GG := G4.as (bs' := (List.range 5).map (lamE 0)) (by kernel_rfl)
      obtain ⟨fs, efs, fl, fi⟩ := GG.ex
      obtain ⟨j, ej⟩ : ∃ j, ls.length = 0 + j := ⟨ls.length - 0, by omega⟩
      have jm : j < 5 := by omega
      rw [List.length_map, List.length_range] at fl
      obtain ⟨gj, hfj⟩ : ∃ gj, fs[j]? = some gj := ⟨fs[j]'(by omega), List.getElem?_eq_getElem (by omega)⟩
      have hbj : ((List.range 5).map (lamE 0))[j]? = some (lamE 0 j) := by
        rw [List.getElem?_map, List.getElem?_range jm]
        rfl
      have lj := fi j _ (lamE 0 j) hfj hbj
      have hat : atI (fs.map V.ref) (j : Int) = some (.ref gj) := by
        exact atI_nat (by rw [List.getElem?_map, hfj]; rfl)
      have en : (ls.length : Int) = (j : Int) := by omega
      rw [← en] at hat
      refine ⟨_, rfl, _, rfl, lst, _, _, _, rfl, rfl, .inl (.inl efs), hat, _, _, _, rfl, lj, ⟨j, jm, rfl, rfl⟩, rfl, ?_⟩
      have hla := G4.ext _ _ ela fun _ z => nomatch z
      have et : ((ls ++ pad).drop 0).take (0 + j) ++ [] = ls := by
        rw [List.append_nil, List.drop_zero, ← ej, List.take_left]
      show argsC K 3 0 j tNil _ _ _
      rw [Nat.zero_add] at et
      refine args_run (la := la) rfl hla j 0 _ (by rw [List.length_append, lpad]; omega) ?_
      show spFLS K C CS CI CP (V.ref CS :: (((ls ++ pad).drop 0).take j ++ [])) _ Q E
      rw [et]
      exact asked_end (x1.trans G4.ext) G4.tabs LO q1 q2
    · rw [decide_eq_false (show ¬ (ls.length : Int) < 5 by omega)]
      refine iteF ?_
      refine ⟨_, rfl, _, _, rfl, rfl, _, rfl, ?_⟩
      by_cases h8 : ls.length < 8
      · rw [decide_eq_true (show (ls.length : Int) < 8 by omega)]
        refine iteT ?_
        refine ⟨htb, fun g0 K0 x0 t0 m0 b0 => ⟨(by show 1 ≤ sizeLine; decide), fun lst nlst => ?_⟩⟩
        have n0 : ∀ o, H1 lst = some o → (∀ ps, o ≠ .tbl ps) → False := fun o e nt => by
          have := x0 _ _ e nt
          rw [nlst] at this
          cases this
        have G0 := Lams.start (X := cxA P w K mg base f c A outer s H E) x0 t0 b0 nlst
        obtain ⟨fs1, ef1⟩ := G0.at_
        refine ⟨_, rfl, .inl ⟨rfl, _, .inl (.inl ef1)⟩, G0.tabs, fun g1 K1 x1' t1 m1 b1 => ?_⟩
        obtain ⟨xs1, e1, xl1, G1⟩ := G0.snoc n0 x1' t1 b1 (show 1 < sizeLine by decide)
        refine ⟨lst, xs1, _, rfl, rfl, e1, xl1, ?_⟩
        obtain ⟨fs2, ef2⟩ := G1.at_
        refine ⟨_, rfl, .inl ⟨rfl, _, .inl (.inl ef2)⟩, G1.tabs, fun g2 K2 x2' t2 m2 b2 => ?_⟩
        obtain ⟨xs2, e2, xl2, G2⟩ := G1.snoc n0 x2' t2 b2 (show 2 < sizeLine by decide)
        refine ⟨lst, xs2, _, rfl, rfl, e2, xl2, ?_⟩
        have GG := G2.as (bs' := (List.range 3).map (lamE 1)) (by kernel_rfl)
        obtain ⟨fs, efs, fl, fi⟩ := GG.ex
        obtain ⟨j, ej⟩ : ∃ j, ls.length = 5 + j := ⟨ls.length - 5, by omega⟩
        have jm : j < 3 := by omega
        rw [List.length_map, List.length_range] at fl
        obtain ⟨gj, hfj⟩ : ∃ gj, fs[j]? = some gj := ⟨fs[j]'(by omega), List.getElem?_eq_getElem (by omega)⟩
        have hbj : ((List.range 3).map (lamE 1))[j]? = some (lamE 1 j) := by
          rw [List.getElem?_map, List.getElem?_range jm]
          rfl
        have lj := fi j _ (lamE 1 j) hfj hbj
        have hat : atI (fs.map V.ref) (j : Int) = some (.ref gj) := by
          exact atI_nat (by rw [List.getElem?_map, hfj]; rfl)
        have en : (ls.length : Int) - 5 = (j : Int) := by omega
        rw [← en] at hat
        refine ⟨_, rfl, _, rfl, _, _, rfl, rfl, lst, _, _, _, rfl, rfl, .inl (.inl efs), hat, _, _, _, rfl, lj, ⟨j, jm, rfl, rfl⟩, rfl, ?_⟩
        have hla := G2.ext _ _ ela fun _ z => nomatch z
        have et : ((ls ++ pad).drop 0).take (5 + j) ++ [] = ls := by
          rw [List.append_nil, List.drop_zero, ← ej, List.take_left]
        show argsC K 3 0 (5 + j) tNil _ _ _
        refine args_run (la := la) rfl hla (5 + j) 0 _ (by rw [List.length_append, lpad]; omega) ?_
        show spFLS K C CS CI CP (V.ref CS :: (((ls ++ pad).drop 0).take (5 + j) ++ [])) _ Q E
        rw [et]
        exact asked_end (x1.trans G2.ext) G2.tabs LO q1 q2
      · rw [decide_eq_false (show ¬ (ls.length : Int) < 8 by omega)]
        refine iteF ?_
        refine ⟨_, rfl, _, _, rfl, rfl, _, rfl, ?_⟩
        by_cases h11 : ls.length < 11
        · rw [decide_eq_true (show (ls.length : Int) < 11 by omega)]
          refine iteT ?_
          refine ⟨htb, fun g0 K0 x0 t0 m0 b0 => ⟨(by show 1 ≤ sizeLine; decide), fun lst nlst => ?_⟩⟩
          have n0 : ∀ o, H1 lst = some o → (∀ ps, o ≠ .tbl ps) → False := fun o e nt => by
            have := x0 _ _ e nt
            rw [nlst] at this
            cases this
          have G0 := Lams.start (X := cxA P w K mg base f c A outer s H E) x0 t0 b0 nlst
          obtain ⟨fs1, ef1⟩ := G0.at_
          refine ⟨_, rfl, .inl ⟨rfl, _, .inl (.inl ef1)⟩, G0.tabs, fun g1 K1 x1' t1 m1 b1 => ?_⟩
          obtain ⟨xs1, e1, xl1, G1⟩ := G0.snoc n0 x1' t1 b1 (show 1 < sizeLine by decide)
          refine ⟨lst, xs1, _, rfl, rfl, e1, xl1, ?_⟩
          obtain ⟨fs2, ef2⟩ := G1.at_
          refine ⟨_, rfl, .inl ⟨rfl, _, .inl (.inl ef2)⟩, G1.tabs, fun g2 K2 x2' t2 m2 b2 => ?_⟩
          obtain ⟨xs2, e2, xl2, G2⟩ := G1.snoc n0 x2' t2 b2 (show 2 < sizeLine by decide)
          refine ⟨lst, xs2, _, rfl, rfl, e2, xl2, ?_⟩
          have GG := G2.as (bs' := (List.range 3).map (lamE 2)) (by kernel_rfl)
          obtain ⟨fs, efs, fl, fi⟩ := GG.ex
          obtain ⟨j, ej⟩ : ∃ j, ls.length = 8 + j := ⟨ls.length - 8, by omega⟩
          have jm : j < 3 := by omega
          rw [List.length_map, List.length_range] at fl
          obtain ⟨gj, hfj⟩ : ∃ gj, fs[j]? = some gj := ⟨fs[j]'(by omega), List.getElem?_eq_getElem (by omega)⟩
          have hbj : ((List.range 3).map (lamE 2))[j]? = some (lamE 2 j) := by
            rw [List.getElem?_map, List.getElem?_range jm]
            rfl
          have lj := fi j _ (lamE 2 j) hfj hbj
          have hat : atI (fs.map V.ref) (j : Int) = some (.ref gj) := by
            exact atI_nat (by rw [List.getElem?_map, hfj]; rfl)
          have en : (ls.length : Int) - 8 = (j : Int) := by omega
          rw [← en] at hat
          refine ⟨_, rfl, _, rfl, _, _, rfl, rfl, lst, _, _, _, rfl, rfl, .inl (.inl efs), hat, _, _, _, rfl, lj, ⟨j, jm, rfl, rfl⟩, rfl, ?_⟩
          have hla := G2.ext _ _ ela fun _ z => nomatch z
          have et : ((ls ++ pad).drop 0).take (8 + j) ++ [] = ls := by
            rw [List.append_nil, List.drop_zero, ← ej, List.take_left]
          show argsC K 3 0 (8 + j) tNil _ _ _
          refine args_run (la := la) rfl hla (8 + j) 0 _ (by rw [List.length_append, lpad]; omega) ?_
          show spFLS K C CS CI CP (V.ref CS :: (((ls ++ pad).drop 0).take (8 + j) ++ [])) _ Q E
          rw [et]
          exact asked_end (x1.trans G2.ext) G2.tabs LO q1 q2
        · rw [decide_eq_false (show ¬ (ls.length : Int) < 11 by omega)]
          refine iteF ?_
          have cut7 : cutV (ls ++ pad) (some 7) none = (ls ++ pad).drop 7 := by
            unfold cutV
            have e : HT.sIx (ls ++ pad).length 0 (some 7) = min 7 (ls ++ pad).length := HT.sIx_nat _ _ 7
            rw [e, HT.sIx_none, Nat.min_eq_left (by rw [List.length_append, lpad]; omega), List.take_of_length_le (by rw [List.length_drop]; exact Nat.le_refl _)]
          refine ⟨_, rfl, _, rfl, la, _, rfl, .inl (.inl ela), fun lb nlb => ?_⟩
          rw [cut7]
          have sb := same_new (o := .lst ((ls ++ pad).drop 7)) nlb
          have xb := ExtN.of sb
          have ela2 := sb _ _ ela
          have elb : (upd H1 lb (.lst ((ls ++ pad).drop 7))) lb = some (.lst ((ls ++ pad).drop 7)) := upd_same
          have hB2 := htb.ext sb
          generalize (upd H1 lb (.lst ((ls ++ pad).drop 7))) = H2 at xb ela2 elb hB2 ⊢
          refine ⟨hB2, fun g0 K0 x0 t0 m0 b0 => ⟨(by show 1 ≤ sizeLine; decide), fun lst nlst => ?_⟩⟩
          have n0 : ∀ o, H2 lst = some o → (∀ ps, o ≠ .tbl ps) → False := fun o e nt => by
            have := x0 _ _ e nt
            rw [nlst] at this
            cases this
          have G0 := Lams.start (X := cxA P w K mg base f c A outer s H E) x0 t0 b0 nlst
          obtain ⟨fs1, ef1⟩ := G0.at_
          refine ⟨_, rfl, .inl ⟨rfl, _, .inl (.inl ef1)⟩, G0.tabs, fun g1 K1 x1' t1 m1 b1 => ?_⟩
          obtain ⟨xs1, e1, xl1, G1⟩ := G0.snoc n0 x1' t1 b1 (show 1 < sizeLine by decide)
          refine ⟨lst, xs1, _, rfl, rfl, e1, xl1, ?_⟩
          obtain ⟨fs2, ef2⟩ := G1.at_
          refine ⟨_, rfl, .inl ⟨rfl, _, .inl (.inl ef2)⟩, G1.tabs, fun g2 K2 x2' t2 m2 b2 => ?_⟩
          obtain ⟨xs2, e2, xl2, G2⟩ := G1.snoc n0 x2' t2 b2 (show 2 < sizeLine by decide)
          refine ⟨lst, xs2, _, rfl, rfl, e2, xl2, ?_⟩
          obtain ⟨fs3, ef3⟩ := G2.at_
          refine ⟨_, rfl, .inl ⟨rfl, _, .inl (.inl ef3)⟩, G2.tabs, fun g3 K3 x3' t3 m3 b3 => ?_⟩
          obtain ⟨xs3, e3, xl3, G3⟩ := G2.snoc n0 x3' t3 b3 (show 3 < sizeLine by decide)
          refine ⟨lst, xs3, _, rfl, rfl, e3, xl3, ?_⟩
          have GG := G3.as (bs' := (List.range 4).map (lamE 3)) (by kernel_rfl)
          obtain ⟨fs, efs, fl, fi⟩ := GG.ex
          obtain ⟨j, ej⟩ : ∃ j, ls.length = 11 + j := ⟨ls.length - 11, by omega⟩
          have jm : j < 4 := by omega
          rw [List.length_map, List.length_range] at fl
          obtain ⟨gj, hfj⟩ : ∃ gj, fs[j]? = some gj := ⟨fs[j]'(by omega), List.getElem?_eq_getElem (by omega)⟩
          have hbj : ((List.range 4).map (lamE 3))[j]? = some (lamE 3 j) := by
            rw [List.getElem?_map, List.getElem?_range jm]
            rfl
          have lj := fi j _ (lamE 3 j) hfj hbj
          have hat : atI (fs.map V.ref) (j : Int) = some (.ref gj) := by
            exact atI_nat (by rw [List.getElem?_map, hfj]; rfl)
          have en : (ls.length : Int) - 11 = (j : Int) := by omega
          rw [← en] at hat
          refine ⟨_, rfl, _, rfl, _, _, rfl, rfl, lst, _, _, _, rfl, rfl, .inl (.inl efs), hat, _, _, _, rfl, lj, ⟨j, jm, rfl, rfl⟩, rfl, ?_⟩
          have hla := G3.ext _ _ ela2 fun _ z => nomatch z
          have hlb := G3.ext _ _ elb fun _ z => nomatch z
          have et : ((ls ++ pad).drop 0).take 7 ++ ((((ls ++ pad).drop 7).drop 0).take (4 + j) ++ []) = ls := by
            rw [List.append_nil, List.drop_zero, List.drop_zero, ← List.take_add, show 7 + (4 + j) = ls.length by omega, List.take_left]
          show argsOf K 3 j _ _ _
          refine args_of3 (la := la) (lb := lb) ?_ hla ?_ hlb j (by rw [List.length_append, lpad]; omega) (by rw [List.length_drop, List.length_append, lpad]; omega) ?_
          · rfl
          · rfl
          show spFLS K C CS CI CP (V.ref CS :: (((ls ++ pad).drop 0).take 7 ++ ((((ls ++ pad).drop 7).drop 0).take (4 + j) ++ []))) _ Q E
          rw [et]
          exact asked_end ((x1.trans xb).trans G3.ext) G3.tabs LO q1 q2

end
end K04
set_option Elab.async false
set_option linter.all false
set_option autoImplicit false
set_option maxRecDepth 100000
set_option maxHeartbeats 4000000
/-! Xu: try: .. except C1: .. except C2 as n2: .. -/
namespace Xu
open PySem PySem.Spec PyProof.Rows L2 Vb
/-- one clause: its class, its name's place if it has one, what its suite reads -/
structure Cl where
  cls : Value
  at_ : Option Nat
  ts : Addr → Value → Option Addr → TS
/-- what the clauses wish of what the body raised -/
def wCl (K : PySem.W.Frag) (out : WX) (D : Ends) : List Cl → WX
  | [] => out
  | c :: r => fun cls d σ H => ∃ b, PySem.W.exmOne K cls c.cls = some b ∧ (b = true → ∀ a, H a = none → match c.at_ with
      | some i => c.ts a cls d (Xt.gone i D) (σ.set i (some (.ref a))) H
      | none => c.ts a cls d D σ H) ∧ (b = false → wCl K out D r cls d σ H)
inductive Cls (X : Cx) : List ExceptHandler → List Cl → Prop
  | nil : Cls X [] []
  | cons {x n : Str} {c : Value} {i : Nat} {ts : Addr → Value → Option Addr → TS} {b₀ : Stmt} {suite : List Stmt} {p1 p2 : Pos} {hs : List ExceptHandler} {l : List Cl} (nc : Names X x c) (ni : X.N[i]? = some n) (ln : X.env.kindOf n = some .local)
      (su : ∀ (a : Addr) (oe : Obj) (cls : Value) (d : Option Addr) (pn : List (Addr × Obj)), Zc cls d oe → (∃ vs, oe.data = .fields vs) → PSs (X.suite a ((a, oe) :: pn)) (b₀ :: suite) (ts a cls d)) (r : Cls X hs l) :
      Cls X (.ExceptHandler (some (.Name x p1)) (some n) (b₀ :: suite) p2 :: hs) (⟨c, some i, ts⟩ :: l)
  | bare {x : Str} {c : Value} {ts : Addr → Value → Option Addr → TS} {b₀ : Stmt} {suite : List Stmt} {p1 p2 : Pos} {hs : List ExceptHandler} {l : List Cl} (nc : Names X x c)
      (su : ∀ (a : Addr) (oe : Obj) (cls : Value) (d : Option Addr) (pn : List (Addr × Obj)), Zc cls d oe → (∃ vs, oe.data = .fields vs) → PSs (X.suite a ((a, oe) :: pn)) (b₀ :: suite) (ts a cls d)) (r : Cls X hs l) :
      Cls X (.ExceptHandler (some (.Name x p1)) none (b₀ :: suite) p2 :: hs) (⟨c, none, ts⟩ :: l)
section
variable {X : Cx} {body : List Stmt} {h0 : ExceptHandler} {hds : List ExceptHandler} {l : List Cl} {pos : Pos} {tb : WX → TS} {out : WX}
theorem ps_tries (hs : X.stack = X.env :: X.outer) (hf : X.env.frame = some X.env.locals) (hN : X.N.Nodup) (tk : Takes X out)
    (hb : ∀ (W : WX) (pn : List (Addr × Obj)) (xe : Value → Shared → Prop), Takes (X.tr pn xe) W → PassesOwn (model X.prog X.w) X.A X.env xe → PSs (X.tr pn xe) body (tb W)) (cl : Cls X (h0 :: hds) l) :
    PS X (.Try body (h0 :: hds) [] [] pos) (fun D σ H => tb (wCl X.K out D l) D σ H) := by
  refine ⟨fun pins s σ H D I h => ?_⟩
  have ok := I.ok
  have frames : X.A.frames = some (X.env :: X.outer) := by rw [ok.frames, hs]
  let caught : Value → Shared → Prop := fun e s₁ => wpAny (model X.prog X.w) X.A (noteFrame e X.env)
    (fun _ s₂ => wpAny (model X.prog X.w) X.A (setFlight e none) (fun _ s₃ => wpAny (model X.prog X.w) X.A (handleBy e X.env (h0 :: hds)) (SP X pins D) X.xe s₃) X.xe s₂) X.xe s₁
  refine wpAny_Try_except (wpAny_mono ((hb (wCl X.K out D l) (X.pn ++ pins) caught (fun u s' xx => ?_) PassesOwn.looking).run [] s σ H D (I.toTry _) h) (fun f s1 hsp => ?_) (fun e s1 he => he))
  · obtain ⟨a, B, sI, pins', σ', H', cls, d, rfl, J', nb, up, sky, na, os, ag, w⟩ := xx
    have J : Inv X pins σ' H' sI := J'.ofTry ok
    have sky' : Sky B (X.env :: X.outer) a (Zc cls d) X.env.locals s'.heap := hs ▸ sky
    show wpAny (model X.prog X.w) X.A (noteFrame (.ref a) X.env) _ _ _
    refine Sky.land Zc.steady frames hf sky' fun h3 fl3 up3 => ?_
    have J3 : Inv X pins σ' H' { s' with heap := h3 } := J.landed nb fl3.1 (up.trans up3) os ag
    obtain ⟨oe3, vs3, he3, hz3, hd3⟩ := fl3.there
    have off : a ∉ frs (X.env :: X.outer) := fun hm => by
      obtain ⟨_, o', e', hnf⟩ := fl3.2.2.1.mem hm
      rw [he3] at e'
      cases e'
      exact hnf _ hd3
    have nL : a ≠ X.env.locals := fun z => off (List.mem_filterMap.mpr ⟨X.env, List.mem_cons_self, by rw [hf, z]⟩)
    have nF : a ∉ X.fs := fun hm => by
      obtain ⟨e, he, q⟩ := List.mem_filterMap.mp hm
      exact off (List.mem_filterMap.mpr ⟨e, List.mem_cons_of_mem _ he, q⟩)
    have S3 := J3.suite he3 hd3 na nL nF
    have go : ∀ {hds' : List ExceptHandler} {l' : List Cl}, Cls X hds' l' → wCl X.K out D l' cls d σ' H' → wpAny (model X.prog X.w) X.A (handleBy (.ref a) X.env hds') (SP X pins D) X.xe { s' with heap := h3 } := by
      intro hds' l' hk
      induction hk with
      | nil =>
        intro w
        obtain ⟨k1, k2, k3, oe, vs, T, oT, ts', he, hz, hd, h1, hr⟩ := id fl3
        refine wpAny_handleBy_nil ?_
        unfold PySem.passOn
        refine wpAny_bind (wpAny_field he hd h1 ?_)
        rw [if_neg (by simp : ¬ ((Value.ref T == Value.none) = true))]
        have fin : wpAny (model X.prog X.w) X.A (setFlight (.ref a) X.env.frame) (fun _ s4 => wpAny (model X.prog X.w) X.A (throw (.ref a) : Sem Flow) (SP X pins D) X.xe s4) X.xe { s' with heap := h3 } := by
          rw [hf]
          refine HandSPX.setFlight_upZ fl3 fun h4 hh4 up4 => wpAny_throw (tk _ _ ?_)
          exact ⟨a, B, sI, pins, σ', H', cls, d, rfl, J, nb, (up.trans up3).trans up4, .inr (.inr (hs.symm ▸ hh4)), na, os, ag, w⟩
        first
        | exact wpAny_bind (wpAny_pure (wpAny_bind fin))
        | exact wpAny_bind fin
      | @cons x n c i ts b₀ suite p1 p2 hds2 l2 nc ni ln su r ih =>
        intro w
        obtain ⟨b, hb1, yes, no⟩ := w
        refine wpAny_handleBy_cons (codeAny_handlers_test ?_) (by intro q; cases q)
        have tyA : PySem.W.Looks (model X.prog X.w) h3 (typeOf (.ref a)) cls := fun A Q E s k q => wpAny_typeOf_ref (k _ _ he3) (by rw [hz3.1]; exact q)
        have mt := PySem.W.exm_one (M := model X.prog X.w) J3.kIn tyA hb1
        have test : ∀ {Q : Value → Shared → Prop} {E : Value → Shared → Prop}, Q c { s' with heap := h3 } → wpAny (model X.prog X.w) (X.A.mark (some (.ref a))) (eval (.Name x p1) X.env) Q E { s' with heap := h3 } := fun {Q E} q => by
          obtain ⟨hg, hdbg, hm | ⟨hm, hv, hnn⟩⟩ := nc
          · exact ld_glob (X := X.suite a ((a, oe3) :: (X.pn ++ pins))) S3 hg hm q hdbg
          · exact ld_blt (X := X.suite a ((a, oe3) :: (X.pn ++ pins))) S3 hg hm hv q hnn hdbg
        refine test (mt.here ?_)
        cases b with
        | false =>
          show wpAny _ X.A (handleBy (.ref a) X.env hds2) _ _ _
          exact ih (no rfl)
        | true =>
          refine codeAny_handlers_suite_as (HandSPX.lands_againZ fl3 fun h4 fl4 up4 => ?_)
          have J4 : Inv X pins σ' H' { s' with heap := h4 } := J.landed nb fl4.1 ((up.trans up3).trans up4) os ag
          obtain ⟨oe4, vs4, he4, hz4, hd4⟩ := fl4.there
          have S4 := J4.suite he4 hd4 na nL nF
          refine store_ok (X := X.suite a ((a, oe4) :: (X.pn ++ pins))) (v := .ref a) S4 hN ni (.inl ln) rfl (fun s5 S5 => ?_) (.inr ln)
          refine wpAny_mono ((su a oe4 cls d (X.pn ++ pins) hz4 ⟨_, hd4⟩).run [] s5 _ H' _ S5 (yes rfl a na)) (fun f s6 hsp => ?_) (fun _ _ z => z.elim)
          have away : ∀ {σ6 : L2.St} {H6 : Hp} {Q : Shared → Prop}, Inv (X.suite a ((a, oe4) :: (X.pn ++ pins))) [] σ6 H6 s6 → (∀ s7, Inv X pins (σ6.set i none) H6 s7 → Q s7) →
              wpAny (model X.prog X.w) X.A (do bindName X.env n .none; unbindBehindTheSuite X.env n p2) (fun _ s7 => Q s7) X.xe s6 := fun {σ6 H6 Q} S6 hq => gone_ok (S6.unsuite ok) hN ni ln hq
          cases f with
          | ret u =>
            obtain ⟨v6, σ6, H6, S6, r6, q6⟩ := hsp
            exact away S6 fun s7 J7 => ⟨_, _, _, J7, r6, q6⟩
          | next =>
            obtain ⟨σ6, H6, S6, q6⟩ := hsp
            exact away S6 fun s7 J7 => ⟨_, _, J7, q6⟩
          | brk =>
            obtain ⟨σ6, H6, S6, q6⟩ := hsp
            exact away S6 fun s7 J7 => ⟨_, _, J7, q6⟩
          | cont =>
            obtain ⟨σ6, H6, S6, q6⟩ := hsp
            exact away S6 fun s7 J7 => ⟨_, _, J7, q6⟩
      | @bare x c ts b₀ suite p1 p2 hds2 l2 nc su r ih =>
        intro w
        obtain ⟨b, hb1, yes, no⟩ := w
        refine wpAny_handleBy_cons (codeAny_handlers_test ?_) (by intro q; cases q)
        have tyA : PySem.W.Looks (model X.prog X.w) h3 (typeOf (.ref a)) cls := fun A Q E s k q => wpAny_typeOf_ref (k _ _ he3) (by rw [hz3.1]; exact q)
        have mt := PySem.W.exm_one (M := model X.prog X.w) J3.kIn tyA hb1
        have test : ∀ {Q : Value → Shared → Prop} {E : Value → Shared → Prop}, Q c { s' with heap := h3 } → wpAny (model X.prog X.w) (X.A.mark (some (.ref a))) (eval (.Name x p1) X.env) Q E { s' with heap := h3 } := fun {Q E} q => by
          obtain ⟨hg, hdbg, hm | ⟨hm, hv, hnn⟩⟩ := nc
          · exact ld_glob (X := X.suite a ((a, oe3) :: (X.pn ++ pins))) S3 hg hm q hdbg
          · exact ld_blt (X := X.suite a ((a, oe3) :: (X.pn ++ pins))) S3 hg hm hv q hnn hdbg
        refine test (mt.here ?_)
        cases b with
        | false =>
          show wpAny _ X.A (handleBy (.ref a) X.env hds2) _ _ _
          exact ih (no rfl)
        | true =>
          refine codeAny_handlers_suite ?_
          refine HandSPX.lands_againZ fl3 fun h4 fl4 up4 => ?_
          have J4 : Inv X pins σ' H' { s' with heap := h4 } := J.landed nb fl4.1 ((up.trans up3).trans up4) os ag
          obtain ⟨oe4, vs4, he4, hz4, hd4⟩ := fl4.there
          have S4 := J4.suite he4 hd4 na nL nF
          refine wpAny_mono ((su a oe4 cls d (X.pn ++ pins) hz4 ⟨_, hd4⟩).run [] _ _ H' _ S4 (yes rfl a na)) (fun f s6 hsp => ?_) (fun _ _ z => False.elim z)
          cases f with
          | next =>
            obtain ⟨σ6, H6, S6, q6⟩ := hsp
            exact ⟨_, _, S6.unsuite ok, q6⟩
          | brk =>
            obtain ⟨σ6, H6, S6, q6⟩ := hsp
            exact ⟨_, _, S6.unsuite ok, q6⟩
          | cont =>
            obtain ⟨σ6, H6, S6, q6⟩ := hsp
            exact ⟨_, _, S6.unsuite ok, q6⟩
          | ret u =>
            obtain ⟨v6, σ6, H6, S6, r6, q6⟩ := hsp
            exact ⟨_, _, _, S6.unsuite ok, r6, q6⟩
    exact go cl w
  · cases f with
    | ret u =>
      obtain ⟨v, σ', H', J', r, q⟩ := hsp
      exact ⟨v, σ', H', J'.ofTry ok, r, q⟩
    | next =>
      obtain ⟨σ', H', J', q⟩ := hsp
      exact wpAny_execs_nil ⟨σ', H', J'.ofTry ok, q⟩
    | brk =>
      obtain ⟨σ', H', J', q⟩ := hsp
      exact ⟨σ', H', J'.ofTry ok, q⟩
    | cont =>
      obtain ⟨σ', H', J', q⟩ := hsp
      exact ⟨σ', H', J'.ofTry ok, q⟩
end
end Xu
set_option Elab.async false
set_option linter.all false
set_option autoImplicit false
set_option maxRecDepth 100000
set_option maxHeartbeats 8000000
namespace K04
open PySem PySem.Spec PyProof.Rows L2 Vb Wd Xd Xe Xi Xm Xr Xl Xu Xg Rd LamX Ts K01 Yl
abbrev s_l_told : Stmt := topS 48
theorem sc_l_told : FnScope ["_law_lines", "e"] ["_law_lines"] (defScope s_l_told) := ⟨rfl, rfl, rfl, by decide +kernel, rfl, by decide +kernel, by decide +kernel⟩
/-- what of the two classes the clauses ask -/
structure ToldT (K : PySem.W.Frag) (CI CP : Addr) : Prop where
  xP : XfC K CP
  nP : PySem.W.findIn K (.ref CP) "number" = some none
  ePP : PySem.W.exmOne K (.ref CP) (.ref CP) = some true
  eIP : PySem.W.exmOne K (.ref CI) (.ref CP) = some false
  eII : PySem.W.exmOne K (.ref CI) (.ref CI) = some true
def ETold (CI CP : Addr) (Q : VK) : XK := fun cls d H' => (cls = .ref CI ∧ Q (.str "scheme") H') ∨
    (cls = .ref CP ∧ ∃ (dd : Addr) (i : Nat), d = some dd ∧ H' dd = some (.xd [("number", .int i)]) ∧ i < 64 ∧ Q (.str ("parse " ++ (PyData.int i).shown)) H')
theorem takes_len {X : Cx} {W : WX} (t : Takes X W) : Takes X (fun cls d σ H => σ.length = X.N.length → W cls d σ H) := fun u s' ⟨a, B, sI, pins, σ, H, cls, d, e, I, nb, up, sky, na, os, ag, w⟩ =>
  t u s' ⟨a, B, sI, pins, σ, H, cls, d, e, I, nb, up, sky, na, os, ag, w I.len⟩
def spTold (T : List (Addr × Str)) (C CS : Addr) : Sp := fun vs H Q _ => ∃ (l : Addr) (ls : List V) (L : List Str), vs = [.ref l] ∧ H l = some (.lst ls) ∧ ls.length ≤ 14 ∧ LinesOk H L ls ∧ Tabs T H ∧
  (∀ i g, i < ls.length → readTo ls i = some g → readTo ls (i + 1) = none → ∀ H', ExtN H H' → Tabs T H' → Q (.str ("parse " ++ (PyData.int (i : Nat)).shown)) H') ∧
  ∀ g, readTo ls ls.length = some g → (∀ b ys, g.1 = some b → g.2.1 = some ys → schB (.str b) (some ys) g.2.2 = true → ∀ a H' ds', ExtN H H' → Tabs T H' → SchemeAt H' C CS a b ys ds' → ds'.Perm g.2.2 → Q (.ref a) H') ∧
    (schG g = false → ∀ H', ExtN H H' → Tabs T H' → Q (.str "scheme") H')
section
variable {P : Program} {w : World} {K : PySem.W.Frag} {mg : Str → Option Value} {base : Heap} {C CS CI CP : Addr}
theorem ok_l_told {T : List (Addr × Str)} {fA : Addr} {fdA : FuncData} (D : Df K mg "_law_told" s_l_told ["_law_lines"]) (TT : ToldT K CI CP) (gI : mg "InvalidScheme" = some (.ref CI)) (gP : mg "ParseError" = some (.ref CP))
    (FA : FnE P w K mg base 11 fA fdA ["_law_lines"] (spAsked T C CS CI CP)) (mA : mg "_law_asked" = some (.ref fA)) (kA : PySem.W.keepIn K (.ref fA) = true) (bA : Binds K fdA ["_law_lines"] []) (z_repr : mg "repr" = none) :
    Cg P w K mg base 12 "_law_told" (spTold T C CS) := by
  refine D.ok sc_l_told (fun vs H Q E h => ?_) (fun cdv A outer s H vs Q E f0 hc hr h => ?_)
  · obtain ⟨l, ls, L, rfl, _⟩ := h
    rfl
  · obtain ⟨l, ls, L, rfl, hl, l14, LO, ht, q1, q2⟩ := h
    have rp : ∀ (a : Addr) (pn : List (Addr × Obj)), CallR ((cxOf CX0 P w K mg base ["_law_lines", "e"] "_law_told" (defScope s_l_told) f0 cdv A outer s H E).nox.suite a pn) (.builtin "repr") (rReprD K) := fun a pn =>
      cr_reprD (X := (cxOf CX0 P w K mg base ["_law_lines", "e"] "_law_told" (defScope s_l_told) f0 cdv A outer s H E).nox.suite a pn) hc hr.units
    refine ⟨_, pss_one (ps_tries (X := (cxOf CX0 P w K mg base ["_law_lines", "e"] "_law_told" (defScope s_l_told) f0 cdv A outer s H E).nox)
      (tb := fun W D σ H' => ∃ Ech : XK, (∀ cls d (σ' : L2.St) H', Ech cls d H' → σ'.length = 2 → W cls d σ' H') ∧ σ[0]? = some (some (.ref l)) ∧ spAsked T C CS CI CP [.ref l] H' D.rt Ech) (by rfl) (by rfl) sc_l_told.nd LamX.takes0 (fun W pn xe tk _ => ⟨fun pins s' σ H' D I h' => ?_⟩)
      (.cons (i := 1) ⟨by rfl, by decide, .inl gP⟩ rfl rfl (fun a oe cls d pn hz hf => pss_one (ps_ret (pe_op op_add_str pe_str (pe_callB (rp a _) (by rfl) z_repr (by decide +kernel) (pa_cons (pe_xf (n := "number") TT.xP TT.nP hz hf (pv 1)) pa_nil)))))
      (.bare ⟨by rfl, by decide, .inl gI⟩ (fun a oe cls d pn hz hf => pss_one (ps_ret pe_str))
      .nil))), ?_⟩
    · obtain ⟨Ech, hW, h1, h2⟩ := h'
      exact (pss_one (ps_ret (pe_callE (sp := spAsked T C CS CI CP) (E := Ech) FA hc hr (by rfl) mA kA bA (takes_len tk) hW (pa_cons (pv 0) pa_nil)))).run pins s' σ H' D I ⟨_, h1, h2⟩
    · have sized : ∀ {σ' : L2.St} {a : Addr}, σ'.length = 2 → (σ'.set 1 (some (V.ref a)))[1]? = some (some (.ref a)) := fun {σ' a} e => by
        rw [List.getElem?_set_self (by omega)]
      have lp : ("parse " : Str).length = 6 := by decide +kernel
      refine ⟨ETold CI CP Q, fun cls d σ' H' hE e2 => ?_, rfl, l, ls, L, rfl, hl, l14, LO, ht, fun i g hi hg hn H' d x t hd => .inr ⟨rfl, d, i, rfl, hd, by omega, q1 i g hi hg hn H' x t⟩, fun g hg => ?_⟩
      · rcases hE with ⟨rfl, q⟩ | ⟨rfl, dd, i, rfl, hd, hi, q⟩
        · exact ⟨false, TT.eIP, (fun e => nomatch e), fun _ => ⟨true, TT.eII, fun _ a na => q, fun e => nomatch e⟩⟩
        · obtain ⟨t1, t2, t3, t4⟩ := small_int i hi
          refine ⟨true, TT.ePP, fun _ a na => ?_, fun e => nomatch e⟩
          exact ⟨_, sized e2, rfl, rfl, dd, _, .int i, rfl, hd, by rfl, .int i, .int i, rfl, .int _, t1, t2, t3, fits_million (by omega), _, _, rfl, rfl, fits_million (by rw [lp]; omega), q⟩
      · obtain ⟨r1, r2⟩ := q2 g hg
        exact ⟨r1, fun e H' x t => .inl ⟨rfl, r2 e H' x t⟩⟩
end
end K04
set_option Elab.async false
set_option linter.all false
set_option autoImplicit false
set_option maxRecDepth 100000
set_option maxHeartbeats 4000000
/-! Oq: == and != of lists and tuples of objects, and `in` a tuple of them, whatever each == answers, in calm room. -/
namespace Oq
open PySem PySem.SeqAt
open AutoSeq1 (wpAny_loadPart')
open MeetsSeq MeetsSeq2 MeetsSeq3 SeqRoads2
open GQ (FinOf call_here eqBool_refG)
section
variable {prog : Program} {w : World} {A : Around} {R : Result → Shared → Prop}
theorem arr_get {α : Type} (z : Array α) (i : Nat) (h : i < z.size) : z[((i : Nat) : Int).toNat]? = some z[i] := by simp [h]
/-- at each turn the two lists are read anew -/
def ListJ (prog : Program) (w : World) (A : Around) (E : Value → Shared → Prop) (l b : Addr) (N M : Nat) (e : Nat → Bool) (I : Shared → Prop) : Prop :=
  ∀ s, I s → ∃ (items items2 : Array Value) (n n2 : Nat), s.heap.get? l = some { cls := .type "list", data := .seq items n } ∧ s.heap.get? b = some { cls := .type "list", data := .seq items2 n2 } ∧ items.size = N ∧ items2.size = M ∧
    ∀ (i : Nat) (h1 : i < items.size) (h2 : i < items2.size), wpAny (model prog w) A.in1 (eqBool items[i] items2[i]) (fun r s' => r = e i ∧ I s') E s
theorem eq_loopJ (l b : Addr) (N : Nat) (e : Nat → Bool) (v : Bool) (I : Shared → Prop) (hl : ListJ prog w A (fun e s' => R (.error e) s') l b N N e I)
    (fin : ∀ s, I s → R (.ok (.ret (.bool v))) s) (k : Nat) :
    ∀ i : Nat, N - i = k → i ≤ N → (((List.range N).drop i).all e) = v → ∀ s, I s →
      wpAny (model prog w) A.in1 (Builtin.«list.__eq__.loop» ⟨[.ref l, .ref b, rawInt i, rawInt 2], []⟩) (FinOf prog w A R) (fun e s' => R (.error e) s') s := by
  induction k with
  | zero =>
    intro i hk hi hv s h
    obtain ⟨items, items2, n, n2, hl1, hb1, hs1, hs2, _⟩ := hl _ h
    have hi' : i = N := by omega
    have hR : R (.ok (.ret (.bool v))) s := fin s h
    have hd : (List.range N).drop i = [] := by simp; omega
    rw [hd] at hv
    obtain ⟨hp, g, d, tk, os⟩ := s
    wp_walk using wpAny_loadPart' hl1, wpAny_loadPart' hb1
    have hi1 : items[((i : Nat) : Int).toNat]? = none := by simp; omega
    have hi2 : items2[((i : Nat) : Int).toNat]? = none := by simp; omega
    rw [hi1, hi2]
    wp_walk using wpAny_loadPart' hl1, wpAny_loadPart' hb1
    show R (.ok (.ret (.bool (items.size == items2.size)))) _
    rw [hs1, hs2]
    subst hv
    simpa using hR
  | succ k ih =>
    intro i hk hi hv s h
    obtain ⟨items, items2, n, n2, hl1, hb1, hs1, hs2, turn⟩ := hl _ h
    have hlt : i < items.size := by omega
    have hlt2 : i < items2.size := by omega
    have ht := turn i hlt hlt2
    have hN : i < N := by omega
    have hd : (List.range N).drop i = i :: (List.range N).drop (i + 1) := by simp [List.drop_eq_getElem_cons, hN]
    rw [hd, List.all_cons] at hv
    obtain ⟨hp, g, d, tk, os⟩ := s
    wp_walk using wpAny_loadPart' hl1, wpAny_loadPart' hb1
    have hi1 : items[((i : Nat) : Int).toNat]? = some items[i] := by simp [hlt]
    have hi2 : items2[((i : Nat) : Int).toNat]? = some items2[i] := by simp [hlt2]
    have hc : ((i : Int) + 1) = ((i + 1 : Nat) : Int) := by omega
    rw [hi1, hi2]
    refine wpAny_bind (wpAny_mono ht (fun r s2 h2 => ?_) fun _ _ x => x)
    obtain ⟨hr, h2⟩ := h2
    subst hr
    cases he : e i with
    | true =>
      rw [he, Bool.true_and] at hv
      have hrec := ih (i + 1) (by omega) (by omega) hv s2 h2
      obtain ⟨hp2, g2, d2, tk2, os2⟩ := s2
      wp_walk
      rw [hc]
      exact ⟨plainId_quiet plain_eq_loop _, codeAny_builtin entry_eq_loop (by
        rw [Around.under_plainId plain_eq_loop _]
        exact hrec)⟩
    | false =>
      rw [he, Bool.false_and] at hv
      obtain ⟨items3, items4, n3, n4, hl3, hb3, hs3, hs4, _⟩ := hl _ h2
      have hR : R (.ok (.ret (.bool v))) s2 := fin s2 h2
      obtain ⟨hp2, g2, d2, tk2, os2⟩ := s2
      wp_walk using wpAny_loadPart' hl3, wpAny_loadPart' hb3
      have hi3 : items3[((i : Nat) : Int).toNat]? = some (items3[i]'(by omega)) := arr_get items3 i (by omega)
      have hi4 : items4[((i : Nat) : Int).toNat]? = some (items4[i]'(by omega)) := arr_get items4 i (by omega)
      rw [hi3, hi4]
      wp_walk
      subst hv
      exact hR
theorem list_eqJ (l b : Addr) (N M : Nat) (e : Nat → Bool) (v : Bool) (I : Shared → Prop) (hl : ListJ prog w A (fun e s' => R (.error e) s') l b N M e I)
    (hv : ((decide (N = M) && (List.range N).all e)) = v) (fin : ∀ s, I s → R (.ok (.ret (.bool v))) s) {s : Shared} (h : I s) :
    wpAny (model prog w) A.in1 (Builtin.«list.__eq__» ⟨[.ref l, .ref b], []⟩) (FinOf prog w A R) (fun e s' => R (.error e) s') s := by
  obtain ⟨items, items2, n, n2, hl1, hb1, hs1, hs2, _⟩ := hl _ h
  have f3 := AutoSeq1.sub_list_list
  have hR := fin _ h
  by_cases hNM : N = M
  · subst hNM
    rw [decide_eq_true rfl, Bool.true_and] at hv
    have hrec := eq_loopJ (A := A) (R := R) l b N e v I hl fin _ 0 rfl (Nat.zero_le _) (by simpa using hv) s h
    obtain ⟨hp, g, d, tk, os⟩ := s
    have hne : ¬ (items.size != items2.size) = true := by simp [hs1, hs2]
    wp_walk using wpAny_loadPart' hl1, wpAny_loadPart' hb1
    exact ⟨plainId_quiet plain_eq_loop _, codeAny_builtin entry_eq_loop (by
      rw [Around.under_plainId plain_eq_loop _]
      exact hrec)⟩
  · rw [decide_eq_false hNM, Bool.false_and] at hv
    subst hv
    obtain ⟨hp, g, d, tk, os⟩ := s
    have hne : (items.size != items2.size) = true := by simp [hs1, hs2, hNM]
    wp_walk using wpAny_loadPart' hl1, wpAny_loadPart' hb1
    exact hR
theorem tuple_eqJ (l b : Addr) (items items2 : Array Value) (n n2 : Nat) (dd dd2 : Option Addr) (sl sl2 : Array (Option Value)) (e : Nat → Bool) (v : Bool) (I : Shared → Prop)
    (turn : ∀ i (h1 : i < items.size) (h2 : i < items2.size) s, I s → wpAny (model prog w) A.in1 (eqBool items[i] items2[i]) (fun r s' => r = e i ∧ I s') (fun e s' => R (.error e) s') s)
    (hv : ((decide (items.size = items2.size) && (List.range items.size).all e)) = v) (fin : ∀ s, I s → R (.ok (.ret (.bool v))) s) {s : Shared} (hl1 : s.heap.get? l = some { cls := .type "tuple", dict := dd, data := .seq items n, slots := sl }) (hb1 : s.heap.get? b = some { cls := .type "tuple", dict := dd2, data := .seq items2 n2, slots := sl2 }) (h : I s) :
    wpAny (model prog w) A.in1 (Builtin.«tuple.__eq__» ⟨[.ref l, .ref b], []⟩) (FinOf prog w A R) (fun e s' => R (.error e) s') s := by
  have f2 := AutoSeq1.sub_tuple_tuple
  have hZ : (items.toList.zip items2.toList).length = min items.size items2.size := by simp
  have h0 := h
  obtain ⟨hp, g, d, tk, os⟩ := s
  wp_walk using wpAny_loadPart' hl1, wpAny_loadPart' hb1, wpAny_forIn_list _ (fun rest b s' => b.1 = none ∧ I s' ∧ ∃ i, rest = (items.toList.zip items2.toList).drop i ∧ i ≤ min items.size items2.size ∧ ∀ j, j < i → e j = true) _
  case turn =>
    rintro ⟨y, x⟩ rest b s' ⟨hb', hI, i, hz, hi, hall⟩
    have hlt : i < (items.toList.zip items2.toList).length := by
      rcases Nat.lt_or_ge i (items.toList.zip items2.toList).length with h' | h'
      · exact h'
      · rw [List.drop_of_length_le h'] at hz; cases hz
    have hm : i < min items.size items2.size := hZ ▸ hlt
    have h1 : i < items.size := Nat.lt_of_lt_of_le hm (Nat.min_le_left _ _)
    have h2 : i < items2.size := Nat.lt_of_lt_of_le hm (Nat.min_le_right _ _)
    rw [List.drop_eq_getElem_cons hlt] at hz
    injection hz with hyx hrest
    have hy : y = items[i] := by have := congrArg Prod.fst hyx; simpa using this
    have hx : x = items2[i] := by have := congrArg Prod.snd hyx; simpa using this
    subst hy hx
    refine wpAny_bind (wpAny_mono (turn i h1 h2 s' hI) (fun r s2 q2 => ?_) fun _ _ x => x)
    obtain ⟨hr, q2⟩ := q2
    subst hr
    cases hy : e i with
    | true =>
      wp_walk
      refine ⟨rfl, q2, i + 1, hrest, hm, fun j hj => ?_⟩
      by_cases hji : j = i
      · rw [hji]; exact hy
      · exact hall j (by omega)
    | false =>
      have hR : R (.ok (.ret (.bool v))) s2 := fin s2 q2
      have hf : (List.range items.size).all e = false := by
        cases hq : (List.range items.size).all e with
        | false => rfl
        | true => rw [List.all_eq_true.mp hq i (List.mem_range.mpr h1)] at hy; cases hy
      rw [hf, Bool.and_false] at hv
      subst hv
      wp_walk
      exact hR
  case fin =>
    rintro ⟨b1, b2⟩ s' ⟨hb', hI, i, hz, hi, hall⟩
    simp only at hb'
    subst hb'
    have hge : min items.size items2.size ≤ i := by
      rcases Nat.lt_or_ge i (items.toList.zip items2.toList).length with h' | h'
      · rw [List.drop_eq_getElem_cons h'] at hz; cases hz
      · exact hZ ▸ h'
    have hR : R (.ok (.ret (.bool v))) s' := fin s' hI
    have hsz : ((decide (items.size = items2.size))) = v := by
      rw [← hv]
      by_cases hs : items.size = items2.size
      · have : (List.range items.size).all e = true := List.all_eq_true.mpr fun j hj => hall j (by have := List.mem_range.mp hj; omega)
        rw [this, Bool.and_true]
      · rw [decide_eq_false hs, Bool.false_and]
    wp_walk
    have hz2 : (items.size == items2.size) = v := by
      rw [← hsz]
      by_cases hs : items.size = items2.size <;> simp [hs]
    subst hz2
    simpa [Builtin.Tuple.tupleCompareSizes] using hR
  case h =>
    exact ⟨rfl, h0, 0, rfl, Nat.zero_le _, fun j hj => absurd hj (Nat.not_lt_zero _)⟩
theorem ne_loopJ (l b : Addr) (N : Nat) (e : Nat → Bool) (v : Bool) (I : Shared → Prop) (hl : ListJ prog w A (fun e s' => R (.error e) s') l b N N e I)
    (fin : ∀ s, I s → R (.ok (.ret (.bool v))) s) (k : Nat) :
    ∀ i : Nat, N - i = k → i ≤ N → (!((List.range N).drop i).all e) = v → ∀ s, I s →
      wpAny (model prog w) A.in1 (Builtin.«list.__eq__.loop» ⟨[.ref l, .ref b, rawInt i, rawInt 3], []⟩) (FinOf prog w A R) (fun e s' => R (.error e) s') s := by
  induction k with
  | zero =>
    intro i hk hi hv s h
    obtain ⟨items, items2, n, n2, hl1, hb1, hs1, hs2, _⟩ := hl _ h
    have hi' : i = N := by omega
    have hR : R (.ok (.ret (.bool v))) s := fin s h
    have hd : (List.range N).drop i = [] := by simp; omega
    rw [hd] at hv
    obtain ⟨hp, g, d, tk, os⟩ := s
    wp_walk using wpAny_loadPart' hl1, wpAny_loadPart' hb1
    have hi1 : items[((i : Nat) : Int).toNat]? = none := by simp; omega
    have hi2 : items2[((i : Nat) : Int).toNat]? = none := by simp; omega
    rw [hi1, hi2]
    wp_walk using wpAny_loadPart' hl1, wpAny_loadPart' hb1
    show R (.ok (.ret (.bool (items.size != items2.size)))) _
    rw [hs1, hs2]
    subst hv
    simpa using hR
  | succ k ih =>
    intro i hk hi hv s h
    obtain ⟨items, items2, n, n2, hl1, hb1, hs1, hs2, turn⟩ := hl _ h
    have hlt : i < items.size := by omega
    have hlt2 : i < items2.size := by omega
    have ht := turn i hlt hlt2
    have hN : i < N := by omega
    have hd : (List.range N).drop i = i :: (List.range N).drop (i + 1) := by simp [List.drop_eq_getElem_cons, hN]
    rw [hd, List.all_cons] at hv
    obtain ⟨hp, g, d, tk, os⟩ := s
    wp_walk using wpAny_loadPart' hl1, wpAny_loadPart' hb1
    have hi1 : items[((i : Nat) : Int).toNat]? = some items[i] := by simp [hlt]
    have hi2 : items2[((i : Nat) : Int).toNat]? = some items2[i] := by simp [hlt2]
    have hc : ((i : Int) + 1) = ((i + 1 : Nat) : Int) := by omega
    rw [hi1, hi2]
    refine wpAny_bind (wpAny_mono ht (fun r s2 h2 => ?_) fun _ _ x => x)
    obtain ⟨hr, h2⟩ := h2
    subst hr
    cases he : e i with
    | true =>
      rw [he, Bool.true_and] at hv
      have hrec := ih (i + 1) (by omega) (by omega) hv s2 h2
      obtain ⟨hp2, g2, d2, tk2, os2⟩ := s2
      wp_walk
      rw [hc]
      exact ⟨plainId_quiet plain_eq_loop _, codeAny_builtin entry_eq_loop (by
        rw [Around.under_plainId plain_eq_loop _]
        exact hrec)⟩
    | false =>
      rw [he, Bool.false_and] at hv
      obtain ⟨items3, items4, n3, n4, hl3, hb3, hs3, hs4, _⟩ := hl _ h2
      have hR : R (.ok (.ret (.bool v))) s2 := fin s2 h2
      obtain ⟨hp2, g2, d2, tk2, os2⟩ := s2
      wp_walk using wpAny_loadPart' hl3, wpAny_loadPart' hb3
      have hi3 : items3[((i : Nat) : Int).toNat]? = some (items3[i]'(by omega)) := arr_get items3 i (by omega)
      have hi4 : items4[((i : Nat) : Int).toNat]? = some (items4[i]'(by omega)) := arr_get items4 i (by omega)
      rw [hi3, hi4]
      wp_walk
      subst hv
      exact hR
theorem list_neJ (l b : Addr) (N M : Nat) (e : Nat → Bool) (v : Bool) (I : Shared → Prop) (hl : ListJ prog w A (fun e s' => R (.error e) s') l b N M e I)
    (hv : (!(decide (N = M) && (List.range N).all e)) = v) (fin : ∀ s, I s → R (.ok (.ret (.bool v))) s) {s : Shared} (h : I s) :
    wpAny (model prog w) A.in1 (Builtin.«list.__ne__» ⟨[.ref l, .ref b], []⟩) (FinOf prog w A R) (fun e s' => R (.error e) s') s := by
  obtain ⟨items, items2, n, n2, hl1, hb1, hs1, hs2, _⟩ := hl _ h
  have f3 := AutoSeq1.sub_list_list
  have hR := fin _ h
  by_cases hNM : N = M
  · subst hNM
    rw [decide_eq_true rfl, Bool.true_and] at hv
    have hrec := ne_loopJ (A := A) (R := R) l b N e v I hl fin _ 0 rfl (Nat.zero_le _) (by simpa using hv) s h
    obtain ⟨hp, g, d, tk, os⟩ := s
    have hne : ¬ (items.size != items2.size) = true := by simp [hs1, hs2]
    wp_walk using wpAny_loadPart' hl1, wpAny_loadPart' hb1
    exact ⟨plainId_quiet plain_eq_loop _, codeAny_builtin entry_eq_loop (by
      rw [Around.under_plainId plain_eq_loop _]
      exact hrec)⟩
  · rw [decide_eq_false hNM, Bool.false_and] at hv
    subst hv
    obtain ⟨hp, g, d, tk, os⟩ := s
    have hne : (items.size != items2.size) = true := by simp [hs1, hs2, hNM]
    wp_walk using wpAny_loadPart' hl1, wpAny_loadPart' hb1
    exact hR
theorem tuple_neJ (l b : Addr) (items items2 : Array Value) (n n2 : Nat) (dd dd2 : Option Addr) (sl sl2 : Array (Option Value)) (e : Nat → Bool) (v : Bool) (I : Shared → Prop)
    (turn : ∀ i (h1 : i < items.size) (h2 : i < items2.size) s, I s → wpAny (model prog w) A.in1 (eqBool items[i] items2[i]) (fun r s' => r = e i ∧ I s') (fun e s' => R (.error e) s') s)
    (hv : (!(decide (items.size = items2.size) && (List.range items.size).all e)) = v) (fin : ∀ s, I s → R (.ok (.ret (.bool v))) s) {s : Shared} (hl1 : s.heap.get? l = some { cls := .type "tuple", dict := dd, data := .seq items n, slots := sl }) (hb1 : s.heap.get? b = some { cls := .type "tuple", dict := dd2, data := .seq items2 n2, slots := sl2 }) (h : I s) :
    wpAny (model prog w) A.in1 (Builtin.«tuple.__ne__» ⟨[.ref l, .ref b], []⟩) (FinOf prog w A R) (fun e s' => R (.error e) s') s := by
  have f2 := AutoSeq1.sub_tuple_tuple
  have hZ : (items.toList.zip items2.toList).length = min items.size items2.size := by simp
  have h0 := h
  obtain ⟨hp, g, d, tk, os⟩ := s
  wp_walk using wpAny_loadPart' hl1, wpAny_loadPart' hb1, wpAny_forIn_list _ (fun rest b s' => b.1 = none ∧ I s' ∧ ∃ i, rest = (items.toList.zip items2.toList).drop i ∧ i ≤ min items.size items2.size ∧ ∀ j, j < i → e j = true) _
  case turn =>
    rintro ⟨y, x⟩ rest b s' ⟨hb', hI, i, hz, hi, hall⟩
    have hlt : i < (items.toList.zip items2.toList).length := by
      rcases Nat.lt_or_ge i (items.toList.zip items2.toList).length with h' | h'
      · exact h'
      · rw [List.drop_of_length_le h'] at hz; cases hz
    have hm : i < min items.size items2.size := hZ ▸ hlt
    have h1 : i < items.size := Nat.lt_of_lt_of_le hm (Nat.min_le_left _ _)
    have h2 : i < items2.size := Nat.lt_of_lt_of_le hm (Nat.min_le_right _ _)
    rw [List.drop_eq_getElem_cons hlt] at hz
    injection hz with hyx hrest
    have hy : y = items[i] := by have := congrArg Prod.fst hyx; simpa using this
    have hx : x = items2[i] := by have := congrArg Prod.snd hyx; simpa using this
    subst hy hx
    refine wpAny_bind (wpAny_mono (turn i h1 h2 s' hI) (fun r s2 q2 => ?_) fun _ _ x => x)
    obtain ⟨hr, q2⟩ := q2
    subst hr
    cases hy : e i with
    | true =>
      wp_walk
      refine ⟨rfl, q2, i + 1, hrest, hm, fun j hj => ?_⟩
      by_cases hji : j = i
      · rw [hji]; exact hy
      · exact hall j (by omega)
    | false =>
      have hR : R (.ok (.ret (.bool v))) s2 := fin s2 q2
      have hf : (List.range items.size).all e = false := by
        cases hq : (List.range items.size).all e with
        | false => rfl
        | true => rw [List.all_eq_true.mp hq i (List.mem_range.mpr h1)] at hy; cases hy
      rw [hf, Bool.and_false] at hv
      subst hv
      wp_walk
      exact hR
  case fin =>
    rintro ⟨b1, b2⟩ s' ⟨hb', hI, i, hz, hi, hall⟩
    simp only at hb'
    subst hb'
    have hge : min items.size items2.size ≤ i := by
      rcases Nat.lt_or_ge i (items.toList.zip items2.toList).length with h' | h'
      · rw [List.drop_eq_getElem_cons h'] at hz; cases hz
      · exact hZ ▸ h'
    have hR : R (.ok (.ret (.bool v))) s' := fin s' hI
    have hsz : (!(decide (items.size = items2.size))) = v := by
      rw [← hv]
      by_cases hs : items.size = items2.size
      · have : (List.range items.size).all e = true := List.all_eq_true.mpr fun j hj => hall j (by have := List.mem_range.mp hj; omega)
        rw [this, Bool.and_true]
      · rw [decide_eq_false hs, Bool.false_and]
    wp_walk
    have hz2 : (items.size != items2.size) = v := by
      rw [← hsz]
      by_cases hs : items.size = items2.size <;> simp [hs]
    subst hz2
    simpa [Builtin.Tuple.tupleCompareSizes] using hR
  case h =>
    exact ⟨rfl, h0, 0, rfl, Nat.zero_le _, fun j hj => absurd hj (Nat.not_lt_zero _)⟩
theorem tuple_inJ (l : Addr) (x : Value) (items : Array Value) (n : Nat) (dd : Option Addr) (sl : Array (Option Value)) (e : Nat → Bool) (v : Bool) (I : Shared → Prop)
    (turn : ∀ i (h1 : i < items.size) s, I s → wpAny (model prog w) A.in1 (eqBool items[i] x) (fun r s' => r = e i ∧ I s') (fun e s' => R (.error e) s') s)
    (hv : (List.range items.size).any e = v) (fin : ∀ s, I s → R (.ok (.ret (.bool v))) s) {s : Shared} (hl1 : s.heap.get? l = some { cls := .type "tuple", dict := dd, data := .seq items n, slots := sl }) (h : I s) :
    wpAny (model prog w) A.in1 (Builtin.«tuple.__contains__» ⟨[.ref l, x], []⟩) (FinOf prog w A R) (fun e s' => R (.error e) s') s := by
  have h0 := h
  obtain ⟨hp, g, d, tk, os⟩ := s
  wp_walk using wpAny_loadPart' hl1, wpAny_forIn_array _ (fun rest b s' => b.1 = none ∧ I s' ∧ ∃ i, rest = items.toList.drop i ∧ i ≤ items.size ∧ ∀ j, j < i → e j = false) _
  case turn =>
    rintro y rest b s' ⟨hb', hI, i, hz, hi, hall⟩
    have hlt : i < items.toList.length := by
      rcases Nat.lt_or_ge i items.toList.length with h' | h'
      · exact h'
      · rw [List.drop_of_length_le h'] at hz; cases hz
    have h1 : i < items.size := by simpa using hlt
    rw [List.drop_eq_getElem_cons hlt] at hz
    injection hz with hyx hrest
    have hy : y = items[i] := by simpa using hyx
    subst hy
    refine wpAny_bind (wpAny_mono (turn i h1 s' hI) (fun r s2 q2 => ?_) fun _ _ x => x)
    obtain ⟨hr, q2⟩ := q2
    subst hr
    cases hy : e i with
    | false =>
      wp_walk
      refine ⟨rfl, q2, i + 1, hrest, h1, fun j hj => ?_⟩
      by_cases hji : j = i
      · rw [hji]; exact hy
      · exact hall j (by omega)
    | true =>
      have hR : R (.ok (.ret (.bool v))) s2 := fin s2 q2
      have hf : (List.range items.size).any e = true := List.any_eq_true.mpr ⟨i, List.mem_range.mpr h1, hy⟩
      rw [hf] at hv
      subst hv
      wp_walk
      exact hR
  case fin =>
    rintro ⟨b1, b2⟩ s' ⟨hb', hI, i, hz, hi, hall⟩
    simp only at hb'
    subst hb'
    have hge : items.size ≤ i := by
      rcases Nat.lt_or_ge i items.toList.length with h' | h'
      · rw [List.drop_eq_getElem_cons h'] at hz; cases hz
      · simpa using h'
    have hR : R (.ok (.ret (.bool v))) s' := fin s' hI
    have hf : (List.range items.size).any e = false := by
      rw [List.any_eq_false]
      intro j hj
      rw [hall j (by have := List.mem_range.mp hj; omega)]
      exact Bool.false_ne_true
    rw [hf] at hv
    subst hv
    wp_walk
    exact hR
  case h =>
    exact ⟨rfl, h0, 0, rfl, Nat.zero_le _, fun j hj => absurd hj (Nat.not_lt_zero _)⟩
end
section
variable {prog : Program} {w : World} {A : Around} {E : Value → Shared → Prop} {s : Shared}
theorem rc_list_eqJ {l b : Addr} {N M : Nat} {e : Nat → Bool} {v : Bool} {Q : Value → Shared → Prop} (hu : A.units < cLine) (I : Shared → Prop) (hl : ListJ prog w A E l b N M e I) (hv : ((decide (N = M) && (List.range N).all e)) = v)
    (fin : ∀ s, I s → Q (.bool v) s) (h : I s) : wpAny (model prog w) A (richCompare .Eq (.ref l) (.ref b)) Q E s := by
  obtain ⟨items, items2, n, n2, hl1, hb1, _, _, _⟩ := hl _ h
  refine wpAny_richCompare_same_room (op := .Eq) ⟨_, hl1, rfl⟩ ⟨_, hb1, rfl⟩ F.slot_list_eq (call_here F.slot_list_eq ⟨_, hl1, rfl⟩ F.entry_list_eq (F.args_list_eq_2 _ _) ?_) hu
  exact list_eqJ (R := wants (fun v s' => v ≠ .notImplemented ∧ Q v s') E) l b N M e v I hl hv (fun s' q => ⟨(fun x => nomatch x), fin s' q⟩) h
theorem rc_tup_eqJ {l b : Addr} {items items2 : Array Value} {e : Nat → Bool} {v : Bool} {Q : Value → Shared → Prop} (hu : A.units < cLine) (I : Shared → Prop) (hl : s.heap.IsTuple l items) (hb : s.heap.IsTuple b items2)
    (turn : ∀ i (h1 : i < items.size) (h2 : i < items2.size) s, I s → wpAny (model prog w) A.in1 (eqBool items[i] items2[i]) (fun r s' => r = e i ∧ I s') E s) (hv : ((decide (items.size = items2.size) && (List.range items.size).all e)) = v)
    (fin : ∀ s, I s → Q (.bool v) s) (h : I s) : wpAny (model prog w) A (richCompare .Eq (.ref l) (.ref b)) Q E s := by
  obtain ⟨⟨cls, dd, data, sl⟩, ho, hc, n, hd⟩ := id hl
  obtain ⟨⟨cls2, dd2, data2, sl2⟩, ho2, hc2, n2, hd2⟩ := id hb
  simp only at hc hd hc2 hd2
  subst hc hd hc2 hd2
  refine wpAny_richCompare_same_room (op := .Eq) ⟨_, ho, rfl⟩ ⟨_, ho2, rfl⟩ F.slot_tuple_eq (call_here F.slot_tuple_eq ⟨_, ho, rfl⟩ F.entry_tuple_eq (F.args_tuple_eq_2 _ _) ?_) hu
  exact tuple_eqJ (R := wants (fun v s' => v ≠ .notImplemented ∧ Q v s') E) l b items items2 n n2 dd dd2 sl sl2 e v I turn hv (fun s' q => ⟨(fun x => nomatch x), fin s' q⟩) ho ho2 h
theorem rc_list_neJ {l b : Addr} {N M : Nat} {e : Nat → Bool} {v : Bool} {Q : Value → Shared → Prop} (hu : A.units < cLine) (I : Shared → Prop) (hl : ListJ prog w A E l b N M e I) (hv : (!(decide (N = M) && (List.range N).all e)) = v)
    (fin : ∀ s, I s → Q (.bool v) s) (h : I s) : wpAny (model prog w) A (richCompare .NotEq (.ref l) (.ref b)) Q E s := by
  obtain ⟨items, items2, n, n2, hl1, hb1, _, _, _⟩ := hl _ h
  refine wpAny_richCompare_same_room (op := .NotEq) ⟨_, hl1, rfl⟩ ⟨_, hb1, rfl⟩ F.slot_list_ne (call_here F.slot_list_ne ⟨_, hl1, rfl⟩ F.entry_list_ne (F.args_list_ne_2 _ _) ?_) hu
  exact list_neJ (R := wants (fun v s' => v ≠ .notImplemented ∧ Q v s') E) l b N M e v I hl hv (fun s' q => ⟨(fun x => nomatch x), fin s' q⟩) h
theorem rc_tup_neJ {l b : Addr} {items items2 : Array Value} {e : Nat → Bool} {v : Bool} {Q : Value → Shared → Prop} (hu : A.units < cLine) (I : Shared → Prop) (hl : s.heap.IsTuple l items) (hb : s.heap.IsTuple b items2)
    (turn : ∀ i (h1 : i < items.size) (h2 : i < items2.size) s, I s → wpAny (model prog w) A.in1 (eqBool items[i] items2[i]) (fun r s' => r = e i ∧ I s') E s) (hv : (!(decide (items.size = items2.size) && (List.range items.size).all e)) = v)
    (fin : ∀ s, I s → Q (.bool v) s) (h : I s) : wpAny (model prog w) A (richCompare .NotEq (.ref l) (.ref b)) Q E s := by
  obtain ⟨⟨cls, dd, data, sl⟩, ho, hc, n, hd⟩ := id hl
  obtain ⟨⟨cls2, dd2, data2, sl2⟩, ho2, hc2, n2, hd2⟩ := id hb
  simp only at hc hd hc2 hd2
  subst hc hd hc2 hd2
  refine wpAny_richCompare_same_room (op := .NotEq) ⟨_, ho, rfl⟩ ⟨_, ho2, rfl⟩ F.slot_tuple_ne (call_here F.slot_tuple_ne ⟨_, ho, rfl⟩ F.entry_tuple_ne (F.args_tuple_ne_2 _ _) ?_) hu
  exact tuple_neJ (R := wants (fun v s' => v ≠ .notImplemented ∧ Q v s') E) l b items items2 n n2 dd dd2 sl sl2 e v I turn hv (fun s' q => ⟨(fun x => nomatch x), fin s' q⟩) ho ho2 h
theorem in_tupJ {l : Addr} {x : Value} {items : Array Value} {e : Nat → Bool} {v : Bool} {Q : Value → Shared → Prop} (I : Shared → Prop) (hl : s.heap.IsTuple l items)
    (turn : ∀ i (h1 : i < items.size) s, I s → wpAny (model prog w) A.in1 (eqBool items[i] x) (fun r s' => r = e i ∧ I s') E s) (hv : (List.range items.size).any e = v)
    (fin : ∀ s, I s → Q (.bool v) s) (h : I s) : wpAny (model prog w) A (compareOp .In x (.ref l)) Q E s := by
  obtain ⟨⟨cls, dd, data, sl⟩, ho, hc, n, hd⟩ := id hl
  simp only at hc hd
  subst hc hd
  show wpAny _ A (do return .bool (← contains (.ref l) x)) Q E s
  refine wpAny_bind (wpAny_contains_slot (T := "tuple") ⟨_, ho, rfl⟩ F.slot_tuple_contains (wpAny_mono (call_here (Q := fun r s' => ∃ b, r = .bool b ∧ Q (.bool b) s') F.slot_tuple_contains ⟨_, ho, rfl⟩ F.entry_tuple_contains (F.args_tuple_contains_2 _ _) ?_) (fun r s' hr => ?_) fun _ _ z => z))
  · exact tuple_inJ (R := wants (fun r s' => ∃ b, r = .bool b ∧ Q (.bool b) s') E) l x items n dd sl e v I turn hv (fun s' q => ⟨v, rfl, fin s' q⟩) ho h
  · obtain ⟨b, rfl, q⟩ := hr
    exact wpAny_truthy_bool (wpAny_pure q)
end
end Oq
namespace Oq
open PySem PySem.Spec PyProof.Rows L2 Vb Xv
/-- how == of two values answers, by the abstract heap -/
abbrev EqD := V → V → Bool → Hp → Prop
def MonD (D : EqD) : Prop := ∀ x y b H H', Ext H H' → D x y b H → D x y b H'
def EqB (X : Cx) (n : Nat) (D : EqD) : Prop :=
  ∀ (A : Around) (pins : List (Addr × Obj)) (s : Shared) (σ : L2.St) (H : Hp) (x y : V) (b : Bool) (u v : Value), Sub X n A → Calm A → Inv X pins σ H s → RelV x u → RelV y v → D x y b H →
    wpAny (model X.prog X.w) A (eqBool u v) (fun r s' => r = b ∧ ∃ H', Inv X pins σ H' s' ∧ Ext H H') X.xe s
def RcB (X : Cx) (n : Nat) (op : CmpOp) (D : EqD) : Prop :=
  ∀ (A : Around) (pins : List (Addr × Obj)) (s : Shared) (σ : L2.St) (H : Hp) (x y : V) (b : Bool) (u v : Value), Sub X n A → Calm A → Inv X pins σ H s → RelV x u → RelV y v → D x y b H →
    wpAny (model X.prog X.w) A (richCompare op u v) (fun r s' => r = .bool b ∧ ∃ H', Inv X pins σ H' s' ∧ Ext H H') X.xe s
section
variable {X : Cx} {n m : Nat} {D D' : EqD}
theorem EqB.mono (h : EqB X n D) (hn : n ≤ m) : EqB X m D := fun A pins s σ H x y b u v sb => h A pins s σ H x y b u v (sb.mono hn)
theorem EqB.imp (h : EqB X n D) (hd : ∀ x y b H, D' x y b H → D x y b H) : EqB X n D' := fun A pins s σ H x y b u v sb c I rx ry d => h A pins s σ H x y b u v sb c I rx ry (hd x y b H d)
theorem RcB.imp {op : CmpOp} (h : RcB X n op D) (hd : ∀ x y b H, D' x y b H → D x y b H) : RcB X n op D' := fun A pins s σ H x y b u v sb c I rx ry d => h A pins s σ H x y b u v sb c I rx ry (hd x y b H d)
/-- flat values -/
def BFlat : EqD := fun x y b _ => flatV x = true ∧ flatV y = true ∧ eqV x y = b
theorem eqB_flat : EqB X 0 BFlat := by
  intro A pins s σ H x y b u v sb _ I rx ry d
  obtain ⟨fx, fy, e⟩ := d
  have q := eqAt_V (A := A) (s := s) rx ry fx fy
  rw [e] at q
  exact q X.prog X.w X.xe _ ⟨rfl, H, I, Ext.rfl'⟩
def AllD (D : EqD) (xs ys : List V) (e : Nat → Bool) (H : Hp) : Prop := ∀ (i : Nat) x y, xs[i]? = some x → ys[i]? = some y → D x y (e i) H
theorem turnB (hD : MonD D) (h : EqB X n D) {A : Around} (sb : Sub X (n + 1) A) (hc : Calm A) {pins : List (Addr × Obj)} {σ : L2.St} {H : Hp} {xs ys : List V} {e : Nat → Bool} {its its2 : List Value} (p : AllD D xs ys e H) (r : Vals xs its) (r2 : Vals ys its2)
    (i : Nat) (h1 : i < its.toArray.size) (h2 : i < its2.toArray.size) (s' : Shared) (l : LoopI X pins σ H s') :
    wpAny (model X.prog X.w) A.in1 (eqBool its.toArray[i] its2.toArray[i]) (fun r s2 => r = e i ∧ LoopI X pins σ H s2) X.xe s' := by
  obtain ⟨H1, I1, e1⟩ := l
  have g1 : its[i]? = some its.toArray[i] := by
    have h1' : i < its.length := by simpa using h1
    rw [List.getElem?_eq_getElem h1'] <;> simp
  have g2 : its2[i]? = some its2.toArray[i] := by
    have h2' : i < its2.length := by simpa using h2
    rw [List.getElem?_eq_getElem h2'] <;> simp
  have k1 : i < xs.length := by rw [r.length]; simpa using h1
  have k2 : i < ys.length := by rw [r2.length]; simpa using h2
  obtain ⟨u, hu, ru⟩ := r.get (List.getElem?_eq_getElem k1)
  obtain ⟨v, hv, rv⟩ := r2.get (List.getElem?_eq_getElem k2)
  rw [g1] at hu
  rw [g2] at hv
  rw [Option.some.inj hu, Option.some.inj hv]
  refine wpAny_mono (h A.in1 pins s' σ H1 _ _ (e i) u v sb.in1 hc I1 ru rv (hD _ _ _ _ _ e1 (p i _ _ (List.getElem?_eq_getElem k1) (List.getElem?_eq_getElem k2)))) (fun r s2 q => ?_) fun _ _ x => x
  obtain ⟨hr, H2, I2, e2⟩ := q
  exact ⟨hr, H2, I2, e1.trans e2⟩
theorem turnI (hD : MonD D) (h : EqB X n D) {A : Around} (sb : Sub X (n + 1) A) (hc : Calm A) {pins : List (Addr × Obj)} {σ : L2.St} {H : Hp} {xs : List V} {y : V} {e : Nat → Bool} {its : List Value} {v : Value} (p : ∀ (i : Nat) x, xs[i]? = some x → D x y (e i) H) (r : Vals xs its) (ry : RelV y v)
    (i : Nat) (h1 : i < its.toArray.size) (s' : Shared) (l : LoopI X pins σ H s') :
    wpAny (model X.prog X.w) A.in1 (eqBool its.toArray[i] v) (fun r s2 => r = e i ∧ LoopI X pins σ H s2) X.xe s' := by
  obtain ⟨H1, I1, e1⟩ := l
  have g1 : its[i]? = some its.toArray[i] := by
    have h1' : i < its.length := by simpa using h1
    rw [List.getElem?_eq_getElem h1'] <;> simp
  have k1 : i < xs.length := by rw [r.length]; simpa using h1
  obtain ⟨u, hu, ru⟩ := r.get (List.getElem?_eq_getElem k1)
  rw [g1] at hu
  rw [Option.some.inj hu]
  refine wpAny_mono (h A.in1 pins s' σ H1 _ _ (e i) u v sb.in1 hc I1 ru ry (hD _ _ _ _ _ e1 (p i _ (List.getElem?_eq_getElem k1)))) (fun r s2 q => ?_) fun _ _ x => x
  obtain ⟨hr, H2, I2, e2⟩ := q
  exact ⟨hr, H2, I2, e1.trans e2⟩
/-- lists, item by item; ng: the answer of != -/
def BList (D : EqD) (ng : Bool) : EqD := fun x y b H => ∃ p q xs ys e, x = .ref p ∧ y = .ref q ∧ H p = some (.lst xs) ∧ H q = some (.lst ys) ∧ AllD D xs ys e H ∧ (ng ^^ (decide (xs.length = ys.length) && (List.range xs.length).all e)) = b
def BTup (K : PySem.W.Frag) (D : EqD) (ng : Bool) : EqD := fun x y b H => ∃ p q xs ys e, x = .ref p ∧ y = .ref q ∧ SqT K H p xs ∧ SqT K H q ys ∧ AllD D xs ys e H ∧ (ng ^^ (decide (xs.length = ys.length) && (List.range xs.length).all e)) = b
theorem rcB_list_eq (hD : MonD D) (h : EqB X n D) : RcB X (n + 1) .Eq (BList D false) := by
  intro A pins s σ H x y t u v sb hc I rx ry d
  obtain ⟨a, b, xs, ys, e, rfl, rfl, ha, hb, p, hv⟩ := d
  cases rx
  cases ry
  refine rc_list_eqJ (N := xs.length) (M := ys.length) (e := e) (v := t) sb.room.units0 (fun s' => LoopI X pins σ H s') (fun s' q => ?_) (by simpa using hv) (fun s' q => ⟨rfl, q⟩) ⟨H, I, Ext.rfl'⟩
  obtain ⟨H1, I1, e1⟩ := id q
  obtain ⟨z, its, k, r, o1⟩ := I1.hok a _ (e1 _ _ ha)
  obtain ⟨z2, its2, k2, r2, o2⟩ := I1.hok b _ (e1 _ _ hb)
  exact ⟨its.toArray, its2.toArray, k, k2, o1, o2, by rw [List.size_toArray, ← r.length], by rw [List.size_toArray, ← r2.length], fun i h1 h2 => turnB hD h sb hc p r r2 i h1 h2 s' q⟩
theorem rcB_tup_eq (hD : MonD D) (h : EqB X n D) : RcB X (n + 1) .Eq (BTup X.K D false) := by
  intro A pins s σ H x y t u v sb hc I rx ry d
  obtain ⟨a, b, xs, ys, e, rfl, rfl, ha, hb, p, hv⟩ := d
  cases rx
  cases ry
  obtain ⟨its, r, o1, z⟩ := I.tuple ha
  obtain ⟨its2, r2, o2, z2⟩ := I.tuple hb
  have hsz : its.toArray.size = xs.length := by rw [List.size_toArray, ← r.length]
  have hsz2 : its2.toArray.size = ys.length := by rw [List.size_toArray, ← r2.length]
  exact rc_tup_eqJ (e := e) (v := t) sb.room.units0 (fun s' => LoopI X pins σ H s') o1 o2 (fun i h1 h2 s' q => turnB hD h sb hc p r r2 i h1 h2 s' q) (by rw [hsz, hsz2]; simpa using hv) (fun s' q => ⟨rfl, q⟩) ⟨H, I, Ext.rfl'⟩
theorem rcB_list_ne (hD : MonD D) (h : EqB X n D) : RcB X (n + 1) .NotEq (BList D true) := by
  intro A pins s σ H x y t u v sb hc I rx ry d
  obtain ⟨a, b, xs, ys, e, rfl, rfl, ha, hb, p, hv⟩ := d
  cases rx
  cases ry
  refine rc_list_neJ (N := xs.length) (M := ys.length) (e := e) (v := t) sb.room.units0 (fun s' => LoopI X pins σ H s') (fun s' q => ?_) (by simpa using hv) (fun s' q => ⟨rfl, q⟩) ⟨H, I, Ext.rfl'⟩
  obtain ⟨H1, I1, e1⟩ := id q
  obtain ⟨z, its, k, r, o1⟩ := I1.hok a _ (e1 _ _ ha)
  obtain ⟨z2, its2, k2, r2, o2⟩ := I1.hok b _ (e1 _ _ hb)
  exact ⟨its.toArray, its2.toArray, k, k2, o1, o2, by rw [List.size_toArray, ← r.length], by rw [List.size_toArray, ← r2.length], fun i h1 h2 => turnB hD h sb hc p r r2 i h1 h2 s' q⟩
theorem rcB_tup_ne (hD : MonD D) (h : EqB X n D) : RcB X (n + 1) .NotEq (BTup X.K D true) := by
  intro A pins s σ H x y t u v sb hc I rx ry d
  obtain ⟨a, b, xs, ys, e, rfl, rfl, ha, hb, p, hv⟩ := d
  cases rx
  cases ry
  obtain ⟨its, r, o1, z⟩ := I.tuple ha
  obtain ⟨its2, r2, o2, z2⟩ := I.tuple hb
  have hsz : its.toArray.size = xs.length := by rw [List.size_toArray, ← r.length]
  have hsz2 : its2.toArray.size = ys.length := by rw [List.size_toArray, ← r2.length]
  exact rc_tup_neJ (e := e) (v := t) sb.room.units0 (fun s' => LoopI X pins σ H s') o1 o2 (fun i h1 h2 s' q => turnB hD h sb hc p r r2 i h1 h2 s' q) (by rw [hsz, hsz2]; simpa using hv) (fun s' q => ⟨rfl, q⟩) ⟨H, I, Ext.rfl'⟩
/-- from a rich comparison of references to == inside a builtin: the same object is equal to itself -/
theorem RcB.eqB (h : RcB X n .Eq D) (hr : ∀ x y b H, D x y b H → ∃ p q, x = .ref p ∧ y = .ref q ∧ (p = q → b = true)) : EqB X n D := by
  intro A pins s σ H x y t u v sb hc I rx ry d
  obtain ⟨a, b, rfl, rfl, hs⟩ := hr _ _ _ _ d
  cases rx
  cases ry
  by_cases hab : a = b
  · rw [hs hab]
    subst hab
    exact SeqAt.EqAt.same (A := A) (s := s) (.ref a) X.prog X.w X.xe _ ⟨rfl, H, I, Ext.rfl'⟩
  · refine GQ.eqBool_refG hab (wpAny_mono (h A pins s σ H (.ref a) (.ref b) _ _ _ sb hc I rfl rfl d) (fun r s' q => ?_) fun _ _ x => x)
    obtain ⟨hr', q⟩ := q
    exact ⟨t, hr', rfl, q⟩
/-- objects of the class at C: what R says of the two -/
def BIns (C : Addr) (R : Addr → Addr → Bool → Hp → Prop) : EqD := fun x y b H => ∃ p q dx dy fs gs, x = .ref p ∧ y = .ref q ∧ H p = some (.ins C dx fs) ∧ H q = some (.ins C dy gs) ∧ R p q b H
theorem rcB_ins {C f : Addr} {fd : FuncData} {ps : List Str} {sp : Sp} {R : Addr → Addr → Bool → Hp → Prop} (F : FnG X.prog X.w X.K X.mg X.base n f fd ps sp) (hs : PySem.W.findIn X.K (.ref C) "__eq__" = some (some (.ref f))) (hf : PySem.W.isFn X.K (.ref f) = true) (hb : Binds X.K fd ps [])
    (hsp : ∀ p q b H Q, R p q b H → (∀ H', Ext H H' → Q (.bl b) H') → sp [.ref p, .ref q] H Q E0) : RcB X n .Eq (BIns C R) := by
  intro A pins s σ H x y t u v sb hc I rx ry d
  obtain ⟨a, b, dx, dy, fs, gs, rfl, rfl, ha, hb', hr⟩ := d
  cases rx
  cases ry
  obtain ⟨mA, J, _⟩ := ins_get I.hok ha
  obtain ⟨mB, J', _⟩ := ins_get I.hok hb'
  obtain ⟨od, J, _⟩ := J.look
  obtain ⟨od', J', _⟩ := J'.look
  obtain ⟨m, hF⟩ := I.fr
  refine PySem.W.cmp_K (op := .Eq) (tb := .ref C) sb.room.units0 hF I.ok.mod.kin J J'.type (by simp [PySem.W.notFirst]) hs hf ?_
  refine wpAny_mono (run_deep (vs := [.ref a, .ref b]) (Q := fun v H' => v = .bl t ∧ Ext H H') sb.fr F hc sb.room hb I (.cons rfl (.cons rfl .nil)) (hsp a b t H _ hr fun H' e => ⟨rfl, e⟩)) (fun r s' hv => ?_) fun _ _ z => z
  obtain ⟨z, H', I', rz, ez, e⟩ := hv
  subst ez
  cases (show r = Value.bool t from rz)
  exact ⟨rfl, H', I', e⟩
theorem eqB_ins {C f : Addr} {fd : FuncData} {ps : List Str} {sp : Sp} {R : Addr → Addr → Bool → Hp → Prop} (F : FnG X.prog X.w X.K X.mg X.base n f fd ps sp) (hs : PySem.W.findIn X.K (.ref C) "__eq__" = some (some (.ref f))) (hf : PySem.W.isFn X.K (.ref f) = true) (hb : Binds X.K fd ps [])
    (hsp : ∀ p q b H Q, R p q b H → (∀ H', Ext H H' → Q (.bl b) H') → sp [.ref p, .ref q] H Q E0) (same : ∀ p b H, R p p b H → b = true) : EqB X n (BIns C R) :=
  (rcB_ins F hs hf hb hsp).eqB fun x y b H d => by
    obtain ⟨p, q, _, _, _, _, hx, hy, _, _, r⟩ := d
    exact ⟨p, q, hx, hy, fun e => same p b H (by rw [← e] at r; exact r)⟩
theorem monD_ins {C : Addr} {R : Addr → Addr → Bool → Hp → Prop} (hR : ∀ p q b H H', Ext H H' → R p q b H → R p q b H') : MonD (BIns C R) := fun x y b H H' e d => by
  obtain ⟨p, q, dx, dy, fs, gs, hx, hy, h1, h2, r⟩ := d
  exact ⟨p, q, dx, dy, fs, gs, hx, hy, e _ _ h1, e _ _ h2, hR p q b H H' e r⟩
/-- x == y, x != y as expressions -/
def rEqB (D : EqD) : R2 := fun x y H Q => ∃ b, D x y b H ∧ ∀ H', Ext H H' → Q (.bl b) H'
theorem op_eqB {op : CmpOp} (h : RcB X n op D) (hop : ∀ u v : Value, compareOp op u v = richCompare op u v) (hc : Calm X.A) (hr : Room n X.A) : OpR X (compareOp op) (rEqB D) := by
  intro pins s σ H x y v u Q I rx ry hq
  obtain ⟨b, d, q⟩ := hq
  rw [hop]
  refine wpAny_mono (h X.A pins s σ H x y b v u ⟨hr, rfl⟩ hc I rx ry d) (fun r s' z => ?_) fun _ _ x => x
  obtain ⟨hr', H', I', e⟩ := z
  subst hr'
  exact ⟨.bl b, H', I', rfl, q H' e⟩
/-- x in y, y a tuple -/
def rInB (K : PySem.W.Frag) (D : EqD) : R2 := fun x y H Q => ∃ p xs e, y = .ref p ∧ SqT K H p xs ∧ (∀ (i : Nat) z, xs[i]? = some z → D z x (e i) H) ∧ ∀ H', Ext H H' → Q (.bl ((List.range xs.length).any e)) H'
theorem op_inB (hD : MonD D) (h : EqB X n D) (hc : Calm X.A) (hr : Room (n + 1) X.A) : OpR X (compareOp .In) (rInB X.K D) := by
  intro pins s σ H x y v u Q I rx ry hq
  obtain ⟨p, xs, e, rfl, sq, hd, q⟩ := hq
  cases ry
  obtain ⟨its, r, o1, z⟩ := I.tuple sq
  have hsz : its.toArray.size = xs.length := by rw [List.size_toArray, ← r.length]
  exact in_tupJ (e := e) (fun s' => LoopI X pins σ H s') o1 (fun i h1 s' l => turnI hD h ⟨hr, rfl⟩ hc hd r rx i h1 s' l) (by rw [hsz]) (fun s' l => by
    obtain ⟨H', I', e'⟩ := l
    exact ⟨.bl _, H', I', rfl, q H' e'⟩) ⟨H, I, Ext.rfl'⟩
end
end Oq
set_option Elab.async false
set_option linter.all false
set_option autoImplicit false
set_option maxRecDepth 100000
set_option maxHeartbeats 4000000
/-! Oi: whether a value of any of some kinds stands in a tuple of texts. -/
namespace Oi
open PySem PySem.Spec PyProof.Rows L2 Vb
/-- a flat value, a list or a tuple -/
def Odd (K : PySem.W.Frag) (H : Hp) (v : V) : Prop := flatV v = true ∨ ∃ a xs, v = .ref a ∧ (SqL K H a xs ∨ SqT K H a xs)
def isT (v : V) (y : Str) : Bool := match v with
  | .str z => decide (z = y)
  | _ => false
def inT (v : V) (ys : List Str) : Bool := ys.any (isT v)
def isU (v : V) (u : Value) : Bool := match u with
  | .str y _ => isT v y
  | _ => false
theorem any_isU {v : V} : ∀ {ys : List Str} {us : List Value}, Vals (ys.map V.str) us → us.any (isU v) = inT v ys
  | [], _, .nil => rfl
  | y :: ys, u :: us, .cons r t => by
    obtain ⟨k, rfl⟩ := (show ∃ t, u = Value.str y t from r)
    rw [List.any_cons, any_isU t]
    rfl
theorem isT_eqV {v : V} (f : flatV v = true) (y : Str) : eqV (.str y) v = isT v y := by
  cases v with
  | str z =>
    by_cases e : y = z
    · subst e; simp [eqV, isT]
    · have e' : ¬ z = y := fun h => e h.symm
      simp [eqV, isT, e, e']
  | _ => first | rfl | exact absurd (show false = true from f) Bool.false_ne_true
section
variable {X : Cx}
theorem eq_odd {A : Around} {pins : List (Addr × Obj)} {σ : L2.St} {H : Hp} {s : Shared} (I : Inv X pins σ H s) (hu : A.units < cLine) {v : V} {x u : Value} (rv : RelV v x) (o : Odd X.K H v) {y : Str} (ru : RelV (.str y) u) : SeqAt.EqAt A s u x (isU v u) := by
  obtain ⟨t, rfl⟩ := (show ∃ t, u = Value.str y t from ru)
  rcases o with f | ⟨a, xs, rfl, h⟩
  · have q := eqAt_V (A := A) (s := s) (show RelV (.str y) (.str y t) from ⟨t, rfl⟩) rv rfl f
    rw [isT_eqV f] at q
    exact q
  · cases rv
    rcases h with h | h
    · obtain ⟨its, r, pl, _⟩ := I.list h
      exact SeqAt.EqAt.str_list y t pl.isList hu
    · obtain ⟨its, r, pl, _⟩ := I.tuple h
      exact SeqAt.EqAt.str_tuple y t pl hu
theorem all_odd {A : Around} {pins : List (Addr × Obj)} {σ : L2.St} {H : Hp} {s : Shared} (I : Inv X pins σ H s) (hu : A.units < cLine) {v : V} {x : Value} (rv : RelV v x) (o : Odd X.K H v) : ∀ {ys : List Str} {us : List Value}, Vals (ys.map V.str) us → ∀ u ∈ us, SeqAt.EqAt A s u x (isU v u)
  | [], _, .nil => fun u hu => by cases hu
  | y :: ys, u :: us, .cons r t => fun u' hu' => by
    rcases List.mem_cons.mp hu' with rfl | h
    · exact eq_odd I hu rv o r
    · exact all_odd I hu rv o t u' h
/-- v in a tuple of texts -/
def rInT (K : PySem.W.Frag) (ng : Bool) : R2 := fun x y H Q => ∃ p ys, y = .ref p ∧ SqT K H p (ys.map V.str) ∧ Odd K H x ∧ Q (.bl (if ng then !inT x ys else inT x ys)) H
theorem op_inT (hu : X.A.in1.units < cLine) : OpR X (compareOp .In) (rInT X.K false) := by
  intro pins s σ H x y v u Q I rx ry h
  obtain ⟨p, ys, rfl, sq, o, q⟩ := h
  cases ry
  obtain ⟨its, r, pl, hz⟩ := I.tuple sq
  refine SeqAt.in_tupleAt (isU x) pl (fun w hw => all_odd I hu rx o r w (by simpa using hw)) ⟨.bl _, H, I, rfl, ?_⟩
  rw [show its.toArray.any (isU x) = its.any (isU x) by simp, any_isU r]
  exact q
theorem op_notInT (hu : X.A.in1.units < cLine) : OpR X (compareOp .NotIn) (rInT X.K true) := by
  intro pins s σ H x y v u Q I rx ry h
  obtain ⟨p, ys, rfl, sq, o, q⟩ := h
  cases ry
  obtain ⟨its, r, pl, hz⟩ := I.tuple sq
  refine SeqAt.notIn_tupleAt (isU x) pl (fun w hw => all_odd I hu rx o r w (by simpa using hw)) ⟨.bl _, H, I, rfl, ?_⟩
  rw [show its.toArray.any (isU x) = its.any (isU x) by simp, any_isU r]
  exact q
end
theorem inT_mem {y : Str} {ys : List Str} : inT (.str y) ys = decide (y ∈ ys) := by
  unfold inT
  rw [Bool.eq_iff_iff, List.any_eq_true, decide_eq_true_eq]
  exact ⟨fun ⟨z, h, e⟩ => by have := of_decide_eq_true e; subst this; exact h, fun h => ⟨y, h, decide_eq_true rfl⟩⟩
/-! ### answers by index -/
def anyE {α : Type} (l : List α) (g : α → Bool) : Nat → Bool := fun i => match l[i]? with
  | some d => g d
  | none => false
theorem any_at {α : Type} (l : List α) (g : α → Bool) : (List.range l.length).any (anyE l g) = l.any g := by
  rw [Bool.eq_iff_iff, List.any_eq_true, List.any_eq_true]
  constructor
  · rintro ⟨i, _, h⟩
    unfold anyE at h
    cases e : l[i]? with
    | none => rw [e] at h; cases h
    | some d =>
      rw [e] at h
      exact ⟨d, List.mem_of_getElem? e, h⟩
  · rintro ⟨d, hd, h⟩
    obtain ⟨i, hi⟩ := List.mem_iff_getElem?.mp hd
    refine ⟨i, List.mem_range.mpr (List.getElem?_eq_some_iff.mp hi).1, ?_⟩
    unfold anyE
    rw [hi]
    exact h
def allE {α : Type} [DecidableEq α] (l m : List α) : Nat → Bool := fun i => decide (l[i]? = m[i]?)
theorem all_at {α : Type} [DecidableEq α] (l m : List α) : (decide (l.length = m.length) && (List.range l.length).all (allE l m)) = decide (l = m) := by
  rw [Bool.eq_iff_iff, Bool.and_eq_true, decide_eq_true_eq, List.all_eq_true, decide_eq_true_eq]
  constructor
  · rintro ⟨h1, h2⟩
    refine List.ext_getElem? fun i => ?_
    by_cases hi : i < l.length
    · exact of_decide_eq_true (h2 i (List.mem_range.mpr hi))
    · rw [List.getElem?_eq_none (by omega), List.getElem?_eq_none (by omega)]
  · rintro rfl
    exact ⟨rfl, fun i _ => decide_eq_true rfl⟩
/-! ### v in an object whose class has an own __contains__ -/
open Vb Xv in
def rInO (C : Addr) (sp : Sp) : R2 := fun x y H Q => ∃ (a dx : Addr) (fs : List (Str × V)), y = .ref a ∧ H a = some (.ins C dx fs) ∧ sp [.ref a, x] H (fun v H' => ∃ t, v = .bl t ∧ Q (.bl t) H') E0
open Vb Xv in
theorem op_inO {X : Cx} {k : Nat} {f C : Addr} {fd : FuncData} {ps : List Str} {sp : Sp} (F : FnG X.prog X.w X.K X.mg X.base k f fd ps sp) (hs : PySem.W.findIn X.K (.ref C) "__contains__" = some (some (.ref f))) (hf : PySem.W.isFn X.K (.ref f) = true) (hb : Binds X.K fd ps []) (hc : Calm X.A) (hr : Room k X.A) : OpR X (compareOp .In) (rInO C sp) := by
  intro pins s σ H x y v u Q I rx ry h
  obtain ⟨a, dx, fs, rfl, ha, hq⟩ := h
  cases ry
  obtain ⟨mA, J, _⟩ := ins_get I.hok ha
  obtain ⟨od, J, _⟩ := J.look
  obtain ⟨m, hF⟩ := I.fr
  refine PySem.W.in_K hF I.ok.mod.kin J hs hf (thn (run_deep (vs := [.ref a, x]) rfl F hc hr hb I (.cons rfl (.cons rx .nil)) hq) fun r s' hv => ?_)
  obtain ⟨z, H', I', rz, t, ez, q⟩ := hv
  subst ez
  cases (show r = Value.bool t from rz)
  exact wpAny_truthy_bool ⟨.bl t, H', I', rfl, q⟩
theorem inV_inT {v : V} (f : flatV v = true) (l : List Str) : inV v (l.map V.str) = inT v l := by
  unfold inV inT
  rw [List.any_map]
  congr 1
  funext y
  exact isT_eqV f y
end Oi
set_option Elab.async false
set_option linter.all false
set_option autoImplicit false
set_option maxRecDepth 100000
set_option maxHeartbeats 4000000
namespace K04
open PySem PySem.Spec PyProof.Rows L2 Vb Wd Xd Xo Xi Xm Xr Xv Ts K01 Oq Oi
theorem SchemeAt.same {H H' : Hp} {C CS a : Addr} {b : Str} {ys : List Str} {ds : List FD} (s : Same H H') (S : SchemeAt H C CS a b ys ds) : SchemeAt H' C CS a b ys ds := by
  obtain ⟨⟨dx, t, bn, nm, f, so, kvs, fs, zs, ha, ht, hn, hf, FF, hb, hv, hs, mz, srt, nd⟩, q2, q3, q4, q5, q6, q7⟩ := S
  exact ⟨⟨dx, t, bn, nm, f, so, kvs, fs, zs, s _ _ ha, s _ _ ht, s _ _ hn, s _ _ hf, ⟨FF.len, fun i x d h1 h2 => by
    obtain ⟨ch, ts, FA⟩ := FF.at_ i x d h1 h2
    exact ⟨ch, ts, FA.sm s⟩⟩, s _ _ hb, hv, s _ _ hs, mz, srt, nd⟩, q2, q3, q4, q5, q6, q7⟩
/-- a form at an address is one form -/
theorem kids_uniq {H : Hp} : ∀ {ts : List Addr} {cs cs' : List (Str × Int)}, ts.length = cs.length → ts.length = cs'.length → (∀ (i : Nat) (t : Addr) (c : Str × Int), ts[i]? = some t → cs[i]? = some c → Kid H t c.1 c.2) → (∀ (i : Nat) (t : Addr) (c : Str × Int), ts[i]? = some t → cs'[i]? = some c → Kid H t c.1 c.2) → cs = cs'
  | [], [], [], _, _, _, _ => rfl
  | t :: ts, c :: cs, c' :: cs', l, l', h, h' => by
    have k := (h 0 t c rfl rfl).at_
    have k' := (h' 0 t c' rfl rfl).at_
    rw [k] at k'
    have e : c = c' := by
      obtain ⟨c1, c2⟩ := c
      obtain ⟨d1, d2⟩ := c'
      injection k' with k'
      injection k' with k'
      injection k' with k1 k2
      injection k1 with k1
      injection k2 with k2 _
      injection k2 with k2
      exact Prod.ext k1 k2
    rw [e, kids_uniq (by simpa using l) (by simpa using l') (fun i t c h1 h2 => h (i + 1) t c h1 h2) fun i t c h1 h2 => h' (i + 1) t c h1 h2]
theorem refs_inj : ∀ {ts ts' : List Addr}, ts.map V.ref = ts'.map V.ref → ts = ts'
  | [], [], _ => rfl
  | t :: ts, t' :: ts', h => by
    rw [List.map_cons, List.map_cons] at h
    injection h with h1 h2
    injection h1 with h1
    rw [h1, refs_inj h2]
  | [], _ :: _, h => by cases h
  | _ :: _, [], h => by cases h
theorem FormAt.uniq {H : Hp} {C a ch ch' : Addr} {n so n' so' : Str} {ts ts' : List Addr} {cs cs' : List (Str × Int)} (f : FormAt H C a ch n so ts cs) (g : FormAt H C a ch' n' so' ts' cs') : n = n' ∧ so = so' ∧ cs = cs' := by
  obtain ⟨⟨dx, e⟩, k⟩ := f
  obtain ⟨⟨dx', e'⟩, k'⟩ := g
  rw [e] at e'
  injection e' with e'
  injection e' with _ _ e'
  unfold flds at e'
  injection e' with e1 e'
  injection e' with e2 e'
  injection e' with e3 _
  injection e1 with _ e1
  injection e1 with e1
  injection e2 with _ e2
  injection e2 with e2
  injection e3 with _ e3
  injection e3 with e3
  subst e3
  have ea := k.at_.symm.trans k'.at_
  injection ea with ea
  injection ea with ea
  have et := refs_inj ea
  subst et
  exact ⟨e1, e2, kids_uniq k.len k'.len k.kid k'.kid⟩
abbrev s_S_getitem : Stmt := inB (topS 24) 8
theorem sc_S_getitem : FnScope ["self", "name"] ["self", "name"] (defScope s_S_getitem) := ⟨rfl, rfl, rfl, by decide +kernel, rfl, by decide +kernel, by decide +kernel⟩
abbrev s_S_contains : Stmt := inB (topS 24) 10
theorem sc_S_contains : FnScope ["self", "value"] ["self", "value"] (defScope s_S_contains) := ⟨rfl, rfl, rfl, by decide +kernel, rfl, by decide +kernel, by decide +kernel⟩
abbrev s_S_len : Stmt := inB (topS 24) 11
theorem sc_S_len : FnScope ["self"] ["self"] (defScope s_S_len) := ⟨rfl, rfl, rfl, by decide +kernel, rfl, by decide +kernel, by decide +kernel⟩
abbrev s_S_eq : Stmt := inB (topS 24) 12
theorem sc_S_eq : FnScope ["self", "other"] ["self", "other"] (defScope s_S_eq) := ⟨rfl, rfl, rfl, by decide +kernel, rfl, by decide +kernel, by decide +kernel⟩
abbrev s_S_str : Stmt := inB (topS 24) 13
theorem sc_S_str : FnScope ["self"] ["self"] (defScope s_S_str) := ⟨rfl, rfl, rfl, by decide +kernel, rfl, by decide +kernel, by decide +kernel⟩
abbrev s_S_of_sort : Stmt := inB (topS 24) 14
theorem sc_S_of_sort : FnScope ["self", "sort", "form"] ["self", "sort"] (defScope s_S_of_sort) := ⟨rfl, rfl, rfl, by decide +kernel, rfl, by decide +kernel, by decide +kernel⟩
/-! ### what they promise -/
def spLenS (C CS : Addr) : Sp := fun vs H Q _ => ∃ (a : Addr) (b : Str) (ys : List Str) (ds : List FD), vs = [.ref a] ∧ SchemeAt H C CS a b ys ds ∧ Q (.int ds.length) H
def tellS (n m : Nat) : Str := ((("scheme of " ++ Str.ofString (toString (n : Int))) ++ " forms, ") ++ Str.ofString (toString (m : Int))) ++ " sorts"
def nSorts (ys : List Str) (ds : List FD) : Nat := (dd (ys ++ said ds)).length
def spStrS (C CS : Addr) : Sp := fun vs H Q _ => ∃ (a : Addr) (b : Str) (ys : List Str) (ds : List FD), vs = [.ref a] ∧ SchemeAt H C CS a b ys ds ∧ Q (.str (tellS ds.length (nSorts ys ds))) H
def spItemS (K : PySem.W.Frag) (C CS CU : Addr) : Sp := fun vs H Q E => ∃ (a : Addr) (b : Str) (ys : List Str) (ds : List FD) (v : V), vs = [.ref a, v] ∧ SchemeAt H C CS a b ys ds ∧ Odd K H v ∧
  (∀ (d : FD) (x ch : Addr) (ts : List Addr), d ∈ ds → v = .str d.1 → FormAt H C x ch d.1 d.2.1 ts d.2.2 → Q (.ref x) H) ∧ (inT v (ds.map (·.1)) = false → ∀ d, H d = none → E (.ref CU) (some d) (upd H d (.xd [("name", v)])))
/-- == of two forms -/
def RF (C : Addr) : Addr → Addr → Bool → Hp → Prop := fun p q b H => ∃ (ch ch' : Addr) (ts ts' : List Addr) (d d' : FD), FormAt H C p ch d.1 d.2.1 ts d.2.2 ∧ FormAt H C q ch' d'.1 d'.2.1 ts' d'.2.2 ∧ b = decide (d = d')
theorem fd_dec (d d' : FD) : (decide (d.1 = d'.1) && (decide (d.2.1 = d'.2.1) && decide (d.2.2 = d'.2.2))) = decide (d = d') := by
  obtain ⟨n, so, cs⟩ := d
  obtain ⟨n', so', cs'⟩ := d'
  by_cases e1 : n = n' <;> by_cases e2 : so = so' <;> by_cases e3 : cs = cs' <;> simp [e1, e2, e3]
/-- v in the scheme -/
def spInS (K : PySem.W.Frag) (C CS : Addr) : Sp := fun vs H Q _ => ∃ (a : Addr) (b : Str) (ys : List Str) (ds : List FD) (v : V), vs = [.ref a, v] ∧ SchemeAt H C CS a b ys ds ∧
  ((∃ (x ch : Addr) (ts : List Addr) (d : FD), v = .ref x ∧ FormAt H C x ch d.1 d.2.1 ts d.2.2 ∧ ∀ H', Same H H' → Q (.bl (decide (d ∈ ds))) H') ∨
    (Odd K H v ∧ (∃ t, TyX K H v (.type t) ∧ t ∈ ["str", "tuple", "list", "NoneType", "int", "bool"]) ∧ Q (.bl (inT v (ds.map (·.1)))) H))
/-- a scheme == v -/
def spEqS (K : PySem.W.Frag) (C CS : Addr) : Sp := fun vs H Q _ => ∃ (a : Addr) (b : Str) (ys : List Str) (ds : List FD) (v : V), vs = [.ref a, v] ∧ SchemeAt H C CS a b ys ds ∧
  ((∃ t, t ∈ ["str", "tuple", "list", "NoneType"] ∧ TyX K H v (.type t) ∧ Q (.bl false) H) ∨
    ∃ (a' : Addr) (b' : Str) (ys' : List Str) (ds' : List FD), v = .ref a' ∧ SchemeAt H C CS a' b' ys' ds' ∧ ∀ H', Same H H' → Q (.bl (decide (b = b') && (decide (ys = ys') && decide (ds = ds')))) H')
/-- scheme.of_sort(sort) -/
def spOfS (K : PySem.W.Frag) (C CS CU : Addr) : Sp := fun vs H Q E => ∃ (a : Addr) (b : Str) (ys : List Str) (ds : List FD) (v : V), vs = [.ref a, v] ∧ SchemeAt H C CS a b ys ds ∧ Odd K H v ∧
  (∀ z, v = .str z → z ∈ ys ++ said ds → ∀ p H', Same H H' → H' p = some (.tup (((ds.filter fun d => decide (d.2.1 = z)).map (·.1)).map V.str)) → Q (.ref p) H') ∧
  ((∀ z, v = .str z → z ∉ ys ++ said ds) → ∀ d, H d = none → E (.ref CU) (some d) (upd H d (.xd [("name", v)])))
/-- the getters -/
structure SchemeP (P : Program) (w : World) (K : PySem.W.Frag) (mg : Str → Option Value) (base : Heap) (CS : Addr) : Prop where
  get : ∀ x ∈ [(("bare" : Str), ("_bare" : Str)), ("tops", "_tops"), ("forms", "_forms"), ("names", "_names"), ("sorts", "_sorts")], ∃ (p g : Addr) (fd : FuncData), PropOf K CS x.1 p g ∧ FnG P w K mg base 1 g fd ["self"] (spFld CS x.2) ∧ Binds K fd ["self"] []
/-- == of forms -/
structure FormQ (P : Program) (w : World) (K : PySem.W.Frag) (mg : Str → Option Value) (base : Heap) (C : Addr) : Prop where
  eq : ∃ (f : Addr) (fd : FuncData), FnG P w K mg base 3 f fd ["self", "other"] (spEq K C) ∧ PySem.W.findIn K (.ref C) "__eq__" = some (some (.ref f)) ∧ PySem.W.isFn K (.ref f) = true ∧ Binds K fd ["self", "other"] []
theorem two_signs : ∀ n < 64, (Str.ofString (toString ((n : Nat) : Int))).length ≤ 2 := by decide +kernel
section
variable {P : Program} {w : World} {K : PySem.W.Frag} {mg : Str → Option Value} {base : Heap} {C CS CU : Addr}
theorem ok_S_len {f : Addr} {fd : FuncData} (F : Fun K "__len__" "Scheme.__len__" s_S_len f fd) (T : SchemeC K CS) (z_len : mg "len" = none) : FnG P w K mg base 1 f fd ["self"] (spLenS C CS) := by
  refine goes_by F sc_S_len (fun vs H Q E h => ?_) (fun cdv A outer s H vs Q E hc hr h => ?_)
  · obtain ⟨a, b, ys, ds, rfl, _⟩ := h
    rfl
  · obtain ⟨a, b, ys, ds, rfl, S, q⟩ := h
    obtain ⟨dx, t, bn, nm, f, so, kvs, fs, zs, ha, ht, hn, hf, FF, hb, hv, hs, mz, srt, nd⟩ := S.ex
    refine ⟨_, pss_one (ps_ret (pe_callB call_len_seq (by rfl) z_len PySem.boot_len (pa_cons (pe_fld (f := "_names") (pv 0) (by rfl)) pa_nil))), ?_⟩
    refine ⟨_, rfl, a, CS, dx, _, .ref nm, rfl, ha, T.c, T.n _ (by simp), by rfl, nm, _, rfl, .inr (.inl (.inl hn)), ?_⟩
    rw [List.length_map, List.length_map]
    exact q
theorem ok_S_str {f : Addr} {fd : FuncData} (F : Fun K "__str__" "Scheme.__str__" s_S_str f fd) (T : SchemeC K CS) (z_len : mg "len" = none) : FnG P w K mg base 1 f fd ["self"] (spStrS C CS) := by
  refine goes_by F sc_S_str (fun vs H Q E h => ?_) (fun cdv A outer s H vs Q E hc hr h => ?_)
  · obtain ⟨a, b, ys, ds, rfl, _⟩ := h
    rfl
  · obtain ⟨a, b, ys, ds, rfl, S, q⟩ := h
    obtain ⟨dx, t, bn, nm, f, so, kvs, fs, zs, ha, ht, hn, hf, FF, hb, hv, hs, mz, srt, nd⟩ := S.ex
    refine ⟨_, pss_one (ps_ret (pe_joined (.cons pe_str (.cons (pe_fmt (pe_callB call_len_seq (by rfl) z_len PySem.boot_len (pa_cons (pe_fld (f := "_names") (pv 0) (by rfl)) pa_nil))) (.cons pe_str (.cons (pe_fmt (pe_callB call_len_seq (by rfl) z_len PySem.boot_len (pa_cons (pe_fld (f := "_sorts") (pv 0) (by rfl)) pa_nil))) (.cons pe_str .nil))))))), ?_⟩
    have zl : zs.length = nSorts ys ds := len_dd nd mz
    have few := S.few
    have sor : nSorts ys ds ≤ 8 := S.sorts
    have l1 : ("scheme of " : Str).length = 10 := by decide +kernel
    have l2 : (" forms, " : Str).length = 8 := by decide +kernel
    have l3 : (" sorts" : Str).length = 6 := by decide +kernel
    have t1 := two_signs ds.length (by omega)
    have t2 := two_signs (nSorts ys ds) (by omega)
    have lg : ∀ {n : Nat}, n < 64 → ((n : Int)).natAbs.log2 < 1920 := fun {n} h => by
      have : ∀ n < 64, ((n : Nat) : Int).natAbs.log2 < 1920 := by decide +kernel
      exact this n h
    have big : ∀ {n : Nat}, n ≤ 100 → n ≤ sizeLine := fun h => Nat.le_trans h (by decide)
    refine ⟨"scheme of ", rfl, by rw [empty_app, l1]; exact big (by decide), _, rfl, a, CS, dx, _, .ref nm, rfl, ha, T.c, T.n _ (by simp), by rfl, nm, _, rfl, .inr (.inl (.inl hn)), .inr ⟨_, rfl, ?_, _, rfl, ?_, ?_⟩⟩
    · rw [List.length_map, List.length_map]
      exact lg (by omega)
    · rw [List.length_map, List.length_map, empty_app, PySem.Str.length_append, l1]
      exact big (by omega)
    rw [List.length_map, List.length_map, empty_app]
    refine ⟨" forms, ", rfl, ?_, _, rfl, a, CS, dx, _, .ref so, rfl, ha, T.c, T.n _ (by simp), by rfl, so, _, rfl, .inr (.inl (.inl hs)), .inr ⟨_, rfl, ?_, _, rfl, ?_, ?_⟩⟩
    · rw [PySem.Str.length_append, PySem.Str.length_append, l1, l2]
      exact big (by omega)
    · rw [List.length_map, zl]
      exact lg (by omega)
    · rw [List.length_map, zl, PySem.Str.length_append, PySem.Str.length_append, PySem.Str.length_append, l1, l2]
      exact big (by omega)
    rw [List.length_map, zl]
    refine ⟨" sorts", rfl, ?_, q⟩
    rw [PySem.Str.length_append, PySem.Str.length_append, PySem.Str.length_append, PySem.Str.length_append, l1, l2, l3]
    exact big (by omega)
theorem ok_S_getitem {f fI : Addr} {fd fdI : FuncData} {psI : List Str} (F : Fun K "__getitem__" "Scheme.__getitem__" s_S_getitem f fd) (T : SchemeC K CS) (TI : EI K CU fI) (no : PySem.W.findIn K (.ref CU) "name" = some none) (FI : FnG P w K mg base 1 fI fdI psI (spSet K CU fI "name")) (bI : Binds K fdI psI []) (gU : mg "UnknownName" = some (.ref CU)) : FnE P w K mg base 4 f fd ["self", "name"] (spItemS K C CS CU) := by
  refine goes_exc F sc_S_getitem (fun vs H Q E h => ?_) (fun cdv A outer s H vs Q E hc hr tk h => ?_)
  · obtain ⟨a, b, ys, ds, v, rfl, _⟩ := h
    rfl
  · obtain ⟨a, b, ys, ds, v, rfl, S, o, q1, q2⟩ := h
    obtain ⟨dx, t, bn, nm, f, so, kvs, fs, zs, ha, ht, hn, hf, FF, hb, hv, hs, mz, srt, nd⟩ := S.ex
    refine ⟨_, (pss_cons (ps_if (pt_cmpR (op_notInT hr.in1.units0) (pv 1) (pe_fld (f := "_names") (pv 0) (by rfl)) (by rfl))
        (pss_one (ps_raise (by rfl) tk (pmk_E (f := "name") TI no FI hc (hr.mono (by decide)) bI (by rfl) gU (pa_cons (pv 1) pa_nil)))) pss_nil)
      (pss_one (ps_ret (pe_dget (hu_of hr) (pe_fld (f := "_by_name") (pv 0) (by rfl)) (pv 1) (fun _ _ => rfl))))), ?_⟩
    refine ⟨_, rfl, _, rfl, a, CS, dx, _, .ref nm, rfl, ha, T.c, T.n _ (by simp), by rfl, nm, _, rfl, .inl (.inl hn), o, _, rfl, ?_⟩
    cases e : inT v (ds.map (·.1)) with
    | false => exact iteT ⟨_, rfl, v, rfl, fun d nd => q2 e d nd⟩
    | true =>
      cases v with
      | str z =>
        rw [inT_mem] at e
        obtain ⟨d, hd, rfl⟩ := List.mem_map.mp (of_decide_eq_true e)
        obtain ⟨i, hi⟩ := List.mem_iff_getElem?.mp hd
        have il := (List.getElem?_eq_some_iff.mp hi).1
        have FL := FF.len
        obtain ⟨x, hx⟩ : ∃ x, fs[i]? = some x := ⟨fs[i], List.getElem?_eq_getElem (by omega)⟩
        obtain ⟨ch, ts, FA⟩ := FF.at_ i x d hx hi
        exact iteF ⟨_, rfl, a, CS, dx, _, .ref bn, rfl, ha, T.c, T.n _ (by simp), by rfl, _, rfl, bn, .ref x, rfl, .inl ⟨kvs, Sum.inr d.1, .inl hb, rfl, (hv i x d hx hi).symm⟩, q1 d x ch ts hd rfl FA⟩
      | _ => simp [inT, isT] at e
theorem mon_RF : ∀ p q b H H', Ext H H' → RF C p q b H → RF C p q b H' := fun p q b H H' e h => by
  obtain ⟨ch, ch', ts, ts', d, d', f, g, eb⟩ := h
  exact ⟨ch, ch', ts, ts', d, d', f.sm e, g.sm e, eb⟩
theorem eqB_form {X : Cx} (W : FormQ X.prog X.w X.K X.mg X.base C) : EqB X 3 (BIns C (RF C)) := by
  obtain ⟨f, fd, F, hs, hf, hb⟩ := W.eq
  refine eqB_ins F hs hf hb (fun p q b H Q h k => ?_) (fun p b H h => ?_)
  · obtain ⟨ch, ch', ts, ts', d, d', f, g, rfl⟩ := h
    refine ⟨p, ch, d.1, d.2.1, ts, d.2.2, .ref q, rfl, f, .inr ⟨q, ch', d'.1, d'.2.1, ts', d'.2.2, rfl, g, ?_⟩⟩
    rw [fd_dec]
    exact k H Ext.rfl'
  · obtain ⟨ch, ch', ts, ts', d, d', f, g, rfl⟩ := h
    obtain ⟨e1, e2, e3⟩ := f.uniq g
    rw [← fd_dec, e1, e2, e3]
    simp
theorem at_form {H : Hp} {x ch x' ch' : Addr} {ts ts' : List Addr} {d d' : FD} (f : FormAt H C x ch d.1 d.2.1 ts d.2.2) (g : FormAt H C x' ch' d'.1 d'.2.1 ts' d'.2.2) : BIns C (RF C) (.ref x) (.ref x') (decide (d = d')) H := by
  obtain ⟨dx, e⟩ := f.at_
  obtain ⟨dx', e'⟩ := g.at_
  exact ⟨x, x', dx, dx', _, _, rfl, rfl, e, e', ch, ch', ts, ts', d, d', f, g, rfl⟩
theorem all_forms {H : Hp} {fs fs' : List Addr} {ds ds' : List FD} (F : Forms H C fs ds) (G : Forms H C fs' ds') : AllD (BIns C (RF C)) (fs.map V.ref) (fs'.map V.ref) (allE ds ds') H := by
  intro i x y hx hy
  rw [List.getElem?_map] at hx hy
  obtain ⟨p, hp, rfl⟩ := Option.map_eq_some_iff.mp hx
  obtain ⟨q, hq, rfl⟩ := Option.map_eq_some_iff.mp hy
  have l1 := F.len
  have l2 := G.len
  have i1 := (List.getElem?_eq_some_iff.mp hp).1
  have i2 := (List.getElem?_eq_some_iff.mp hq).1
  have e1 : ds[i]? = some ds[i] := List.getElem?_eq_getElem (by omega)
  have e2 : ds'[i]? = some ds'[i] := List.getElem?_eq_getElem (by omega)
  obtain ⟨ch, ts, FA⟩ := F.at_ i p _ hp e1
  obtain ⟨ch', ts', FB⟩ := G.at_ i q _ hq e2
  have := at_form FA FB
  unfold allE
  rw [e1, e2]
  have e : decide (some ds[i] = some ds'[i]) = decide (ds[i] = ds'[i]) := by
    by_cases e : ds[i] = ds'[i]
    · rw [e, decide_eq_true rfl, decide_eq_true rfl]
    · rw [decide_eq_false e, decide_eq_false fun z => e (Option.some.inj z)]
  rw [e]
  exact this
theorem ok_S_contains {f : Addr} {fd : FuncData} (F : Fun K "__contains__" "Scheme.__contains__" s_S_contains f fd) (T : SchemeC K CS) (TF : FormC K C) (TI : FormI K C) (no2 : ∀ t ∈ ["int", "bool"], PySem.W.kitOne K (.type t) (.ref C) = some false) (W : FormQ P w K mg base C) (gF : mg "Form" = some (.ref C)) (z_isinstance : mg "isinstance" = none) : FnG P w K mg base 5 f fd ["self", "value"] (spInS K C CS) := by
  refine goes_by F sc_S_contains (fun vs H Q E h => ?_) (fun cdv A outer s H vs Q E hc hr h => ?_)
  · obtain ⟨a, b, ys, ds, v, rfl, _⟩ := h
    rfl
  · obtain ⟨a, b, ys, ds, v, rfl, S, h⟩ := h
    obtain ⟨dx, t, bn, nm, f, so, kvs, fs, zs, ha, ht, hn, hf, FF, hb, hv, hs, mz, srt, nd⟩ := S.ex
    refine ⟨_, (pss_cons (ps_if (pt_val (pe_callB call_isi (by rfl) z_isinstance (by decide +kernel) (pa_cons (pv 1) (pa_cons (pe_glob (v := .ref C) (by rfl) gF rfl) pa_nil))))
        (pss_one (ps_ret (pe_cmpR (op_inB (monD_ins mon_RF) (eqB_form W) hc hr) (pv 1) (pe_fld (f := "_forms") (pv 0) (by rfl)) (by rfl)))) pss_nil)
      (pss_one (ps_ret (pe_cmpR (op_inT hr.in1.units0) (pv 1) (pe_fld (f := "_names") (pv 0) (by rfl)) (by rfl))))), ?_⟩
    rcases h with ⟨x, ch, ts, d, rfl, FA, q⟩ | ⟨o, ⟨t', ty, mt⟩, q⟩
    · obtain ⟨dx', hx⟩ := FA.at_
      refine ⟨_, rfl, _, _, _, _, true, rfl, .own C, .base (.ins hx TF.c TI.ca TI.sp TI.tk TI.mo), TI.yes, _, rfl, iteT ?_⟩
      refine ⟨_, rfl, _, rfl, a, CS, dx, _, .ref f, rfl, ha, T.c, T.n _ (by simp), by rfl, f, _, anyE ds fun d' => decide (d' = d), rfl, .inl (.inl hf), fun i z hz => ?_, fun H' s => ?_⟩
      · rw [List.getElem?_map] at hz
        obtain ⟨p, hp, rfl⟩ := Option.map_eq_some_iff.mp hz
        have l1 := FF.len
        have i1 := (List.getElem?_eq_some_iff.mp hp).1
        have e1 : ds[i]? = some ds[i] := List.getElem?_eq_getElem (by omega)
        obtain ⟨ch', ts', FB⟩ := FF.at_ i p _ hp e1
        unfold anyE
        rw [e1]
        exact at_form FB FA
      · rw [List.length_map, FF.len, any_at]
        have e : (ds.any fun d' => decide (d' = d)) = decide (d ∈ ds) := by
          rw [Bool.eq_iff_iff, List.any_eq_true, decide_eq_true_eq]
          exact ⟨fun ⟨z, h, e⟩ => by have := of_decide_eq_true e; subst this; exact h, fun h => ⟨d, h, decide_eq_true rfl⟩⟩
        rw [e]
        exact q H' s
    · have no : PySem.W.kitOne K (.type t') (.ref C) = some false := by
        simp only [List.mem_cons, List.not_mem_nil, or_false] at mt
        rcases mt with rfl | rfl | rfl | rfl | rfl | rfl
        · exact TI.no _ (by simp)
        · exact TI.no _ (by simp)
        · exact TI.no _ (by simp)
        · exact TI.no _ (by simp)
        · exact no2 _ (by simp)
        · exact no2 _ (by simp)
      refine ⟨_, rfl, _, _, _, _, false, rfl, .own C, ty, no, _, rfl, iteF ?_⟩
      exact ⟨_, rfl, _, rfl, a, CS, dx, _, .ref nm, rfl, ha, T.c, T.n _ (by simp), by rfl, nm, _, rfl, .inl (.inl hn), o, q⟩
theorem eqv_strs2 (ys ys' : List Str) : PyData.eqv (.tuple (ys.map PyData.str)) (.tuple (ys'.map PyData.str)) = decide (ys = ys') := by
  have go : ∀ ys ys' : List Str, PyData.eqvAll (ys.map PyData.str) (ys'.map PyData.str) = decide (ys = ys') := fun ys => by
    induction ys with
    | nil =>
      intro ys'
      cases ys' <;> simp [PyData.eqvAll]
    | cons y ys ih =>
      intro ys'
      cases ys' with
      | nil => simp [PyData.eqvAll]
      | cons z zs =>
        rw [List.map_cons, List.map_cons, PyData.eqvAll, ih zs]
        by_cases e1 : y = z <;> by_cases e2 : ys = zs <;> simp [PyData.eqv, e1, e2]
  rw [← go]
  simp [PyData.eqv]
theorem shaped_tops {ys : List Str} (h : ∀ y ∈ ys, Fine y) : SeqAt.shaped (.tuple (ys.map PyData.str)) = true := by
  have := shaped_strs fun y hy => (h y hy).2
  exact this
theorem ok_S_eq {f : Addr} {fd : FuncData} (F : Fun K "__eq__" "Scheme.__eq__" s_S_eq f fd) (T : SchemeC K CS) (TIS : FormI K CS) (TPS : SchemeP P w K mg base CS) (W : FormQ P w K mg base C) (gS : mg "Scheme" = some (.ref CS)) (z_isinstance : mg "isinstance" = none) : FnG P w K mg base 5 f fd ["self", "other"] (spEqS K C CS) := by
  obtain ⟨p1, g1, fd1, o1, G1, b1⟩ := TPS.get _ (List.mem_cons_self)
  obtain ⟨p2, g2, fd2, o2, G2, b2⟩ := TPS.get ("tops", "_tops") (by simp)
  obtain ⟨p3, g3, fd3, o3, G3, b3⟩ := TPS.get ("forms", "_forms") (by simp)
  refine goes_by F sc_S_eq (fun vs H Q E h => ?_) (fun cdv A outer s H vs Q E hc hr h => ?_)
  · obtain ⟨a, b, ys, ds, v, rfl, _⟩ := h
    rfl
  · obtain ⟨a, b, ys, ds, v, rfl, S, h⟩ := h
    have fine := S.tops.1
    obtain ⟨dx, t, bn, nm, f, so, kvs, fs, zs, ha, ht, hn, hf, FF, hb, hv, hs, mz, srt, nd⟩ := S.ex
    refine ⟨_, pss_one (ps_ret (pe_and (pe_callB call_isi (by rfl) z_isinstance (by decide +kernel) (pa_cons (pv 1) (pa_cons (pe_glob (v := .ref CS) (by rfl) gS rfl) pa_nil)))
      (pe_and (pe_cmpR op_eq (pe_propG (n := "bare") (pv 0) T.c o1 G1 hc (hr.mono (by decide)) b1) (pe_propG (n := "bare") (pv 1) T.c o1 G1 hc (hr.mono (by decide)) b1) (nomark _))
      (pe_and (pe_cmpR (op_eqD hr.units) (pe_propG (n := "tops") (pv 0) T.c o2 G2 hc (hr.mono (by decide)) b2) (pe_propG (n := "tops") (pv 1) T.c o2 G2 hc (hr.mono (by decide)) b2) (nomark _))
      (pe_one (pe_cmpR (op_eqB (rcB_tup_eq (monD_ins mon_RF) (eqB_form W)) (fun _ _ => rfl) hc hr) (pe_propG (n := "forms") (pv 0) T.c o3 G3 hc (hr.mono (by decide)) b3) (pe_propG (n := "forms") (pv 1) T.c o3 G3 hc (hr.mono (by decide)) b3) (nomark _))))))), ?_⟩
    have le1 : ∀ {x y : Str}, decide (V.str x = V.str y) = decide (x = y) := fun {x y} => by
      by_cases e : x = y
      · rw [e, decide_eq_true rfl, decide_eq_true rfl]
      · rw [decide_eq_false e, decide_eq_false fun z => e (V.str.inj z)]
    rcases h with ⟨t', mt, ty, q⟩ | ⟨a', b', ys', ds', rfl, S', q⟩
    · exact ⟨_, rfl, _, _, _, _, false, rfl, .own CS, ty, TIS.no t' mt, _, rfl, iteF q⟩
    · have fine' := S'.tops.1
      obtain ⟨dx', t', bn', nm', f', so', kvs', fs', zs', ha', ht', hn', hf', FF', hb', hv', hs', mz', srt', nd'⟩ := S'.ex
      refine ⟨_, rfl, _, _, _, _, true, rfl, .own CS, .base (.ins ha' T.c TIS.ca TIS.sp TIS.tk TIS.mo), TIS.yes, _, rfl, iteT ?_⟩
      refine ⟨_, rfl, a, dx, _, rfl, ha, a, dx, _, .str b, rfl, ha, by rfl, _, rfl, a', dx', _, rfl, ha', a', dx', _, .str b', rfl, ha', by rfl, rfl, _, rfl, ?_⟩
      rw [le1]
      cases e1 : decide (b = b') with
      | false =>
        rw [e1, Bool.false_and] at q
        exact iteF (q H (Same.refl H))
      | true =>
        rw [e1, Bool.true_and] at q
        refine iteT ⟨_, rfl, a, dx, _, rfl, ha, a, dx, _, .ref t, rfl, ha, by rfl, _, rfl, a', dx', _, rfl, ha', a', dx', _, .ref t', rfl, ha', by rfl, _, _, .tup (.inl (.inl ht)) (dp_strs ys), .tup (.inl (.inl ht')) (dp_strs ys'), shaped_tops fine, shaped_tops fine', _, rfl, ?_⟩
        rw [eqv_strs2]
        cases e2 : decide (ys = ys') with
        | false =>
          rw [e2, Bool.false_and] at q
          exact iteF (q H (Same.refl H))
        | true =>
          rw [e2, Bool.true_and] at q
          refine iteT ⟨_, rfl, a, dx, _, rfl, ha, a, dx, _, .ref f, rfl, ha, by rfl, _, rfl, a', dx', _, rfl, ha', a', dx', _, .ref f', rfl, ha', by rfl, decide (ds = ds'), ⟨f, f', _, _, allE ds ds', rfl, rfl, .inl (.inl hf), .inl (.inl hf'), all_forms FF FF', ?_⟩, q⟩
          rw [List.length_map, List.length_map, FF.len, FF'.len, all_at, Bool.false_xor]
end
end K04
set_option Elab.async false
set_option linter.all false
set_option autoImplicit false
set_option maxRecDepth 100000
set_option maxHeartbeats 4000000
/-! Zs: sorted of a list of pairs of a text and a number. -/
namespace Zs
open PySem PySem.W PySem.Spec PyProof.Rows L2 Vb
def encP (q : Str × Nat) : PyData := .tuple [.str q.1, .int (q.2 : Nat)]
theorem alikeP (p q : Str × Nat) : alike (encP p) (encP q) = true := by simp [encP, alike, alikeAll]
/-- the order of such pairs -/
def leP (p q : Str × Nat) : Bool := dataLe false encP p q
theorem leP_iff {p q : Str × Nat} : leP p q = true ↔ (p.1.cps.toList < q.1.cps.toList ∨ (p.1 = q.1 ∧ p.2 ≤ q.2)) := by
  unfold leP
  rw [dataLe_eq]
  show (!dataLt (encP q) (encP p)) = true ↔ _
  unfold encP
  rw [dataLt_pair (by simp [alike]) (by simp [alike]), dataLt_int, dataLt_str]
  obtain ⟨x, i⟩ := p
  obtain ⟨y, j⟩ := q
  simp only [PyData.eqv, beq_iff_eq]
  by_cases e : y = x
  · subst e
    rw [if_pos rfl]
    by_cases e2 : (j : Int) = (i : Int)
    · rw [if_pos e2]
      simp only [Bool.not_false, true_iff]
      exact .inr ⟨trivial, by omega⟩
    · rw [if_neg e2]
      simp only [Bool.not_eq_true', decide_eq_false_iff_not]
      constructor
      · intro h
        exact .inr ⟨trivial, by omega⟩
      · rintro (h | ⟨_, h⟩)
        · exact absurd h (List.lt_irrefl _)
        · omega
  · rw [if_neg e]
    simp only [Bool.not_eq_true', decide_eq_false_iff_not]
    have ne : ¬ y.cps.toList = x.cps.toList := fun z => e (str_of_cps z)
    constructor
    · intro h
      refine .inl (Decidable.byContradiction fun h1 => ne ?_)
      exact List.le_antisymm (List.not_lt.mp h1) (List.not_lt.mp h)
    · rintro (h | ⟨h, _⟩) h2
      · exact List.lt_asymm h h2
      · exact e h.symm
theorem leP_total : TotalLe leP := sortLe_total (listOrd itemOrd) false fun q => keyToks (encP q)
/-- two rearrangements of a list in that order are one -/
theorem leP_one {l m : List (Str × Nat)} (p : l.Perm m) (hl : l.Pairwise fun a b => leP a b = true) (hm : m.Pairwise fun a b => leP a b = true) : l = m :=
  p.eq_of_pairwise (fun a b _ _ h1 h2 => by
    have h1 := leP_iff.mp h1
    have h2 := leP_iff.mp h2
    rcases h1 with h1 | ⟨e1, h1⟩ <;> rcases h2 with h2 | ⟨e2, h2⟩
    · exact absurd h2 (List.lt_asymm h1)
    · rw [e2] at h1
      exact absurd h1 (List.lt_irrefl _)
    · rw [e1] at h2
      exact absurd h2 (List.lt_irrefl _)
    · exact Prod.ext e1 (by omega)) hl hm
section
variable {X : Cx}
/-- sorted(xs), xs a list of such pairs: a new list, in order -/
def rSortSI (K : PySem.W.Frag) : List V → Hp → VK → Prop := fun vs H Q => ∃ (a : Addr) (ps : List Addr) (qs : List (Str × Nat)), vs = [V.ref a] ∧ SqL K H a (ps.map V.ref) ∧ ps.length = qs.length ∧ (∀ (j : Nat) (p : Addr) (q : Str × Nat), ps[j]? = some p → qs[j]? = some q → H p = some (.tup [.str q.1, .int (q.2 : Nat)])) ∧
  ∀ (p : Addr) (ps' : List Addr) (qs' : List (Str × Nat)), qs'.Perm qs → (qs'.Pairwise fun a b => leP a b = true) → ps'.length = qs'.length → (∀ (j : Nat) (p : Addr) (q : Str × Nat), ps'[j]? = some p → qs'[j]? = some q → H p = some (.tup [.str q.1, .int (q.2 : Nat)])) → H p = none → Q (.ref p) (upd H p (.lst (ps'.map V.ref)))
def RP (H : Hp) (v : Value) (q : Str × Nat) : Prop := ∃ p, v = .ref p ∧ H p = some (.tup [.str q.1, .int (q.2 : Nat)])
theorem each_vals {H : Hp} : ∀ {ps : List Addr} {qs : List (Str × Nat)} {us : List Value}, ps.length = qs.length → (∀ (j : Nat) (p : Addr) (q : Str × Nat), ps[j]? = some p → qs[j]? = some q → H p = some (.tup [.str q.1, .int (q.2 : Nat)])) → Vals (ps.map V.ref) us → EachIs (RP H) us qs
  | [], [], _, _, _, .nil => .nil
  | p :: ps, q :: qs, _, l, h, .cons r t => by
    cases r
    exact .cons ⟨p, rfl, h 0 p q rfl rfl⟩ (each_vals (by simpa using l) (fun j p' q' h1 h2 => h (j + 1) p' q' h1 h2) t)
theorem each_back {H : Hp} : ∀ {us : List Value} {qs : List (Str × Nat)}, EachIs (RP H) us qs → ∃ ps : List Addr, us = ps.map Value.ref ∧ ps.length = qs.length ∧ ∀ (j : Nat) (p : Addr) (q : Str × Nat), ps[j]? = some p → qs[j]? = some q → H p = some (.tup [.str q.1, .int (q.2 : Nat)])
  | [], [], .nil => ⟨[], rfl, rfl, fun j p q h => by simp at h⟩
  | u :: us, q :: qs, .cons ⟨p, e, h⟩ t => by
    obtain ⟨ps, e1, l, k⟩ := each_back t
    refine ⟨p :: ps, by rw [List.map_cons, e, e1], by simp [l], fun j p' q' h1 h2 => ?_⟩
    cases j with
    | zero => cases h1; cases h2; exact h
    | succ j => exact k j p' q' h1 h2
theorem vals_refs : ∀ ps : List Addr, Vals (ps.map V.ref) (ps.map Value.ref)
  | [] => .nil
  | p :: ps => .cons rfl (vals_refs ps)
theorem cr_sortSI {k : Nat} (hr : Room k X.A) : CallR X (.builtin "sorted") (rSortSI X.K) := by
  intro pins s σ H vs us Q I r h
  obtain ⟨a, ps, qs, rfl, hs, hl, hp, q⟩ := h
  obtain ⟨its, rv, pl, hz⟩ := I.list hs
  obtain ⟨u, rfl, ru⟩ := vals1 r
  obtain rfl : u = Value.ref a := ru
  have e := each_vals hl hp rv
  have lq : qs.length ≤ sizeLine := by rw [← hl]; rw [List.length_map] at hz; exact hz
  refine sorted_data (enc := encP) (R := RP H) pl.isList e (e.mono fun v q' hv => ?_) (AllAlike.of alikeP) (Sortable.tuples fun b => ⟨_, _, rfl⟩) lq (fun b _ => ?_) fun out lo eo => ?_
  · obtain ⟨p, rfl, hq⟩ := hv
    obtain ⟨_, its2, r2, o, ho, hc, n, hd⟩ := I.hok _ _ hq
    obtain ⟨u1, u2, rfl, ri, rj⟩ := vals2 r2
    obtain ⟨t1, rfl⟩ := ri
    obtain ⟨t2, rfl⟩ := rj
    exact ⟨_, .tuple ho hc hd (.cons (.str _ _) (.cons (.int _ _) .nil))⟩
  · have hd : (encP b).depth = 1 := rfl
    rw [hd]
    have := hr.units
    omega
  · obtain ⟨ps', rfl, l', k'⟩ := each_back eo
    obtain ⟨n, hn⟩ := sortedAll_at s.heap its ((ps'.map Value.ref).toArray)
    have hs' : qs.mergeSort (dataLe false encP) = qs.mergeSort leP := rfl
    rw [hs'] at l' k'
    refine ⟨.ref (s.heap.objs.size + 1), upd H (s.heap.objs.size + 1) (.lst (ps'.map V.ref)), I.laid (t' := s.toks) (fun b o e => sortedAll_old e) (Nat.le_succ _) ⟨?_, ps'.map Value.ref, n, vals_refs ps', hn⟩, rfl, q _ ps' (qs.mergeSort leP) (List.mergeSort_perm _ _) (sort_pairwise leP_total qs) l' k' (I.hok.fresh (Nat.le_succ _))⟩
    rw [List.length_map, l', (List.mergeSort_perm _ _).length_eq]
    exact lq
end
end Zs
set_option Elab.async false
set_option linter.all false
set_option autoImplicit false
set_option maxRecDepth 100000
set_option maxHeartbeats 4000000
/-! Rl: how long data are when they are written out. -/
namespace Rl
open PySem PySem.Spec PyProof.Rows L2 Vb Wd
def lens (l : List Str) : Nat := (l.map (·.length)).sum
theorem join_len (y : Str) : ∀ l : List Str, (Str.join y l).length ≤ lens l + l.length * y.length
  | [] => Nat.zero_le _
  | [x] => by
    show x.length ≤ _
    simp [lens]
  | x :: z :: r => by
    have h := join_len y (z :: r)
    show (x ++ y ++ Str.join y (z :: r)).length ≤ _
    rw [PySem.Str.length_append, PySem.Str.length_append]
    simp only [lens, List.map_cons, List.sum_cons, List.length_cons] at h ⊢
    have e : (r.length + 1 + 1) * y.length = (r.length + 1) * y.length + y.length := Nat.succ_mul _ _
    omega
/-- data that may be written out: how deep, how long -/
structure Shw (n m : Nat) (d : PyData) : Prop where
  sh : d.showable = true
  nd : d.hasDict = false
  dp : d.depth ≤ n
  ln : d.shown.length ≤ m
theorem Shw.le {n m n' m' : Nat} {d : PyData} (h : Shw n m d) (a : n ≤ n') (b : m ≤ m') : Shw n' m' d := ⟨h.sh, h.nd, Nat.le_trans h.dp a, Nat.le_trans h.ln b⟩
theorem shw_str {z : Str} {k : Nat} (a : Asc z) (l : z.length ≤ k) : Shw 0 (10 * k + 2) (.str z) := by
  refine ⟨rfl, rfl, Nat.le_refl _, ?_⟩
  rw [PyData.shown_str]
  have := PySem.StrLaws.reprText_len z fun c hc => Nat.lt_trans (a c hc) (by decide)
  omega
theorem shw_nat {i : Nat} (h : i < 1000) : Shw 0 12 (.int i) := by
  have lg : ∀ n < 1000, ((n : Nat) : Int).natAbs.log2 < 1920 ∧ (PyData.int ((n : Nat) : Int)).shown.length ≤ 12 := by decide +kernel
  obtain ⟨h1, h2⟩ := lg i h
  exact ⟨decide_eq_true h1, rfl, Nat.le_refl _, h2⟩
theorem shw_all {n m : Nat} : ∀ {ds : List PyData}, (∀ d ∈ ds, Shw n m d) → PyData.showableAll ds = true ∧ PyData.hasDictAll ds = false ∧ PyData.depthAll ds ≤ n ∧ lens (PyData.shownAll ds) ≤ ds.length * m ∧ (PyData.shownAll ds).length = ds.length
  | [], _ => ⟨rfl, rfl, Nat.zero_le _, by rw [PyData.shownAll_nil]; exact Nat.zero_le _, by rw [PyData.shownAll_nil]; rfl⟩
  | d :: ds, h => by
    obtain ⟨h1, h2, h3, h4, h5⟩ := shw_all fun x hx => h x (List.mem_cons_of_mem _ hx)
    obtain ⟨k1, k2, k3, k4⟩ := h d List.mem_cons_self
    refine ⟨?_, ?_, ?_, ?_, ?_⟩
    · show (PyData.showable d && PyData.showableAll ds) = true
      rw [k1, h1]
      rfl
    · show (PyData.hasDict d || PyData.hasDictAll ds) = false
      rw [k2, h2]
      rfl
    · show max (PyData.depth d) (PyData.depthAll ds) ≤ n
      omega
    · rw [PyData.shownAll_cons]
      unfold lens at h4 ⊢
      rw [List.map_cons, List.sum_cons, List.length_cons, Nat.succ_mul]
      omega
    · rw [PyData.shownAll_cons, List.length_cons, List.length_cons, h5]
theorem shw_tup {n m k : Nat} {ds : List PyData} (h : ∀ d ∈ ds, Shw n m d) (l : ds.length ≤ k) : Shw (n + 1) (3 + k * (m + 2)) (.tuple ds) := by
  obtain ⟨h1, h2, h3, h4, h5⟩ := shw_all h
  refine ⟨h1, h2, ?_, ?_⟩
  · show PyData.depthAll ds + 1 ≤ n + 1
    omega
  · rw [PyData.shown_tuple, PySem.Str.length_append, PySem.Str.length_append]
    have j := join_len ", " (PyData.shownAll ds)
    have l2 : (", " : Str).length = 2 := by decide +kernel
    have l1 : ("(" : Str).length = 1 := by decide +kernel
    have le : (Str.ofString (if ds.length == 1 then ",)" else ")")).length ≤ 2 := by
      split <;> decide +kernel
    have mul := Nat.mul_le_mul_right (m + 2) l
    rw [l2, h5] at j
    rw [l1]
    rw [Nat.mul_add] at mul
    rw [Nat.mul_add] at mul ⊢
    omega
theorem shw_lst {n m k : Nat} {ds : List PyData} (h : ∀ d ∈ ds, Shw n m d) (l : ds.length ≤ k) : Shw (n + 1) (2 + k * (m + 2)) (.list ds) := by
  obtain ⟨h1, h2, h3, h4, h5⟩ := shw_all h
  refine ⟨h1, h2, ?_, ?_⟩
  · show PyData.depthAll ds + 1 ≤ n + 1
    omega
  · rw [PyData.shown_list, PySem.Str.length_append, PySem.Str.length_append]
    have j := join_len ", " (PyData.shownAll ds)
    have l2 : (", " : Str).length = 2 := by decide +kernel
    have l1 : ("[" : Str).length = 1 := by decide +kernel
    have le : ("]" : Str).length = 1 := by decide +kernel
    have mul := Nat.mul_le_mul_right (m + 2) l
    rw [l2, h5] at j
    rw [l1, le]
    rw [Nat.mul_add] at mul
    rw [Nat.mul_add] at mul ⊢
    omega
end Rl
set_option Elab.async false
set_option linter.all false
set_option autoImplicit false
set_option maxRecDepth 100000
set_option maxHeartbeats 4000000
/-! Ed: == and != of lists that hold flat values, lists of these, and dicts; != of an object of an own class with a value of another kind. -/
namespace Ed
open PySem PySem.Spec PyProof.Rows L2 Vb Xv Oq Oi
section
variable {X : Cx} {n m : Nat} {D D' : EqD}
theorem EqB_or (h : EqB X n D) (h' : EqB X n D') : EqB X n (fun x y b H => D x y b H ∨ D' x y b H) := fun A pins s σ H x y b u v sb c I rx ry d => by
  rcases d with d | d
  · exact h A pins s σ H x y b u v sb c I rx ry d
  · exact h' A pins s σ H x y b u v sb c I rx ry d
theorem MonD_or (h : MonD D) (h' : MonD D') : MonD (fun x y b H => D x y b H ∨ D' x y b H) := fun x y b H H' e d => d.elim (fun d => .inl (h x y b H H' e d)) fun d => .inr (h' x y b H H' e d)
theorem mon_flatB : MonD BFlat := fun _ _ _ _ _ _ d => d
theorem mon_listB {ng : Bool} (h : MonD D) : MonD (BList D ng) := fun x y b H H' e d => by
  obtain ⟨p, q, xs, ys, f, hx, hy, h1, h2, h3, h4⟩ := d
  exact ⟨p, q, xs, ys, f, hx, hy, e _ _ h1, e _ _ h2, fun i x y a b => h _ _ _ _ _ e (h3 i x y a b), h4⟩
theorem eqV_self {x : V} (f : flatV x = true) : eqV x x = true := by
  cases x with
  | non => rfl
  | bl b => cases b <;> rfl
  | int i => simp [eqV]
  | str z => simp [eqV]
  | _ => exact absurd (show false = true from f) Bool.false_ne_true
theorem eqB_flats : EqB X 1 (BList BFlat false) :=
  (rcB_list_eq mon_flatB eqB_flat).eqB fun x y b H d => by
    obtain ⟨p, q, xs, ys, f, hx, hy, h1, h2, h3, h4⟩ := d
    refine ⟨p, q, hx, hy, fun e => ?_⟩
    subst e
    have exy : xs = ys := by
      have := h1.symm.trans h2
      injection this with this
      injection this
    subst exy
    have all : (List.range xs.length).all f = true := List.all_eq_true.mpr fun i hi => by
      have il := List.mem_range.mp hi
      have hg : xs[i]? = some xs[i] := List.getElem?_eq_getElem il
      obtain ⟨f1, _, f3⟩ := h3 i _ _ hg hg
      rw [← f3]
      exact eqV_self f1
    rw [← h4, all, decide_eq_true rfl]
    rfl
/-! ### dicts -/
def sameV (v : V) : Bool := flatB v || (match v with
  | .ref _ => true
  | _ => false)
theorem eqAt_sameV {A : Around} {s : Shared} {v : V} {u u' : Value} (r : RelV v u) (r' : RelV v u') (f : sameV v = true) : SeqAt.EqAt A s u u' true := by
  cases v with
  | ref a =>
    cases (show u = Value.ref a from r)
    cases (show u' = Value.ref a from r')
    exact SeqAt.EqAt.same _
  | non => exact eqAt_same r r' rfl
  | bl b => exact eqAt_same r r' rfl
  | int i => exact eqAt_same r r' rfl
  | str z => exact eqAt_same r r' rfl
  | byt b => exact eqAt_same r r' rfl
  | _ => exact absurd (show false = true from f) Bool.false_ne_true
theorem hits_same {A : Around} {s : Shared} {kvs : List (Key × V)} {vb : List (Key × Value)} (rb : KV kvs vb) {ks : List (Key × V)} {va : List (Key × Value)} (ra : KV ks va) :
    (∀ p ∈ ks, valV kvs p.1 = some p.2 ∧ sameV p.2 = true) → PySem.W.KeqHits A s vb va true := by
  unfold KV at ra
  induction ra with
  | nil => intro _; exact .nil
  | @cons p q ps qs h t ih =>
    intro hp
    obtain ⟨h1, h2⟩ := h
    obtain ⟨e, f⟩ := hp p List.mem_cons_self
    have rr : RelO (some p.2) (valueAt vb p.1) := by rw [← e]; exact rb.val p.1
    obtain ⟨y, hy, ry⟩ := rr.some_of
    obtain ⟨k, v⟩ := q
    have h1' : p.1 = k := h1
    rw [h1'] at hy
    show PySem.W.KeqHits A s vb ((k, v) :: qs) (true && true)
    exact .hit hy (eqAt_sameV h2 ry f) (ih fun p' hm => hp p' (List.mem_cons_of_mem _ hm))
def BDict : EqD := fun x y b H => ∃ (p q : Addr) (ks ls : List (Key × V)), x = .ref p ∧ y = .ref q ∧ H p = some (.dK ks) ∧ H q = some (.dK ls) ∧ (p = q → b = true) ∧
  ((b = true ∧ ks.length = ls.length ∧ ∀ k ∈ ks, valV ls k.1 = some k.2 ∧ sameV k.2 = true) ∨ (b = false ∧ ks.length ≠ ls.length))
theorem mon_dict : MonD BDict := fun x y b H H' e d => by
  obtain ⟨p, q, ks, ls, hx, hy, h1, h2, h3, h4⟩ := d
  exact ⟨p, q, ks, ls, hx, hy, e _ _ h1, e _ _ h2, h3, h4⟩
theorem rcB_dict : RcB X 0 .Eq BDict := by
  intro A pins s σ H x y t u v sb hc I rx ry d
  obtain ⟨a, b, ks, ls, rfl, rfl, ea, eb, _, h⟩ := d
  obtain rfl : u = Value.ref a := rx
  obtain rfl : v = Value.ref b := ry
  obtain ⟨_, ya, va, ra, da⟩ := (show ObjOk X.prog X.w H s.heap a (.dK ks) from I.hok a _ ea)
  obtain ⟨_, yb, vb, rb, db⟩ := (show ObjOk X.prog X.w H s.heap b (.dK ls) from I.hok b _ eb)
  have go : wpAny (model X.prog X.w) A (compareOp .Eq (.ref a) (.ref b)) (fun r s' => r = .bool t ∧ ∃ H', Inv X pins σ H' s' ∧ Ext H H') X.xe s := by
    rcases h with ⟨rfl, hlen, hp⟩ | ⟨rfl, hlen⟩
    · have hl : va.length = vb.length := by rw [← ra.length, ← rb.length]; exact hlen
      exact PySem.W.keq_eq (knd := mixKind X.prog X.w) (r := true) ya yb da db sb.room.units0 (fun _ => hits_same rb ra hp) ⟨by simp [hl], H, I, Ext.rfl'⟩
    · have hl : va.length ≠ vb.length := by rw [← ra.length, ← rb.length]; exact hlen
      exact PySem.W.keq_eq (knd := mixKind X.prog X.w) (r := true) ya yb da db sb.room.units0 (fun e => absurd e hl) ⟨by simp [hl], H, I, Ext.rfl'⟩
  exact go
theorem eqB_dict : EqB X 0 BDict := rcB_dict.eqB fun x y b H d => by
  obtain ⟨p, q, _, _, hx, hy, _, _, h, _⟩ := d
  exact ⟨p, q, hx, hy, h⟩
/-- flat values, lists of these, dicts -/
def BIt : EqD := fun x y b H => BFlat x y b H ∨ (BList BFlat false x y b H ∨ BDict x y b H)
theorem mon_it : MonD BIt := MonD_or mon_flatB (MonD_or (mon_listB mon_flatB) mon_dict)
theorem eqB_it : EqB X 1 BIt := EqB_or (eqB_flat.mono (Nat.zero_le _)) (EqB_or eqB_flats (eqB_dict.mono (Nat.zero_le _)))
end
/-! ### o != v, v of any known kind -/
def rNeA (K : PySem.W.Frag) (C : Addr) (sp : Sp) : R2 := fun x y H Q => ∃ (a dx : Addr) (fs : List (Str × V)) (tb : Value), x = .ref a ∧ H a = some (.ins C dx fs) ∧ TyX K H y tb ∧ PySem.W.notFirst K C tb = true ∧ sp [.ref a, y] H (fun v H' => ∃ t, v = .bl t ∧ Q (.bl (!t)) H') E0
section
variable {X : Cx} {k : Nat} {f C : Addr} {fd : FuncData} {ps : List Str} {sp : Sp}
theorem op_neA (F : FnG X.prog X.w X.K X.mg X.base k f fd ps sp) (hs : PySem.W.findIn X.K (.ref C) "__eq__" = some (some (.ref f))) (hf : PySem.W.isFn X.K (.ref f) = true) (hn : PySem.W.findIn X.K (.ref C) "__ne__" = some (some (.builtin "object.__ne__")))
    (hm : PySem.W.mroIn X.K C (.type "object") = some true) (hb : Binds X.K fd ps []) (hc : Calm X.A) (hr : Room (k + 1) X.A) : OpR X (compareOp .NotEq) (rNeA X.K C sp) := by
  intro pins s σ H x y v u Q I rx ry h
  obtain ⟨a, dx, fs, tb, rfl, ha, ty, nf, hq⟩ := h
  cases rx
  obtain ⟨mA, J, _⟩ := ins_get I.hok ha
  obtain ⟨od, J, _⟩ := J.look
  have one : wpAny (model X.prog X.w) X.A (tryCompare (.ref a) "__ne__" u) (fun r s' => ∃ v, r = some v ∧ EP X pins σ Q v s') X.xe s := by
    unfold tryCompare
    refine wpAny_bind (ifBoundB I.kIn J hn PySem.F.cmp_object.ne.bind (ne_call hr.in1.units0 I.kIn J hm hs hf (thn (run_deep (vs := [.ref a, y]) rfl F hc hr.in1 hb I (.cons rfl (.cons ry .nil)) hq) fun v s' hv => ?_)))
    obtain ⟨z, H', I', rz, t, ez, q⟩ := hv
    subst ez
    cases (show v = Value.bool t from rz)
    exact ⟨t, rfl, wpAny_pure ⟨_, rfl, .bl (!t), H', I', rfl, q⟩⟩
  show wpAny (model X.prog X.w) X.A (richCompare .NotEq (.ref a) u) (EP X pins σ Q) X.xe s
  unfold richCompare
  simp only [oneThing_ref]
  refine wpAny_holding (wpAny_bind (wpAny_cRoomFor hr.units0 ?_))
  refine wpAny_bind (J.type.here (wpAny_bind ((looks_ty I ry ty).here ?_)))
  split
  · rename_i q
    have e : PySem.W.subIn X.K tb (.ref C) = some false := by
      rcases Bool.or_eq_true_iff.mp nf with e | e
      · rw [beq_iff_eq.mp e] at q; simp at q
      · exact beq_iff_eq.mp e
    refine wpAny_bind ((PySem.W.looks_subIn I.kIn e).here ?_)
    simp only [Bool.false_eq_true, if_false]
    refine wpAny_bind (wpAny_mono one (fun r s' z => ?_) fun _ _ e => e)
    obtain ⟨v, rfl, hq⟩ := z
    exact wpAny_pure hq
  · refine wpAny_bind (wpAny_pure ?_)
    simp only [Bool.false_eq_true, if_false]
    refine wpAny_bind (wpAny_mono one (fun r s' z => ?_) fun _ _ e => e)
    obtain ⟨v, rfl, hq⟩ := z
    exact wpAny_pure hq
end
end Ed
set_option Elab.async false
set_option linter.all false
set_option autoImplicit false
set_option maxRecDepth 100000
set_option maxHeartbeats 4000000
namespace K04
open PySem PySem.Spec PyProof.Rows L2 Vb Wd Xd Xo Xi Xm Xr Xv Ts K01 Oq Oi Zt Zk Zs Rl Rd Ed
theorem Kids.tupsZ {H H' : Hp} {c : Addr} {ts : List Addr} {cs : List (Str × Int)} (b : Tups H H') (k : Kids H c ts cs) : Kids H' c ts cs :=
  ⟨b _ _ k.at_, k.len, k.lo, k.hi, fun i t c h1 h2 => let q := k.kid i t c h1 h2; ⟨b _ _ q.at_, q.nam, q.plain, q.lo, q.hi⟩⟩
theorem nam_asc {z : Str} (h : isNam (.str z) = true) : Asc z := fun c hc => by
  have h3 := (nam_len h).2.2
  have := List.all_eq_true.mp h3 c hc
  unfold low at this
  rw [Bool.and_eq_true, decide_eq_true_eq, decide_eq_true_eq] at this
  omega
/-- the sorts of a scheme are plain -/
theorem said_asc {H : Hp} {C CS a : Addr} {b : Str} {ys : List Str} {ds : List FD} (S : SchemeAt H C CS a b ys ds) : ∀ z ∈ ys ++ said ds, Asc z := fun z hz => by
  rcases List.mem_append.mp hz with h | h
  · exact (S.tops.1 z h).2
  · unfold said at h
    obtain ⟨d, hd, h⟩ := List.mem_flatMap.mp h
    rcases List.mem_cons.mp h with rfl | h
    · exact nam_asc (S.nams d hd).2
    · obtain ⟨c, hc, rfl⟩ := List.mem_map.mp h
      obtain ⟨dx, t, bn, nm, f, so, kvs, fs, zs, ha, ht, hn, hf, FF, _⟩ := S.ex
      obtain ⟨i, hi⟩ := List.mem_iff_getElem?.mp hd
      have il := (List.getElem?_eq_some_iff.mp hi).1
      have FL := FF.len
      obtain ⟨ch, ts, FA⟩ := FF.at_ i fs[i] d (List.getElem?_eq_getElem (by omega)) hi
      obtain ⟨j, hj⟩ := List.mem_iff_getElem?.mp hc
      have jl := (List.getElem?_eq_some_iff.mp hj).1
      have kl := FA.kids.len
      exact (FA.kids.kid j ts[j] c (List.getElem?_eq_getElem (by omega)) hj).plain.2
theorem same_none {H H' : Hp} {p : Addr} (s : Same H H') (n : H' p = none) : H p = none := by
  cases e : H p with
  | none => rfl
  | some o =>
    rw [s _ _ e] at n
    cases n
/-! ### the words of a scheme, in order -/
theorem names_one {ds : List FD} {ps : List (FD × Addr)} {zs : List Str} (pm : ds.Perm (ps.map (·.1))) (nd : (ps.map (·.1.1)).Nodup) (srt : sortedS (ds.map (·.1)) = true) (pz : zs.Perm (ps.map (·.1.1))) (sz : sortedS zs = true) : zs = ds.map (·.1) := by
  have e : (ds.map (·.1)).Perm (ps.map (·.1.1)) := by
    have := pm.map (·.1)
    rw [List.map_map] at this
    exact this
  exact pair_uniq (sorted_pair sz (pz.nodup_iff.mpr nd)) (sorted_pair srt (e.nodup_iff.mpr nd)) fun k => (pz.mem_iff).trans e.mem_iff.symm
theorem sorts_one {ys zs : List Str} (h : ∀ k, k ∈ ys ↔ k ∈ zs) (sy : sortedS ys = true) (sz : sortedS zs = true) (ny : ys.Nodup) (nz : zs.Nodup) : ys = zs := pair_uniq (sorted_pair sy ny) (sorted_pair sz nz) h
/-- the row of a form by its name -/
theorem row_at {ds : List FD} {ps : List (FD × Addr)} (pm : ds.Perm (ps.map (·.1))) {i : Nat} {d : FD} (h : ds[i]? = some d) : ∃ p ∈ ps, p.1 = d := by
  obtain ⟨p, hp, e⟩ := List.mem_map.mp (pm.mem_iff.mp (List.mem_of_getElem? h))
  exact ⟨p, hp, e⟩
theorem rowOf_self {rows : List FD} (nd : (rows.map (·.1)).Nodup) {d : FD} (hd : d ∈ rows) : rowOf rows d.1 = d := by
  obtain ⟨h1, h2⟩ := rowOf_mem (List.mem_map.mpr ⟨d, hd, rfl⟩)
  generalize rowOf rows d.1 = r at h1 h2
  induction rows with
  | nil => cases hd
  | cons x l ih =>
    rw [List.map_cons] at nd
    obtain ⟨n1, n2⟩ := List.nodup_cons.mp nd
    rcases List.mem_cons.mp h1 with e1 | m1
    · rcases List.mem_cons.mp hd with e2 | m2
      · rw [e1, e2]
      · exact (n1 (List.mem_map.mpr ⟨d, m2, by rw [← h2, e1]⟩)).elim
    · rcases List.mem_cons.mp hd with e2 | m2
      · exact (n1 (List.mem_map.mpr ⟨r, m1, by rw [h2, e2]⟩)).elim
      · exact ih n2 m2 m1
theorem lines_one {ds : List FD} {ps : List (FD × Addr)} (pm : ds.Perm (ps.map (·.1))) (nd : (ps.map (·.1.1)).Nodup) : (ds.map (·.1)).map (lineOf (ps.map (·.1))) = ds.map lineF := by
  rw [List.map_map]
  refine List.map_congr_left fun d hd => ?_
  have nd' : ((ps.map (·.1)).map (·.1)).Nodup := by rw [List.map_map]; exact nd
  show lineOf (ps.map (·.1)) d.1 = lineF d
  unfold lineOf lineF
  rw [rowOf_self nd' (pm.mem_iff.mp hd)]
theorem tops_line {b : Str} {ts : List Str} (h : b ∈ ts) : Txt.join " " ("tops" :: ts) = "tops " ++ Txt.join " " ts := by
  cases ts with
  | nil => cases h
  | cons y r =>
    rw [TL.join_eq, TL.join_eq]
    show ("tops" : Str) ++ " " ++ Str.join " " (y :: r) = _
    rw [show ("tops" : Str) ++ " " = "tops " from by decide +kernel]
theorem dig_asc : ∀ n < 64, Asc (Str.ofString (toString ((n : Nat) : Int))) := fun n h c hc => by
  have : ∀ n < 64, (Str.ofString (toString ((n : Nat) : Int))).cps.toList.all (· < 128) = true := by decide +kernel
  exact of_decide_eq_true (List.all_eq_true.mp (this n h) c hc)
theorem asc_tell (n m : Nat) (hn : n < 64) (hm : m < 64) : Asc (tellS n m) ∧ (tellS n m).length ≤ 1000 := by
  have t1 := two_signs n hn
  have t2 := two_signs m hm
  have l1 : ("scheme of " : Str).length = 10 := by decide +kernel
  have l2 : (" forms, " : Str).length = 8 := by decide +kernel
  have l3 : (" sorts" : Str).length = 6 := by decide +kernel
  unfold tellS
  refine ⟨asc_app (asc_app (asc_app (asc_app (asc_lit (by decide +kernel)) (dig_asc n hn)) (asc_lit (by decide +kernel))) (dig_asc m hm)) (asc_lit (by decide +kernel)), ?_⟩
  rw [PySem.Str.length_append, PySem.Str.length_append, PySem.Str.length_append, PySem.Str.length_append, l1, l2, l3]
  omega
theorem nam8 {H : Hp} {C CS a : Addr} {b : Str} {ys : List Str} {ds : List FD} (S : SchemeAt H C CS a b ys ds) : ∀ y ∈ ys, isNam (.str y) = true := fun y hy => by
  have h := S.tops.2.2.1
  rw [Bool.and_eq_true] at h
  exact List.all_eq_true.mp h.1 y hy
theorem said_len8' {H : Hp} {C CS a : Addr} {b : Str} {ys : List Str} {ds : List FD} (S : SchemeAt H C CS a b ys ds) : ∀ y ∈ ys, y.length ≤ 8 := fun y hy => (nam_len (nam8 S y hy)).2.1
theorem said_len8 {H : Hp} {C CS a : Addr} {b : Str} {ys : List Str} {ds : List FD} (S : SchemeAt H C CS a b ys ds) : ∀ z ∈ ys ++ said ds, z.length ≤ 1000 := fun z hz => by
  rcases List.mem_append.mp hz with h | h
  · exact (S.tops.1 z h).1
  · unfold said at h
    obtain ⟨d, hd, h⟩ := List.mem_flatMap.mp h
    rcases List.mem_cons.mp h with rfl | h
    · have := (nam_len (S.nams d hd).2).2.1
      omega
    · obtain ⟨c, hc, rfl⟩ := List.mem_map.mp h
      obtain ⟨dx, t, bn, nm, f, so, kvs, fs, zs, ha, ht, hn, hf, FF, _⟩ := S.ex
      obtain ⟨i, hi⟩ := List.mem_iff_getElem?.mp hd
      have il := (List.getElem?_eq_some_iff.mp hi).1
      have FL := FF.len
      obtain ⟨ch, ts, FA⟩ := FF.at_ i fs[i] d (List.getElem?_eq_getElem (by omega)) hi
      obtain ⟨j, hj⟩ := List.mem_iff_getElem?.mp hc
      have jl := (List.getElem?_eq_some_iff.mp hj).1
      have kl := FA.kids.len
      exact (FA.kids.kid j ts[j] c (List.getElem?_eq_getElem (by omega)) hj).plain.1
theorem asc_joinS {ys : List Str} (a : ∀ y ∈ ys, Asc y) : Asc (Txt.join " " ys) := by
  rw [TL.join_eq]
  induction ys with
  | nil => exact asc_lit (by decide +kernel)
  | cons y r ih =>
    cases r with
    | nil => exact a y List.mem_cons_self
    | cons z r => exact asc_app (asc_app (a y List.mem_cons_self) (asc_lit (by decide +kernel))) (ih fun x hx => a x (List.mem_cons_of_mem _ hx))
theorem tops_fine {H : Hp} {C CS a : Addr} {b : Str} {ys : List Str} {ds : List FD} (S : SchemeAt H C CS a b ys ds) : Asc ("tops " ++ Txt.join " " ys) ∧ ("tops " ++ Txt.join " " ys).length ≤ 1000 := by
  refine ⟨asc_app (asc_lit (by decide +kernel)) (asc_joinS fun y hy => (S.tops.1 y hy).2), ?_⟩
  have l5 : ("tops " : Str).length = 5 := by decide +kernel
  have l1 : (" " : Str).length = 1 := by decide +kernel
  rw [PySem.Str.length_append, l5, TL.join_eq]
  have h1 := join_len " " ys
  have h2 := words_sum ys 8 (said_len8' S)
  have h3 := S.tops.2.1
  rw [l1] at h1
  unfold lens at h1
  omega
theorem line_fine {H : Hp} {ch : Addr} {ks : List Addr} {d : FD} (h1 : isNam (.str d.1) = true) (h2 : isNam (.str d.2.1) = true) (k : Kids H ch ks d.2.2) : (lineF d).length ≤ 100 ∧ Asc (lineF d) := by
  have kid : ∀ c ∈ d.2.2, isNam (.str c.1) = true ∧ 0 ≤ c.2 ∧ c.2 ≤ 3 := fun c hc => by
    obtain ⟨j, hj⟩ := List.mem_iff_getElem?.mp hc
    have jl := (List.getElem?_eq_some_iff.mp hj).1
    have kl := k.len
    have kk := k.kid j ks[j] c (List.getElem?_eq_getElem (by omega)) hj
    exact ⟨kk.nam, kk.lo, kk.hi⟩
  have wl : ∀ y ∈ d.2.2.map wordT, y.length ≤ 9 := fun y hy => by
    obtain ⟨c, hc', rfl⟩ := List.mem_map.mp hy
    obtain ⟨k1, k2, k3⟩ := kid c hc'
    unfold wordT
    rw [PySem.Str.length_append, one_sign k2 k3]
    have := (nam_len k1).2.1
    omega
  have sm := words_sum (d.2.2.map wordT) 9 wl
  have l4 : ("form" : Str).length = 4 := by decide +kernel
  have l1 : (" " : Str).length = 1 := by decide +kernel
  have n1 := (nam_len h1).2.1
  have n2 := (nam_len h2).2.1
  have h4 := k.hi
  have kl := k.len
  unfold lineF lineT
  constructor
  · rw [TL.join_eq]
    refine Nat.le_trans (join_len " " _) ?_
    rw [List.length_map] at sm
    unfold lens
    simp only [List.map_cons, List.sum_cons, List.length_cons, List.length_map]
    rw [l4, l1]
    omega
  · refine asc_joinS fun y hy => ?_
    rcases List.mem_cons.mp hy with rfl | hy
    · exact asc_lit (by decide +kernel)
    rcases List.mem_cons.mp hy with rfl | hy
    · exact nam_asc h1
    rcases List.mem_cons.mp hy with rfl | hy
    · exact nam_asc h2
    · obtain ⟨c, hc, rfl⟩ := List.mem_map.mp hy
      obtain ⟨k1, k2, k3⟩ := kid c hc
      refine asc_app (nam_asc k1) ?_
      obtain ⟨m, hm⟩ := nat_of k2
      rw [hm] at k3 ⊢
      exact dig_asc m (by omega)
theorem Held.plain {H : Hp} {a tl tb : Addr} {b : Str} {ts : List Str} {ps : List (FD × Addr)} (X : Held H a tl tb b ts ps) (O : SchOk b ts (ps.map (·.1))) : PlainAt H a tl tb b ts (ps.map (·.1)) (kvsP ps) := by
  have psn : (ps.map (·.1)).map (·.1) = ps.map (·.1.1) := by rw [List.map_map]; rfl
  obtain ⟨bm, ⟨d1, d24⟩, d8, once, kinds⟩ := O.parts
  have nd : (ps.map (·.1.1)).Nodup := by rw [← psn]; exact once
  obtain ⟨fy, ly, ny⟩ := O.tops
  refine ⟨X.at_, X.tops, X.dict, ?_, fun r hr => ?_, by omega, O.nams, (fy b bm).1, ⟨ly, fun y hy => (fy y hy).1⟩, ?_⟩
  · rw [kvsP_keys, List.map_map, List.map_map]
    rfl
  · obtain ⟨p, hp, rfl⟩ := List.mem_map.mp hr
    obtain ⟨ch, ks, e, k⟩ := X.row p hp
    exact ⟨p.2, ch, ks, kvsP_val nd hp, e, k⟩
  · rw [TL.join_eq]
    have h1 := join_len " " ts
    have h2 := words_sum ts 1000 fun y hy => (fy y hy).1
    have l1 : (" " : Str).length = 1 := by decide +kernel
    rw [l1] at h1
    unfold lens at h1
    omega
/-! ### what stays while dice roll -/
def Keep (H H' : Hp) : Prop := ∀ b o, (∀ g s c, o ≠ dz g s c) → (∀ ps, o ≠ .tbl ps) → H b = some o → H' b = some o
theorem Keep.same {H H' : Hp} (s : Same H H') : Keep H H' := fun b o _ _ h => s b o h
theorem Keep.past {d : Addr} {H H' : Hp} (hd : Dice H d) (p : Past d H H') : Keep H H' := fun b o n _ h => p.1 _ _ (ne_dice hd h n) h
theorem Keep.trans {H H1 H2 : Hp} (a : Keep H H1) (b : Keep H1 H2) : Keep H H2 := fun x o n t h => b x o n t (a x o n t h)
theorem Keep.refl (H : Hp) : Keep H H := fun _ _ _ _ h => h
theorem Keep.tup {H H' : Hp} (k : Keep H H') {b : Addr} {xs : List V} (h : H b = some (.tup xs)) : H' b = some (.tup xs) := k _ _ (fun _ _ _ z => nomatch z) (fun _ z => nomatch z) h
theorem Keep.ins {H H' : Hp} (k : Keep H H') {b C dx : Addr} {fs : List (Str × V)} (h : H b = some (.ins C dx fs)) : H' b = some (.ins C dx fs) := k _ _ (fun _ _ _ z => nomatch z) (fun _ z => nomatch z) h
theorem Keep.dk {H H' : Hp} (k : Keep H H') {b : Addr} {kvs : List (L2.Key × V)} (h : H b = some (.dK kvs)) : H' b = some (.dK kvs) := k _ _ (fun _ _ _ z => nomatch z) (fun _ z => nomatch z) h
theorem Keep.strs {H H' : Hp} (k : Keep H H') {b : Addr} {ys : List Str} (h : H b = some (.lst (ys.map V.str))) : H' b = some (.lst (ys.map V.str)) := k _ _ (fun g s c z => by
  cases ys with
  | nil => cases z
  | cons y r => cases z) (fun _ z => nomatch z) h
theorem Keep.tups {H H' : Hp} (k : Keep H H') : Tups H H' := fun b xs h => k.tup h
theorem Kids.keep {H H' : Hp} {c : Addr} {ts : List Addr} {cs : List (Str × Int)} (b : Keep H H') (k : Kids H c ts cs) : Kids H' c ts cs := k.tups b.tups
theorem FormAt.keep {H H' : Hp} {C a ch : Addr} {n so : Str} {ts : List Addr} {cs : List (Str × Int)} (s : Keep H H') (f : FormAt H C a ch n so ts cs) : FormAt H' C a ch n so ts cs := by
  obtain ⟨⟨dx, e⟩, k⟩ := f
  exact ⟨⟨dx, s.ins e⟩, k.keep s⟩
theorem SchemeAt.keep {H H' : Hp} {C CS a : Addr} {b : Str} {ys : List Str} {ds : List FD} (s : Keep H H') (S : SchemeAt H C CS a b ys ds) : SchemeAt H' C CS a b ys ds := by
  obtain ⟨⟨dx, t, bn, nm, f, so, kvs, fs, zs, ha, ht, hn, hf, FF, hb, hv, hs, mz, srt, nd⟩, q2, q3, q4, q5, q6, q7⟩ := S
  exact ⟨⟨dx, t, bn, nm, f, so, kvs, fs, zs, s.ins ha, s.tup ht, s.tup hn, s.tup hf, ⟨FF.len, fun i x d h1 h2 => by
    obtain ⟨ch, ts, FA⟩ := FF.at_ i x d h1 h2
    exact ⟨ch, ts, FA.keep s⟩⟩, s.dk hb, hv, s.tup hs, mz, srt, nd⟩, q2, q3, q4, q5, q6, q7⟩
theorem Held.keep {H H' : Hp} {a tl tb : Addr} {b : Str} {ts : List Str} {ps : List (FD × Addr)} (s : Keep H H') (X : Held H a tl tb b ts ps) : Held H' a tl tb b ts ps :=
  ⟨s _ _ (fun _ _ _ z => by cases z) (fun _ z => nomatch z) X.at_, s.strs X.tops, s.dk X.dict, fun p hp => by
    obtain ⟨ch, ks, e, k⟩ := X.row p hp
    exact ⟨ch, ks, s.tup e, k.keep s⟩⟩
theorem cut_takeG {α : Type} (f : α → V) (zs : List α) (m : Nat) : cutV (zs.map f) none (some (m : Int)) = (zs.take m).map f := by
  unfold cutV
  rw [HT.sIx_none, HT.sIx_nat]
  rw [List.drop_zero, Nat.sub_zero, List.length_map, ← List.map_take]
  by_cases h : m ≤ zs.length
  · rw [Nat.min_eq_left h]
  · rw [Nat.min_eq_right (by omega), List.take_of_length_le (Nat.le_refl _), List.take_of_length_le (by omega)]
theorem cut_dropG {α : Type} (f : α → V) (ws : List α) (m : Nat) : cutV (ws.map f) (some ((m : Int) + 1)) none = (ws.drop (m + 1)).map f := by
  unfold cutV
  have e : HT.sIx (ws.map f).length 0 (some ((m : Int) + 1)) = min (m + 1) (ws.map f).length := HT.sIx_nat _ _ (m + 1)
  rw [e, HT.sIx_none, List.length_map]
  by_cases h : ws.length ≤ m + 1
  · rw [Nat.min_eq_right h, List.drop_of_length_le (by rw [List.length_map]; exact Nat.le_refl _), List.drop_of_length_le h, List.take_nil]
    rfl
  · rw [Nat.min_eq_left (by omega), List.take_of_length_le (by rw [List.length_drop, List.length_map]; exact Nat.le_refl _), List.map_drop]
theorem catA_new {K : PySem.W.Frag} {a b : Addr} {xs ys : List V} {H : Hp} {Q : VK} (ha : H a = some (.tup xs)) (hb : H b = some (.tup ys)) (l : xs.length + ys.length ≤ sizeLine) (h : ∀ r H', Same H H' → H' r = some (.tup (xs ++ ys)) → Q (.ref r) H') : rCatA K (.ref a) (.ref b) H Q := by
  refine ⟨a, b, xs, ys, rfl, rfl, .inl (.inl ha), .inl (.inl hb), l, fun e => ?_, fun _ e => ?_, fun _ _ p np => h p _ (same_new np) upd_same⟩
  · subst e
    exact h b H (Same.refl H) hb
  · subst e
    exact h a H (Same.refl H) (by rw [List.append_nil]; exact ha)
/-- a form made anew -/
theorem made_form {K : PySem.W.Frag} {C x dx : Addr} {H1 : Hp} {R : VK} {E : XK} {n so : Str} {ch : Addr} {ks : List Addr} {cs : List (Str × Int)} (hn : isNam (.str n) = true) (hso : isNam (.str so) = true) (k : Kids H1 ch ks cs) (nx : H1 x = none) (ndx : H1 dx = none) (ne : dx ≠ x) (h : ∀ H', Same H1 H' → FormAt H' C x ch n so ks cs → R .non H') :
    spInit K C [.ref x, .str n, .str so, .ref ch] (upd (upd H1 dx (.own x)) x (.ins C dx [])) R E := by
  have c1 := (nam_len hn).2.1
  have c2 := (nam_len hso).2.1
  have s2 := (same_new (o := .own x) ndx).trans (same_new (o := .ins C dx []) (by rw [upd_ne ne.symm]; exact nx))
  refine ⟨x, dx, ch, n, so, ks, cs, rfl, upd_same, ⟨hn, by omega, nam_asc hn⟩, ⟨hso, by omega, nam_asc hso⟩, k.same s2, fun H' s' => ?_⟩
  generalize eH3 : upd H' x (.ins C dx (flds n so ch)) = H3
  have x3 : H3 x = some (.ins C dx (flds n so ch)) := by rw [← eH3]; exact upd_same
  have s13 : Same H1 H3 := fun b' o' h' => by
    have bx : b' ≠ x := ne_of_none h' nx
    rw [← eH3, upd_ne bx]
    exact s' _ _ (s2 _ _ h')
  exact h H3 s13 ⟨⟨dx, x3⟩, k.same s13⟩
theorem SchOk.of {b : Str} {ts : List Str} {rows : List FD} (bm : b ∈ ts) (d1 : 1 ≤ rows.length) (d24 : rows.length ≤ 24) (d8 : (dd (ts ++ said rows)).length ≤ 8) (once : (rows.map (·.1)).Nodup) (kinds : (rows.map (·.2)).Nodup) (nams : ∀ r ∈ rows, isNam (.str r.1) = true ∧ isNam (.str r.2.1) = true)
    (tops : (∀ y ∈ ts, Fine y) ∧ ts.length ≤ 60 ∧ (ts.all nam && asc ts) = true) : SchOk b ts rows := by
  refine ⟨?_, nams, tops⟩
  rw [schB_some, inV_mem bm, decide_eq_true d1, decide_eq_true d24, decide_eq_true d8, decide_eq_true once, decide_eq_true kinds]
  rfl
theorem SchOk.bare {b b' : Str} {ts : List Str} {rows : List FD} (S : SchOk b ts rows) (h : b' ∈ ts) : SchOk b' ts rows := by
  obtain ⟨_, ⟨d1, d24⟩, d8, once, kinds⟩ := S.parts
  exact SchOk.of h d1 d24 d8 once kinds S.nams S.tops
/-- the sorts that are said are names -/
theorem said_nam {rows : List FD} (nams : ∀ r ∈ rows, isNam (.str r.2.1) = true) (kids : ∀ r ∈ rows, ∀ c ∈ r.2.2, isNam (.str c.1) = true) : ∀ z ∈ said rows, isNam (.str z) = true := fun z hz => by
  unfold said at hz
  obtain ⟨r, hr, h⟩ := List.mem_flatMap.mp hz
  rcases List.mem_cons.mp h with rfl | h
  · exact nams r hr
  · obtain ⟨c, hc, rfl⟩ := List.mem_map.mp h
    exact kids r hr c hc
theorem Held.kids {H : Hp} {a tl tb : Addr} {b : Str} {ts : List Str} {ps : List (FD × Addr)} (X : Held H a tl tb b ts ps) : ∀ r ∈ ps.map (·.1), ∀ c ∈ r.2.2, isNam (.str c.1) = true := fun r hr c hc => by
  obtain ⟨p, hp, rfl⟩ := List.mem_map.mp hr
  obtain ⟨ch, ks, _, k⟩ := X.row p hp
  obtain ⟨j, hj⟩ := List.mem_iff_getElem?.mp hc
  have jl := (List.getElem?_eq_some_iff.mp hj).1
  have kl := k.len
  exact (k.kid j ks[j] c (List.getElem?_eq_getElem (by omega)) hj).nam
theorem dd_len_le {l m : List Str} (h : ∀ k ∈ l, k ∈ m) : (dd l).length ≤ (dd m).length := nodup_len _ _ (nodup_dd l) fun k hk => (mem_dd m k).mpr (h k ((mem_dd l k).mp hk))
/-- other tops: some more of the sorts -/
theorem SchOk.tops' {b : Str} {ts ts' : List Str} {rows : List FD} (S : SchOk b ts rows) (kids : ∀ r ∈ rows, ∀ c ∈ r.2.2, isNam (.str c.1) = true) {x : Str} (hx : x ∈ ts ++ said rows) (mem : ∀ k, k ∈ ts' ↔ k ∈ ts ++ [x]) (srt : sortedS ts' = true) (nd : ts'.Nodup) : SchOk b ts' rows := by
  obtain ⟨bm, ⟨d1, d24⟩, d8, once, kinds⟩ := S.parts
  obtain ⟨fy, ly, ny⟩ := S.tops
  rw [Bool.and_eq_true] at ny
  have sub : ∀ k ∈ ts', k ∈ ts ++ said rows := fun k hk => by
    rcases List.mem_append.mp ((mem k).mp hk) with h | h
    · exact List.mem_append_left _ h
    · rw [List.mem_singleton.mp h]
      exact hx
  have namS : ∀ k ∈ ts ++ said rows, isNam (.str k) = true := fun k hk => by
    rcases List.mem_append.mp hk with h | h
    · exact List.all_eq_true.mp ny.1 k h
    · exact said_nam (fun r hr => (S.nams r hr).2) kids k h
  have l8 : ts'.length ≤ 8 := Nat.le_trans (nodup_len ts' _ nd fun k hk => (mem_dd _ k).mpr (sub k hk)) d8
  refine SchOk.of ((mem b).mpr (List.mem_append_left _ bm)) d1 d24 (Nat.le_trans (dd_len_le fun k hk => ?_) d8) once kinds S.nams ⟨fun y hy => ?_, by omega, ?_⟩
  · rcases List.mem_append.mp hk with h | h
    · exact sub k h
    · exact List.mem_append_right _ h
  · have h := namS y (sub y hy)
    have := (nam_len h).2.1
    exact ⟨by omega, nam_asc h⟩
  · rw [Bool.and_eq_true]
    exact ⟨List.all_eq_true.mpr fun y hy => namS y (sub y hy), pair_asc (sorted_pair srt nd)⟩
/-- a form less -/
theorem SchOk.less {b : Str} {ts : List Str} {rows rows' : List FD} (S : SchOk b ts rows) (sl : rows'.Sublist rows) (d1 : 1 ≤ rows'.length) : SchOk b ts rows' := by
  obtain ⟨bm, ⟨_, d24⟩, d8, once, kinds⟩ := S.parts
  have := sl.length_le
  refine SchOk.of bm d1 (by omega) (Nat.le_trans (dd_len_le fun k hk => ?_) d8) (once.sublist (sl.map _)) (kinds.sublist (sl.map _)) (fun r hr => S.nams r (sl.subset hr)) S.tops
  rcases List.mem_append.mp hk with h | h
  · exact List.mem_append_left _ h
  · unfold said at h ⊢
    obtain ⟨r, hr, h⟩ := List.mem_flatMap.mp h
    exact List.mem_append_right _ (List.mem_flatMap.mpr ⟨r, sl.subset hr, h⟩)
/-- the rows but the one of that name -/
def butN (ps : List (FD × Addr)) (n : Str) : List (FD × Addr) := ps.filter fun p => decide (p.1.1 ≠ n)
theorem kvsP_drop (ps : List (FD × Addr)) (n : Str) : dropK (kvsP ps) (Sum.inr n) = kvsP (butN ps n) := by
  unfold dropK kvsP butN
  rw [List.filter_map]
  congr 1
  refine List.filter_congr fun p _ => ?_
  show decide (¬ (Sum.inr p.1.1 : L2.Key) = Sum.inr n) = decide (¬ p.1.1 = n)
  rw [Bool.eq_iff_iff, decide_eq_true_eq, decide_eq_true_eq]
  exact ⟨fun h e => h (congrArg Sum.inr e), fun h e => h (Sum.inr.inj e)⟩
theorem butN_len {ps : List (FD × Addr)} (nd : (ps.map (·.1.1)).Nodup) {p : FD × Addr} (hp : p ∈ ps) : (butN ps p.1.1).length + 1 = ps.length := by
  induction ps with
  | nil => cases hp
  | cons x l ih =>
    rw [List.map_cons] at nd
    obtain ⟨n1, n2⟩ := List.nodup_cons.mp nd
    unfold butN at ih ⊢
    rw [List.filter_cons]
    rcases List.mem_cons.mp hp with rfl | hp
    · rw [if_neg (by simp)]
      have : l.filter (fun q => decide (q.1.1 ≠ p.1.1)) = l := List.filter_eq_self.mpr fun q hq => decide_eq_true fun z => n1 (List.mem_map.mpr ⟨q, hq, z⟩)
      rw [this, List.length_cons]
    · rw [if_pos (decide_eq_true (p := x.1.1 ≠ p.1.1) fun z => n1 (List.mem_map.mpr ⟨p, hp, z.symm⟩)), List.length_cons, List.length_cons, ih n2 hp]
/-- two schemes of the same rows tell the same forms -/
theorem forms_one {ds ds' rows : List FD} (p : ds.Perm rows) (p' : ds'.Perm rows) (s : sortedS (ds.map (·.1)) = true) (s' : sortedS (ds'.map (·.1)) = true) (nd : (rows.map (·.1)).Nodup) : ds' = ds := by
  have n1 : (ds.map (·.1)).Nodup := (p.map (·.1)).nodup_iff.mpr nd
  have n2 : (ds'.map (·.1)).Nodup := (p'.map (·.1)).nodup_iff.mpr nd
  have e : ds'.map (·.1) = ds.map (·.1) := pair_uniq (sorted_pair s' n2) (sorted_pair s n1) fun k => ((p'.map (·.1)).mem_iff).trans (p.map (·.1)).mem_iff.symm
  have f : ∀ {l : List FD}, l.Perm rows → (l.map (·.1)).map (rowOf rows) = l := fun {l} q => by
    rw [List.map_map]
    have : l.map (rowOf rows ∘ fun d => d.1) = l.map id := List.map_congr_left fun d hd => rowOf_self nd (q.mem_iff.mp hd)
    rw [this, List.map_id]
  rw [← f p', e, f p]
/-- dict(pairs) of a dict's own pairs -/
theorem merge_self (ps : List (FD × Addr)) (nd : (ps.map (·.1.1)).Nodup) : mergeK [] (kvsP ps) = kvsP ps := by
  have go : ∀ (l done : List (FD × Addr)), ((done ++ l).map (·.1.1)).Nodup → mergeK (kvsP done) (kvsP l) = kvsP (done ++ l) := fun l => by
    induction l with
    | nil =>
      intro done _
      rw [List.append_nil]
      rfl
    | cons p l ih =>
      intro done h
      have e : putK (kvsP done) (Sum.inr p.1.1) (V.ref p.2) = kvsP (done ++ [p]) := kvsP_put fun hm => by
        rw [List.map_append, List.map_cons] at h
        obtain ⟨_, _, h3⟩ := List.nodup_append.mp h
        exact h3 _ hm _ List.mem_cons_self rfl
      have h' : ((done ++ [p]) ++ l).map (·.1.1) = (done ++ p :: l).map (·.1.1) := by rw [List.append_assoc]; rfl
      have := ih (done ++ [p]) (by rw [h']; exact h)
      rw [List.append_assoc] at this
      show mergeK (putK (kvsP done) (Sum.inr p.1.1) (V.ref p.2)) (kvsP l) = _
      rw [e, this]
      rfl
  exact go ps [] nd
/-- lists of texts, compared -/
theorem strs_dec {H : Hp} {p q : Addr} {xs ys : List Str} (h1 : H p = some (.lst (xs.map V.str))) (h2 : H q = some (.lst (ys.map V.str))) : BList BFlat false (.ref p) (.ref q) (decide (xs = ys)) H := by
  refine ⟨p, q, _, _, allE xs ys, rfl, rfl, h1, h2, fun i x y hx hy => ?_, ?_⟩
  · rw [List.getElem?_map] at hx hy
    obtain ⟨u, hu, rfl⟩ := Option.map_eq_some_iff.mp hx
    obtain ⟨v, hv, rfl⟩ := Option.map_eq_some_iff.mp hy
    refine ⟨rfl, rfl, ?_⟩
    unfold allE
    rw [hu, hv]
    by_cases e : u = v <;> simp [eqV, e]
  · rw [List.length_map, List.length_map, all_at, Bool.false_xor]
theorem SchOk.perm {b : Str} {ts : List Str} {rows rows' : List FD} (S : SchOk b ts rows) (p : rows'.Perm rows) : SchOk b ts rows' := by
  obtain ⟨bm, ⟨d1, d24⟩, d8, once, kinds⟩ := S.parts
  have l := p.length_eq
  refine SchOk.of bm (by omega) (by omega) (Nat.le_trans (dd_len_le fun k hk => ?_) d8) ((p.map _).nodup_iff.mpr once) ((p.map _).nodup_iff.mpr kinds) (fun r hr => S.nams r (p.mem_iff.mp hr)) S.tops
  rcases List.mem_append.mp hk with h | h
  · exact List.mem_append_left _ h
  · exact List.mem_append_right _ ((said_perm p k).mp h)
end K04
set_option Elab.async false
set_option linter.all false
set_option autoImplicit false
set_option maxRecDepth 100000
set_option maxHeartbeats 8000000
namespace K04
open PySem PySem.Spec PyProof.Rows L2 Vb Wd Xd Xo Xe Xi Xm Xr Xq Xv Ts K01 Oq Oi Zt Zk Zs Rl Rd Ed Nc Nd Lv
/-- the lines of a scheme -/
def linesF (b : Str) (ts : List Str) (ds : List FD) : List Str := ("bare " ++ b) :: ("tops " ++ Txt.join " " ts) :: ds.map lineF
theorem lines_asc {H : Hp} {C CS a : Addr} {b : Str} {ts : List Str} {ds : List FD} (S : SchemeAt H C CS a b ts ds) : ∀ y ∈ linesF b ts ds, Asc y := fun y hy => by
  have bm := S.tops.2.2.2
  obtain ⟨dx, t, bn, nm, f, so, kvs, fs, zs, ha, ht, hn, hf, FF, _⟩ := S.ex
  rcases List.mem_cons.mp hy with rfl | hy
  · exact asc_app (asc_lit (by decide +kernel)) (S.tops.1 b bm).2
  rcases List.mem_cons.mp hy with rfl | hy
  · exact (tops_fine S).1
  · obtain ⟨d, hd, rfl⟩ := List.mem_map.mp hy
    obtain ⟨i, hi⟩ := List.mem_iff_getElem?.mp hd
    have il := (List.getElem?_eq_some_iff.mp hi).1
    have fl := FF.len
    obtain ⟨ch, ks, FA⟩ := FF.at_ i fs[i] d (List.getElem?_eq_getElem (by omega)) hi
    exact (line_fine (S.nams d hd).1 (S.nams d hd).2 FA.kids).2
/-- what scheme.lines is asked with -/
theorem ask_lines {H : Hp} {C CS a : Addr} {b : Str} {ts : List Str} {ds : List FD} {Q : VK} {E : XK} (S : SchemeAt H C CS a b ts ds) (q : ∀ (p : Addr) (H' : Hp), Same H H' → H' p = some (.tup ((linesF b ts ds).map V.str)) → Q (.ref p) H') : spLinesS C CS [.ref a] H Q E := by
  have bm := S.tops.2.2.2
  have t8 := said_len8' S
  obtain ⟨dx, t, bn, nm, f, so, kvs, fs, zs, ha, ht, hn, hf, FF, _⟩ := S.ex
  have fl := FF.len
  have few := S.few.2
  refine ⟨a, dx, t, bn, nm, f, so, b, ts, fs, ds, rfl, ha, ht, hf, FF, Nat.le_trans (t8 b bm) (by decide), S.tops.2.1, fun y hy => Nat.le_trans (t8 y hy) (by decide), by omega, fun d hd => ?_, fun p H' s e => q p H' s ?_⟩
  · have h1 := (nam_len (S.nams d hd).1).2.1
    have h2 := (nam_len (S.nams d hd).2).2.1
    exact ⟨by omega, by omega⟩
  · rw [tops_line bm] at e
    exact e
/-- the lines by the words -/
theorem words_at {H H' : Hp} {C CS sc p : Addr} {b : Str} {ts ys : List Str} {ps : List (FD × Addr)} {ds : List FD} (O : SchOk b ts (ps.map (·.1))) (S : SchemeAt H C CS sc b ts ds) (pm : ds.Perm (ps.map (·.1)))
    (e : H' p = some (.lst (("bare " ++ b) :: ("tops " ++ Txt.join " " ts) :: ys.map (lineOf (ps.map (·.1))) |>.map V.str))) (py : ys.Perm ((ps.map (·.1)).map (·.1))) (sy : sortedS ys = true) : H' p = some (.lst ((linesF b ts ds).map V.str)) := by
  have psn : (ps.map (·.1)).map (·.1) = ps.map (·.1.1) := by rw [List.map_map]; rfl
  have nd : (ps.map (·.1.1)).Nodup := by rw [← psn]; exact O.parts.2.2.2.1
  have ey := names_one pm nd S.srt (by rw [List.map_map] at py; exact py) sy
  subst ey
  rw [lines_one pm nd] at e
  exact e
/-- == of schemes -/
structure EqS (P : Program) (w : World) (K : PySem.W.Frag) (mg : Str → Option Value) (base : Heap) (C CS : Addr) : Prop where
  eq : ∃ (f : Addr) (fd : FuncData), FnG P w K mg base 5 f fd ["self", "other"] (spEqS K C CS) ∧ PySem.W.findIn K (.ref CS) "__eq__" = some (some (.ref f)) ∧ PySem.W.isFn K (.ref f) = true ∧ Binds K fd ["self", "other"] []
  ne : PySem.W.findIn K (.ref CS) "__ne__" = some (some (.builtin "object.__ne__"))
  mo : PySem.W.mroIn K CS (.type "object") = some true
/-- a scheme compared with one that says the same -/
theorem eq_same {K : PySem.W.Frag} {C CS x y : Addr} {b : Str} {ys : List Str} {ds : List FD} {H : Hp} {Q : VK} {E : XK} (S : SchemeAt H C CS x b ys ds) (S' : SchemeAt H C CS y b ys ds) (q : ∀ H', Same H H' → Q (.bl true) H') : spEqS K C CS [.ref x, .ref y] H Q E := by
  refine ⟨x, b, ys, ds, .ref y, rfl, S, .inr ⟨y, b, ys, ds, rfl, S', fun H' s' => ?_⟩⟩
  rw [decide_eq_true rfl, decide_eq_true rfl, decide_eq_true rfl]
  exact q H' s'
theorem SchemeAt.ins {H : Hp} {C CS a : Addr} {b : Str} {ys : List Str} {ds : List FD} (S : SchemeAt H C CS a b ys ds) : ∃ dx fs, H a = some (.ins CS dx fs) := by
  obtain ⟨dx, t, bn, nm, f, so, kvs, fs, zs, ha, _⟩ := S.ex
  exact ⟨dx, _, ha⟩
abbrev s_l_is_due : Stmt := topS 51
theorem sc_l_is_due : FnScope ["_law_told_here", "_law_due"] ["_law_told_here", "_law_due"] (defScope s_l_is_due) := ⟨rfl, rfl, rfl, by decide +kernel, rfl, by decide +kernel, by decide +kernel⟩
def spDue (C CS : Addr) : Sp := fun vs H Q _ => (∃ z : Str, vs = [.str z, .str z] ∧ ∀ H', Same H H' → Q (.bl true) H') ∨
  ∃ (sc a tl tb : Addr) (b : Str) (ts : List Str) (ps : List (FD × Addr)) (ds : List FD), vs = [.ref sc, .ref a] ∧ SchemeAt H C CS sc b ts ds ∧ Held H a tl tb b ts ps ∧ SchOk b ts (ps.map (·.1)) ∧ ds.Perm (ps.map (·.1)) ∧ ∀ H', Same H H' → Q (.bl true) H'
section
variable {P : Program} {w : World} {K : PySem.W.Frag} {mg : Str → Option Value} {base : Heap} {C CS CI : Addr}
theorem ok_l_is_due (D : Df K mg "_law_is_due" s_l_is_due ["_law_told_here", "_law_due"]) (VS : EnvS P w K mg base C CS CI) (TIS : FormI K CS) (M : EqS P w K mg base C CS) (noS : PySem.W.kitOne K (.ref CS) (.type "str") = some false) (ML : ∃ (p g : Addr) (fd : FuncData), PropOf K CS "lines" p g ∧ FnG P w K mg base 4 g fd ["self"] (spLinesS C CS) ∧ Binds K fd ["self"] [])
    (G_l_made_scheme : Cg P w K mg base 8 "_law_made_scheme" (spMS C CS)) (G_l_scheme_lines : Cg P w K mg base 1 "_law_scheme_lines" spSL) (z_list : mg "list" = none) (z_isinstance : mg "isinstance" = none) (z_str : mg "str" = none) : Cg P w K mg base 9 "_law_is_due" (spDue C CS) := by
  obtain ⟨fQ, fdQ, FQ, eQ, tQ, bQ⟩ := M.eq
  obtain ⟨p6, g6, fd6, o6, G6, b6⟩ := ML
  refine D.ok sc_l_is_due (fun vs H Q E h => ?_) (fun cdv A outer s H vs Q E f0 hc hr h => ?_)
  · rcases h with ⟨z, rfl, _⟩ | ⟨sc, a, tl, tb, b, ts, ps, ds, rfl, _⟩ <;> rfl
  · refine ⟨_, (pss_cons (ps_if (PW.pt (pw_or (pt_val (pe_callB call_isi (by rfl) z_isinstance (by decide +kernel) (pa_cons (pv 1) (pa_cons (pe_bltn (v := .ty "str") (by rfl) z_str (by decide +kernel) rfl) pa_nil)))) (pw_or1 (pt_not (pt_val (pe_callB call_isi (by rfl) z_isinstance (by decide +kernel) (pa_cons (pv 0) (pa_cons (pe_glob (v := .ref CS) (by rfl) VS.g rfl) pa_nil))))))))
      (pss_one (ps_ret (pe_and (pe_callB call_isi (by rfl) z_isinstance (by decide +kernel) (pa_cons (pv 1) (pa_cons (pe_bltn (v := .ty "str") (by rfl) z_str (by decide +kernel) rfl) pa_nil))) (pe_and (pe_callB call_isi (by rfl) z_isinstance (by decide +kernel) (pa_cons (pv 0) (pa_cons (pe_bltn (v := .ty "str") (by rfl) z_str (by decide +kernel) rfl) pa_nil))) (pe_one (pe_cmpR op_eq (pv 0) (pv 1) (nomark _)))))))
      pss_nil)
      (pss_one (ps_ret (pe_and (pe_cmpR (op_eqO FQ eQ tQ bQ hc (hr.mono (by decide))) (pv 0) (pe_cg G_l_made_scheme hc hr (by rfl) (pa_cons (pv 1) pa_nil)) (nomark _)) (pe_one (pe_cmpR (op_eqD hr.units) (pe_callTy call_list_of (by rfl) z_list (by decide +kernel) (pa_cons (pe_propG (n := "lines") (pv 0) VS.T.c o6 G6 hc (hr.mono (by decide)) b6) pa_nil)) (pe_cg G_l_scheme_lines hc hr (by rfl) (pa_cons (pv 1) pa_nil)) (nomark _))))))), ?_⟩
    rcases h with ⟨z, rfl, q⟩ | ⟨sc, a, tl, tb, b, ts, ps, ds, rfl, S, X, O, pm, q⟩
    · refine ⟨_, rfl, _, _, _, _, true, rfl, .ty _, .base (.str z), kit_ty ki_ss, _, rfl, iteT ?_⟩
      refine iteT ⟨_, rfl, _, _, _, _, true, rfl, .ty _, .base (.str z), kit_ty ki_ss, _, rfl, iteT ⟨_, rfl, _, _, _, _, true, rfl, .ty _, .base (.str z), kit_ty ki_ss, _, rfl, iteT ⟨_, rfl, _, rfl, ?_⟩⟩⟩
      exact ⟨rfl, by rw [decide_eq_true rfl]; exact q H (Same.refl H)⟩
    · obtain ⟨dx, fs, ha⟩ := S.ins
      refine ⟨_, rfl, _, _, _, _, false, rfl, .ty _, .base (.lst X.at_), kit_ty (by decide +kernel), _, rfl, iteF ?_⟩
      refine ⟨_, rfl, _, _, _, _, true, rfl, .own CS, .base (.ins ha VS.T.c TIS.ca TIS.sp TIS.tk TIS.mo), TIS.yes, _, rfl, iteF ?_⟩
      refine ⟨_, rfl, _, rfl, a, tl, tb, b, ts, ps, rfl, X, O, fun mk dm H8 s8 Sm pmm => ?_⟩
      have S8 := S.same s8
      have em : dm = ds := forms_one pm pmm S8.srt Sm.srt O.parts.2.2.2.1
      rw [em] at Sm
      obtain ⟨dx8, fs8, i8⟩ := S8.ins
      obtain ⟨dx9, fs9, i9⟩ := Sm.ins
      refine ⟨sc, mk, dx8, dx9, _, _, rfl, rfl, i8, i9, eq_same S8 Sm fun H9 s9 => ⟨_, rfl, _, rfl, iteT ?_⟩⟩
      have s79 := s8.trans s9
      have S9 := S.same s79
      obtain ⟨dxa, fsa, ia⟩ := S9.ins
      refine ⟨_, rfl, sc, dxa, _, rfl, ia, ask_lines S9 fun lp2 H10 s10 e10 => ?_⟩
      refine ⟨lp2, _, rfl, .inr (.inl (.inl e10)), fun l11 nl11 => ?_⟩
      have s11 := same_new (o := .lst ((linesF b ts ds).map V.str)) nl11
      have e11 : (upd H10 l11 (.lst ((linesF b ts ds).map V.str))) l11 = some (.lst ((linesF b ts ds).map V.str)) := upd_same
      generalize upd H10 l11 (.lst ((linesF b ts ds).map V.str)) = H11 at s11 e11 ⊢
      have s711 := s79.trans (s10.trans s11)
      refine ⟨_, rfl, a, tl, tb, b, ts, ps.map (·.1), kvsP ps, rfl, (X.same s711).plain O, fun wp2 ys2 H12 s12 np12 e12 py2 sy2 => ?_⟩
      replace e12 := words_at O S9 pm e12 py2 sy2
      have hl2 : Lays 1 (.list ((linesF b ts ds).map .str)) := lays_lst (n := 0) fun x hx => by
        obtain ⟨y, hy, rfl⟩ := List.mem_map.mp hx
        exact lays_str (lines_asc S9 y hy)
      have sh2 := hl2.shaped (by decide)
      refine ⟨_, _, .lst (.inl (.inl (s12 _ _ e11))) (dp_strs _), .lst (.inl (.inl e12)) (dp_strs _), sh2, sh2, ?_⟩
      rw [SeqAt.eqv_refl _ hl2.1]
      exact q _ (s711.trans s12)
end
end K04
set_option Elab.async false
set_option linter.all false
set_option autoImplicit false
set_option maxRecDepth 100000
set_option maxHeartbeats 4000000
namespace K04
open PySem PySem.Spec PyProof.Rows L2 Vb Wd Ts K01 Zt
/-! words of texts that were joined by spaces -/
theorem pre1 (c : Nat) (r : List Nat) : TL.pre [32] (c :: r) = (c == 32) := by
  unfold TL.pre
  show ((c :: r).take 1 == [32]) = _
  rw [List.take_succ_cons, List.take_zero]
  show (c == 32 && ([] : List Nat) == []) = _
  simp
theorem spl_sp : ∀ (a acc b : List Nat), TL.spl [32] 0 acc (a ++ 32 :: b) = TL.spl [32] 0 acc a ++ TL.spl [32] 0 [] b
  | [], acc, b => by
    rw [List.nil_append, TL.spl_hit (by rw [pre1]; rfl), TL.spl_nil]
    rfl
  | c :: r, acc, b => by
    rw [List.cons_append]
    by_cases e : c = 32
    · subst e
      rw [TL.spl_hit (by rw [pre1]; rfl), TL.spl_hit (by rw [pre1]; rfl), List.cons_append]
      exact congrArg (acc :: ·) (spl_sp r [] b)
    · have f : (c == 32) = false := by simp [e]
      rw [TL.spl_miss (by rw [pre1]; exact f), TL.spl_miss (by rw [pre1]; exact f)]
      exact spl_sp r (acc ++ [c]) b
def NoSp (z : Str) : Prop := 32 ∉ TL.tl z
theorem words_cat (a b : Str) : Txt.split (a ++ " " ++ b) " " = Txt.split a " " ++ Txt.split b " " := by
  refine TL.map_tl_inj ?_
  rw [List.map_append, split_spl1, split_spl1, split_spl1, TL.tl_append, TL.tl_append]
  have e : TL.tl (" " : Str) = [32] := by decide +kernel
  rw [e, List.append_assoc]
  exact spl_sp _ _ _
theorem words_one {z : Str} (h : NoSp z) : Txt.split z " " = [z] := by
  refine TL.map_tl_inj ?_
  rw [split_spl1, TL.spl_last1 h]
  rfl
theorem words_join : ∀ (w : Str) (ws : List Str), Txt.split (Txt.join " " (w :: ws)) " " = (w :: ws).flatMap fun y => Txt.split y " "
  | w, [] => by
    rw [TL.join_eq]
    show Txt.split w " " = _
    simp
  | w, x :: ws => by
    have e : Txt.join " " (w :: x :: ws) = w ++ " " ++ Str.join " " (x :: ws) := by
      rw [TL.join_eq]
      rfl
    have ih := words_join x ws
    rw [TL.join_eq] at ih
    rw [e, words_cat, ih]
    rfl
theorem words_sp (z : Str) : ∀ y ∈ Txt.split z " ", NoSp y := by
  have go : ∀ (x : List Nat) (acc : List Nat), 32 ∉ acc → ∀ p ∈ TL.spl [32] 0 acc x, 32 ∉ p := fun x => by
    induction x with
    | nil =>
      intro acc h p hp
      rw [TL.spl_nil] at hp
      cases List.mem_singleton.mp hp
      exact h
    | cons c r ih =>
      intro acc h p hp
      by_cases e : c = 32
      · subst e
        rw [TL.spl_hit (by rw [pre1]; rfl)] at hp
        rcases List.mem_cons.mp hp with rfl | hp
        · exact h
        · exact ih [] (by simp) p hp
      · rw [TL.spl_miss (by rw [pre1]; simp [e])] at hp
        exact ih (acc ++ [c]) (by simp [h, Ne.symm e]) p hp
  intro y hy
  have m : TL.tl y ∈ (Txt.split z " ").map TL.tl := List.mem_map.mpr ⟨y, hy, rfl⟩
  rw [split_spl1] at m
  exact go _ [] (by simp) _ m
/-- joined words that have no space are those words -/
theorem words_back {w : Str} {ws : List Str} (h : ∀ y ∈ w :: ws, NoSp y) : Txt.split (Txt.join " " (w :: ws)) " " = w :: ws := by
  rw [words_join]
  have go : ∀ l : List Str, (∀ y ∈ l, NoSp y) → (l.flatMap fun y => Txt.split y " ") = l := fun l => by
    induction l with
    | nil => intro _; rfl
    | cons x l ih =>
      intro h
      rw [List.flatMap_cons, words_one (h x List.mem_cons_self), ih fun y hy => h y (List.mem_cons_of_mem _ hy)]
      rfl
  exact go _ h
theorem joinS_len : ∀ l : List Str, (Txt.join " " l).length ≤ (l.map fun y => y.length + 1).sum
  | [] => by
    rw [TL.join_eq]
    exact Nat.zero_le _
  | [x] => by
    rw [TL.join_eq]
    show x.length ≤ _
    simp
  | x :: z :: r => by
    have h := joinS_len (z :: r)
    rw [TL.join_eq] at h ⊢
    show (x ++ " " ++ Str.join " " (z :: r)).length ≤ _
    rw [PySem.Str.length_append, PySem.Str.length_append]
    have l1 : (" " : Str).length = 1 := by decide +kernel
    rw [l1]
    simp only [List.map_cons, List.sum_cons] at h ⊢
    omega
/-! the names that words can tell -/
def names14 : List Str := pool ++ (["t", "form", "tops", "bare"] : List Str)
structure GoodW (y : Str) : Prop where
  nam : isNam (.str y) = true → y ∈ names14
  kid : childB y = true → (childV y).1 ∈ names14
  len : y.length ≤ 20
  asc : Asc y
def GoodL (z : Str) : Prop := ∀ y ∈ Txt.split z " ", GoodW y
theorem line_in {v : V} (h : ∀ y ∈ wordsV v, GoodW y) : LineIn names14 (wordsV v) := by
  refine ⟨fun tb y hy => ?_, fun d hd y hy => ?_⟩
  · unfold topsB at tb
    simp only [Bool.and_eq_true, decide_eq_true_eq, List.all_eq_true] at tb
    exact (h y (List.mem_of_mem_drop hy)).nam (tb.2.2.1 y hy)
  · unfold readW at hd
    cases ef : formB (wordsV v) with
    | false =>
      rw [ef] at hd
      cases hd
    | true =>
      rw [ef] at hd
      cases hd
      unfold formB at ef
      simp only [Bool.and_eq_true, decide_eq_true_eq, List.all_eq_true] at ef
      have l5 := ef.1.1.1.1.1
      unfold saidBy at hy
      rcases List.mem_cons.mp hy with rfl | hy
      · exact (h _ (getD_mem (j := 2) (by omega))).nam ef.1.2
      · obtain ⟨c, hc, rfl⟩ := List.mem_map.mp hy
        obtain ⟨x, hx, rfl⟩ := List.mem_map.mp hc
        exact (h x (List.mem_of_mem_drop hx)).kid (ef.2 x hx)
theorem good_pool : ∀ y ∈ pool ++ (["t1", "t", "form", "tops", "bare", "", "b2", "t4", "a", "b", "Q"] : List Str), GoodW y := by
  have nm : (pool ++ (["t1", "t", "form", "tops", "bare", "", "b2", "t4", "a", "b", "Q"] : List Str)).all (fun y => (!isNam (.str y) || decide (y ∈ names14)) && ((!childB y || decide ((childV y).1 ∈ names14)) && (decide (y.length ≤ 20) && y.cps.toList.all fun c => decide (c < 128)))) = true := by decide +kernel
  intro y hy
  have := List.all_eq_true.mp nm y hy
  simp only [Bool.and_eq_true, Bool.or_eq_true, Bool.not_eq_true', decide_eq_true_eq, List.all_eq_true] at this
  obtain ⟨h1, h2, h3, h4⟩ := this
  exact ⟨fun e => h1.resolve_left (by rw [e]; simp), fun e => h2.resolve_left (by rw [e]; simp), h3, fun c hc => h4 c hc⟩
end K04
set_option Elab.async false
set_option linter.all false
set_option autoImplicit false
set_option maxRecDepth 100000
set_option maxHeartbeats 8000000
namespace K04
open PySem PySem.Spec PyProof.Rows L2 Vb Wd Ts K01 Zt
def lens (l : List Str) : Nat := (l.map (·.length)).sum
theorem join_len (y : Str) : ∀ l : List Str, (Str.join y l).length ≤ lens l + l.length * y.length
  | [] => Nat.zero_le _
  | [x] => by
    show x.length ≤ _
    simp [lens]
  | x :: z :: r => by
    have h := join_len y (z :: r)
    show (x ++ y ++ Str.join y (z :: r)).length ≤ _
    rw [PySem.Str.length_append, PySem.Str.length_append]
    simp only [lens, List.map_cons, List.sum_cons, List.length_cons] at h ⊢
    have e : (r.length + 1 + 1) * y.length = (r.length + 1) * y.length + y.length := Nat.succ_mul _ _
    omega
theorem lens_app (a b : List Str) : lens (a ++ b) = lens a + lens b := by
  unfold lens
  rw [List.map_append, List.sum_append]
theorem lens_take : ∀ (l : List Str) (n : Nat), lens (l.take n) ≤ lens l
  | [], n => by rw [List.take_nil]; exact Nat.le_refl _
  | x :: r, 0 => Nat.zero_le _
  | x :: r, n + 1 => by
    have := lens_take r n
    simp only [lens, List.take_succ_cons, List.map_cons, List.sum_cons] at this ⊢
    omega
theorem lens_drop : ∀ (l : List Str) (n : Nat), lens (l.drop n) ≤ lens l
  | [], n => by rw [List.drop_nil]; exact Nat.le_refl _
  | x :: r, 0 => Nat.le_refl _
  | x :: r, n + 1 => by
    have := lens_drop r n
    simp only [lens, List.drop_succ_cons, List.map_cons, List.sum_cons] at this ⊢
    omega
/-- a slice of texts -/
def cutW (l : List Str) (lo hi : Option Int) : List Str := (l.drop (HT.sIx l.length 0 lo)).take (HT.sIx l.length l.length hi - HT.sIx l.length 0 lo)
theorem cutV_str (l : List Str) (lo hi : Option Int) : cutV (l.map V.str) lo hi = (cutW l lo hi).map V.str := by
  unfold cutV cutW
  rw [List.length_map, List.map_take, List.map_drop]
theorem cutW_mem {l : List Str} {lo hi : Option Int} {y : Str} (h : y ∈ cutW l lo hi) : y ∈ l := List.mem_of_mem_drop (List.mem_of_mem_take h)
theorem cutW_len (l : List Str) (lo hi : Option Int) : (cutW l lo hi).length ≤ l.length ∧ lens (cutW l lo hi) ≤ lens l := by
  unfold cutW
  constructor
  · rw [List.length_take, List.length_drop]
    omega
  · exact Nat.le_trans (lens_take _ _) (lens_drop _ _)
theorem asc_joinB {ys : List Str} (a : ∀ y ∈ ys, Asc y) : Asc (Txt.join " " ys) := by
  rw [TL.join_eq]
  have go : ∀ l : List Str, (∀ y ∈ l, Asc y) → Asc (Str.join " " l) := fun l => by
    induction l with
    | nil => exact fun _ c hc => nomatch hc
    | cons x r ih =>
      intro h
      cases r with
      | nil => exact h x List.mem_cons_self
      | cons z r =>
        show Asc (x ++ " " ++ Str.join " " (z :: r))
        exact asc_app (asc_app (h x List.mem_cons_self) (asc_lit (by decide +kernel))) (ih fun y hy => h y (List.mem_cons_of_mem _ hy))
  exact go ys a
/-- a word of which a line may be joined -/
structure GoodX (y : Str) : Prop where
  wd : ∀ u ∈ Txt.split y " ", GoodW u
  len : y.length ≤ 20
  asc : Asc y
  two : (Txt.split y " ").length ≤ 2
theorem GoodW.one {y : Str} (g : GoodW y) (n : NoSp y) : GoodX y := ⟨fun u hu => by
  rw [words_one n] at hu
  cases List.mem_singleton.mp hu
  exact g, g.len, g.asc, by rw [words_one n]; exact Nat.le_succ 1⟩
def ten : List Str := ["t1", "t", "form", "tops", "bare", "", "b2", "t4", "a b", "Q"]
theorem good_ten : ∀ y ∈ ten, GoodX y := by
  have nm : ten.all (fun y => ((Txt.split y " ").all fun u => decide (u ∈ pool ++ (["t1", "t", "form", "tops", "bare", "", "b2", "t4", "a", "b", "Q"] : List Str))) && (decide (y.length ≤ 20) && ((y.cps.toList.all fun c => decide (c < 128)) && decide ((Txt.split y " ").length ≤ 2)))) = true := by decide +kernel
  intro y hy
  have := List.all_eq_true.mp nm y hy
  simp only [Bool.and_eq_true, decide_eq_true_eq, List.all_eq_true] at this
  obtain ⟨h1, h2, h3, h4⟩ := this
  exact ⟨fun u hu => good_pool u (h1 u hu), h2, fun c hc => h3 c hc, h4⟩
/-- a line that may be drawn on -/
structure LineG (z : Str) : Prop where
  wd : ∀ u ∈ Txt.split z " ", GoodW u
  len : z.length ≤ 900
  asc : Asc z
  few : (Txt.split z " ").length ≤ 50
theorem good_nil : GoodW "" := good_pool "" (by simp)
theorem good_join {ws : List Str} (h : ∀ y ∈ ws, GoodX y) (l : ws.length ≤ 20) : LineG (Txt.join " " ws) := by
  have hl : (Txt.join " " ws).length ≤ 900 := by
    have h1 := joinS_len ws
    have h2 : ∀ l : List Str, (∀ y ∈ l, GoodX y) → (l.map fun y => y.length + 1).sum ≤ l.length * 21 := fun l => by
      induction l with
      | nil => intro _; exact Nat.zero_le _
      | cons x l ih =>
        intro h
        have := (h x List.mem_cons_self).len
        have := ih fun y hy => h y (List.mem_cons_of_mem _ hy)
        simp only [List.map_cons, List.sum_cons, List.length_cons]
        omega
    have := h2 ws h
    omega
  have ha : Asc (Txt.join " " ws) := asc_joinB fun y hy => (h y hy).asc
  cases ws with
  | nil =>
    have e : Txt.split (Txt.join " " []) " " = [("" : Str)] := by decide +kernel
    exact ⟨fun u hu => by
      rw [e] at hu
      cases List.mem_singleton.mp hu
      exact good_nil, hl, ha, by rw [e]; decide⟩
  | cons w ws =>
    refine ⟨fun u hu => ?_, hl, ha, ?_⟩
    · rw [words_join] at hu
      obtain ⟨y, hy, hu⟩ := List.mem_flatMap.mp hu
      exact (h y hy).wd u hu
    · rw [words_join]
      have h2 : ∀ l : List Str, (∀ y ∈ l, GoodX y) → (l.flatMap fun y => Txt.split y " ").length ≤ l.length * 2 := fun l => by
        induction l with
        | nil => intro _; exact Nat.zero_le _
        | cons x l ih =>
          intro h
          have := (h x List.mem_cons_self).two
          have := ih fun y hy => h y (List.mem_cons_of_mem _ hy)
          rw [List.flatMap_cons, List.length_append, List.length_cons]
          omega
      have := h2 (w :: ws) h
      omega
/-- a value that may stand among lines -/
structure ValG (H : Hp) (v : V) : Prop where
  jd : Judged H v
  wd : ∀ u ∈ wordsV v, GoodW u
  few : (wordsV v).length ≤ 60
theorem LineG.val {H : Hp} {z : Str} (g : LineG z) : ValG H (.str z) := ⟨⟨Nat.le_trans g.len (by decide), g.asc⟩, g.wd, Nat.le_trans g.few (by decide)⟩
abbrev s_l_other_line : Stmt := topS 49
theorem sc_l_other_line : FnScope ["_law_dice_here", "_law_lines", "_law_words", "_law_way", "_law_at", "_law_word", "_law_odd"] ["_law_dice_here", "_law_lines"] (defScope s_l_other_line) := ⟨rfl, rfl, rfl, by decide +kernel, rfl, by decide +kernel, by decide +kernel⟩
def spOther : Sp := fun vs H Q _ => ∃ (d l : Addr) (zs : List Str), vs = [.ref d, .ref l] ∧ Dice H d ∧ H l = some (.lst (zs.map V.str)) ∧ l ≠ d ∧ zs ≠ [] ∧ zs.length ≤ 60 ∧ (∀ z ∈ zs, LineG z ∧ (Txt.split z " ").length ≤ 9) ∧ ∀ v H', Past d H H' → ValG H' v → Q v H'
section
variable {P : Program} {w : World} {K : PySem.W.Frag} {mg : Str → Option Value} {base : Heap}
theorem ok_l_other_line (D : Df K mg "_law_other_line" s_l_other_line ["_law_dice_here", "_law_lines"]) (G_l_roll : Cg P w K mg base 1 "_law_roll" spRoll) (G_l_pick : Cg P w K mg base 2 "_law_pick" (spPick K)) (z_len : mg "len" = none) : Cg P w K mg base 3 "_law_other_line" spOther := by
  refine D.ok sc_l_other_line (fun vs H Q E h => ?_) (fun cdv A outer s H vs Q E f hc hr h => ?_)
  · obtain ⟨d, l, zs, rfl, _⟩ := h
    rfl
  · obtain ⟨d, l, zs, rfl, hd, hl, ld, zn, zl, zg, q⟩ := h
    refine ⟨_, (pss_cons (ps_par (i := 2) (j := 3) (by rfl) sc_l_other_line.nd rfl rfl (by decide) rfl rfl (pa_cons (pe_bm PySem.F.plainAttrs_str PySem.F.slot_str_split PySem.F.type_str_split mt_split (pe_cg G_l_pick hc hr (by rfl) (pa_cons (pv 0) (pa_cons (pv 1) pa_nil))) (pa_cons pe_str pa_nil)) (pa_cons (pe_cg G_l_roll hc hr (by rfl) (pa_cons (pv 0) (pa_cons pe_int pa_nil))) pa_nil)) (by rfl))
      (pss_cons (ps_set (i := 4) sc_l_other_line.nd rfl (Or.inl rfl) (pe_cg G_l_roll hc hr (by rfl) (pa_cons (pv 0) (pa_cons (pe_callB call_len_seq (by rfl) z_len PySem.boot_len (pa_cons (pv 2) pa_nil)) pa_nil))))
      (pss_cons (ps_set (i := 5) sc_l_other_line.nd rfl (Or.inl rfl) (pe_cg G_l_pick hc hr (by rfl) (pa_cons (pv 0) (pa_cons (pe_lst (pa_cons pe_str (pa_cons pe_str (pa_cons pe_str (pa_cons pe_str (pa_cons pe_str (pa_cons pe_str (pa_cons pe_str (pa_cons pe_str (pa_cons pe_str (pa_cons pe_str pa_nil))))))))))) pa_nil))))
      (pss_cons (ps_if (pt_cmpR op_lt (pv 3) pe_int (nomark _))
      (pss_one (ps_ret (pe_join pe_str (pe_op op_cat (pe_op op_cat (pe_slice (sl_list : SlR _ (rSlL K)) (pv 2) po_none (po_some (pv 4))) (pe_lst (pa_cons (pv 5) pa_nil))) (pe_slice (sl_list : SlR _ (rSlL K)) (pv 2) (po_some (pe_op op_add (pv 4) pe_int)) po_none)))))
      pss_nil)
      (pss_cons (ps_if (pt_cmpR op_lt (pv 3) pe_int (nomark _))
      (pss_one (ps_ret (pe_join pe_str (pe_op op_cat (pe_slice (sl_list : SlR _ (rSlL K)) (pv 2) po_none (po_some (pv 4))) (pe_slice (sl_list : SlR _ (rSlL K)) (pv 2) (po_some (pe_op op_add (pv 4) pe_int)) po_none)))))
      pss_nil)
      (pss_cons (ps_if (pt_cmpR op_lt (pv 3) pe_int (nomark _))
      (pss_one (ps_ret (pe_join pe_str (pe_op op_cat (pe_slice (sl_list : SlR _ (rSlL K)) (pv 2) po_none (po_some (pe_op op_add (pv 4) pe_int))) (pe_slice (sl_list : SlR _ (rSlL K)) (pv 2) (po_some (pv 4)) po_none)))))
      pss_nil)
      (pss_cons (ps_set (i := 6) sc_l_other_line.nd rfl (Or.inl rfl) (pe_lst (pa_cons pe_non (pa_cons pe_int (pa_cons (pe_tup pa_nil) (pa_cons (pe_lst (pa_cons pe_str pa_nil)) (pa_cons pe_bl (pa_cons pe_str (pa_cons pe_str (pa_cons (pe_tup (pa_cons pe_str (pa_cons pe_str pa_nil))) pa_nil))))))))))
      (pss_one (ps_ret (pe_ifExp (pt_cmpR op_eq (pv 3) pe_int (nomark _)) (pe_join pe_str (pv 2)) (pe_cg G_l_pick hc hr (by rfl) (pa_cons (pv 0) (pa_cons (pv 6) pa_nil))))))))))))), ?_⟩
    refine ⟨_, rfl, _, rfl, d, .ref l, (fun v => ∃ z : Str, v = .str z ∧ z ∈ zs), rfl, hd, .inl ⟨l, _, rfl, ld, .inl (.inl (.inl hl)), by simp [zn], by rw [List.length_map]; omega, fun v hv => by
      obtain ⟨z, hz, rfl⟩ := List.mem_map.mp hv
      exact ⟨z, rfl, hz⟩⟩, fun v H1 p1 hv => ?_⟩
    obtain ⟨z, rfl, hz⟩ := hv
    obtain ⟨gz, w16⟩ := zg z hz
    refine ⟨rfl, z, _, rfl, rfl, by decide +kernel, Nat.le_trans (show z.length + 2 ≤ 2000 by have := gz.len; omega) (by decide), fun p np => ?_⟩
    have lp := split_pos z
    have wX : ∀ y ∈ Txt.split z " ", GoodX y := fun y hy => (gz.wd y hy).one (words_sp z y hy)
    generalize Txt.split z " " = ws at lp wX w16 ⊢
    have pd : p ≠ d := p1.dice.ne np
    have p12 := p1.trans (Past.new (o := .lst (ws.map V.str)) p1.dice np)
    have len : (ws.map V.str).length = ws.length := List.length_map ..
    refine ⟨_, rfl, d, 9, rfl, p12.dice, by decide, by decide +kernel, fun way H3 p3 w0 w1 => ⟨_, _, rfl, ?_⟩⟩
    have h3 : H3 p = some (.lst (ws.map V.str)) := p3.keep pd upd_same
    have p13 := p12.trans p3
    refine ⟨_, rfl, _, rfl, p, _, rfl, .inl (.inl (.inl h3)), d, _, rfl, p13.dice, by rw [len]; omega, by rw [len]; exact small8000 (by omega), fun spot H4 p4 s0 s1 => ?_⟩
    have h4 : H4 p = some (.lst (ws.map V.str)) := p4.keep pd h3
    have p14 := p13.trans p4
    refine ⟨_, rfl, (by show 10 ≤ sizeLine; decide), fun lt nlt => ⟨d, .ref lt, (fun v => ∃ y, v = .str y ∧ y ∈ ten), rfl, (Past.new p14.dice nlt).dice, .inl ⟨lt, _, rfl, p14.dice.ne nlt, .inl (.inl (.inl upd_same)), by simp, (by show 10 ≤ 1000000; decide), fun v hv => ?_⟩, fun v H5 p5 hv => ?_⟩⟩
    · have hv : v ∈ ten.map V.str := hv
      obtain ⟨y, hy, rfl⟩ := List.mem_map.mp hv
      exact ⟨y, rfl, hy⟩
    obtain ⟨wd, rfl, hwd⟩ := hv
    have pp := (p14.trans (Past.new p14.dice nlt)).trans p5
    have h5 : H5 p = some (.lst (ws.map V.str)) := p5.keep pd (by rw [upd_ne (ne_of_none h4 nlt)]; exact h4)
    clear p5
    have gwd := good_ten wd hwd
    have b1 : (" " : Str).length = 1 := by decide +kernel
    have fin : ∀ (ys : List Str) (H' : Hp), Past d H H' → (∀ y ∈ ys, GoodX y) → ys.length ≤ 20 → ((ys.map (·.length)).sum + ys.length * (" " : Str).length ≤ sizeLine) ∧ Q (.str (Txt.join " " ys)) H' := fun ys H' pq g l => by
      refine ⟨?_, q _ _ pq (good_join g l).val⟩
      have h2 : ∀ l : List Str, (∀ y ∈ l, GoodX y) → (l.map (·.length)).sum ≤ l.length * 20 := fun l => by
        induction l with
        | nil => intro _; exact Nat.zero_le _
        | cons x l ih =>
          intro h
          have := (h x List.mem_cons_self).len
          have := ih fun y hy => h y (List.mem_cons_of_mem _ hy)
          simp only [List.map_cons, List.sum_cons, List.length_cons]
          omega
      have := h2 ys g
      rw [b1, Nat.mul_one]
      exact Nat.le_trans (show _ ≤ 420 by omega) (by decide)
    have cX : ∀ a b, ∀ y ∈ cutW ws a b, GoodX y := fun a b y hy => wX y (cutW_mem hy)
    have cL : ∀ a b, (cutW ws a b).length ≤ 9 := fun a b => Nat.le_trans (cutW_len ws a b).1 w16
    have small : ∀ {n : Nat}, n ≤ 1000 → n ≤ sizeLine := fun h => fits_million (by omega)
    have sub : ∀ a b c e, (∀ y ∈ cutW ws a b ++ cutW ws c e, GoodX y) := fun a b c e y hy => (List.mem_append.mp hy).elim (cX a b y) (cX c e y)
    have two : ∀ (a b c e : Option Int) (p1 p2 p3 : Addr), H5 p1 = none → (upd H5 p1 (.lst ((cutW ws a b).map V.str))) p2 = none → (upd (upd H5 p1 (.lst ((cutW ws a b).map V.str))) p2 (.lst ((cutW ws c e).map V.str))) p3 = none →
        (((cutW ws a b ++ cutW ws c e).map (·.length)).sum + (cutW ws a b ++ cutW ws c e).length * (" " : Str).length ≤ sizeLine) ∧ Q (.str (Txt.join " " (cutW ws a b ++ cutW ws c e))) (upd (upd (upd H5 p1 (.lst ((cutW ws a b).map V.str))) p2 (.lst ((cutW ws c e).map V.str))) p3 (.lst ((cutW ws a b).map V.str ++ (cutW ws c e).map V.str))) := fun a b c e p1 p2 p3 n1 n2 n3 => by
      have q1 := Past.new (o := .lst ((cutW ws a b).map V.str)) pp.dice n1
      have q2 := Past.new (o := .lst ((cutW ws c e).map V.str)) q1.dice n2
      have q3 := Past.new (o := .lst ((cutW ws a b).map V.str ++ (cutW ws c e).map V.str)) q2.dice n3
      have l1 := cL a b
      have l2 := cL c e
      exact fin _ _ (((pp.trans q1).trans q2).trans q3) (sub a b c e) (by rw [List.length_append]; omega)
    refine ⟨_, rfl, _, _, rfl, rfl, _, rfl, ite2 (fun _ => ?_) (fun _ => ?_)⟩
    · refine ⟨⟨_, rfl⟩, _, rfl, _, rfl, _, rfl, p, _, rfl, .inl (.inl h5), fun p1 n1 => ?_⟩
      rw [cutV_str]
      have h6 : (upd H5 p1 (.lst ((cutW ws none (some spot)).map V.str))) p = some (.lst (ws.map V.str)) := by rw [upd_ne (ne_of_none h5 n1)]; exact h5
      have q1 := Past.new (o := .lst ((cutW ws none (some spot)).map V.str)) pp.dice n1
      have k1 := cL none (some spot)
      have k2 := cL (some (spot + 1)) none
      refine ⟨_, rfl, (by show 1 ≤ sizeLine; decide), fun p2 n2 => ?_⟩
      have q2 := Past.new (o := .lst [V.str wd]) q1.dice n2
      refine ⟨p1, p2, _, _, rfl, rfl, by rw [upd_ne (ne_of_none upd_same n2), upd_same], upd_same, by rw [List.length_map]; exact small (show _ + 1 ≤ 1000 by omega), fun p3 n3 => ?_⟩
      have h7 := ((same_new (o := .lst [V.str wd]) n2).trans (same_new (o := .lst ((cutW ws none (some spot)).map V.str ++ [V.str wd])) n3)) _ _ h6
      have q3 := Past.new (o := .lst ((cutW ws none (some spot)).map V.str ++ [V.str wd])) q2.dice n3
      refine ⟨_, rfl, _, rfl, _, _, rfl, rfl, _, rfl, p, _, rfl, .inl (.inl h7), fun p4 n4 => ?_⟩
      rw [cutV_str]
      have q4 := Past.new (o := .lst ((cutW ws (some (spot + 1)) none).map V.str)) q3.dice n4
      refine ⟨p3, p4, _, _, rfl, rfl, by rw [upd_ne (ne_of_none upd_same n4), upd_same], upd_same, by rw [List.length_append, List.length_map, List.length_map]; exact small (show _ + 1 + _ ≤ 1000 by omega), fun p5 n5 => ?_⟩
      have q5 := Past.new (o := .lst (((cutW ws none (some spot)).map V.str ++ [V.str wd]) ++ (cutW ws (some (spot + 1)) none).map V.str)) q4.dice n5
      obtain ⟨tot, fq⟩ := fin (cutW ws none (some spot) ++ [wd] ++ cutW ws (some (spot + 1)) none) _ (((((pp.trans q1).trans q2).trans q3).trans q4).trans q5) (fun y hy => by
        rcases List.mem_append.mp hy with hy | hy
        · rcases List.mem_append.mp hy with hy | hy
          · exact cX _ _ y hy
          · cases List.mem_singleton.mp hy
            exact gwd
        · exact cX _ _ y hy) (by simp only [List.length_append, List.length_singleton]; omega)
      exact ⟨_, p5, _, rfl, rfl, .inl (.inl (.inl (by rw [upd_same, List.map_append, List.map_append]; rfl))), tot, fq⟩
    refine ⟨_, rfl, _, _, rfl, rfl, _, rfl, ite2 (fun _ => ?_) (fun _ => ?_)⟩
    · refine ⟨⟨_, rfl⟩, _, rfl, _, rfl, _, rfl, p, _, rfl, .inl (.inl h5), fun p1 n1 => ?_⟩
      rw [cutV_str]
      have h6 : (upd H5 p1 (.lst ((cutW ws none (some spot)).map V.str))) p = some (.lst (ws.map V.str)) := by rw [upd_ne (ne_of_none h5 n1)]; exact h5
      refine ⟨_, rfl, _, rfl, _, _, rfl, rfl, _, rfl, p, _, rfl, .inl (.inl h6), fun p2 n2 => ?_⟩
      rw [cutV_str]
      have k1 := cL none (some spot)
      have k2 := cL (some (spot + 1)) none
      refine ⟨p1, p2, _, _, rfl, rfl, by rw [upd_ne (ne_of_none upd_same n2), upd_same], upd_same, by rw [List.length_map, List.length_map]; exact small (by omega), fun p3 n3 => ?_⟩
      obtain ⟨tot, fq⟩ := two none (some spot) (some (spot + 1)) none p1 p2 p3 n1 n2 n3
      exact ⟨_, p3, _, rfl, rfl, .inl (.inl (.inl (by rw [upd_same, List.map_append]))), tot, fq⟩
    refine ⟨_, rfl, _, _, rfl, rfl, _, rfl, ite2 (fun _ => ?_) (fun _ => ?_)⟩
    · refine ⟨⟨_, rfl⟩, _, rfl, _, rfl, _, _, rfl, rfl, _, rfl, p, _, rfl, .inl (.inl h5), fun p1 n1 => ?_⟩
      rw [cutV_str]
      have h6 : (upd H5 p1 (.lst ((cutW ws none (some (spot + 1))).map V.str))) p = some (.lst (ws.map V.str)) := by rw [upd_ne (ne_of_none h5 n1)]; exact h5
      refine ⟨_, rfl, _, rfl, _, rfl, p, _, rfl, .inl (.inl h6), fun p2 n2 => ?_⟩
      rw [cutV_str]
      have k1 := cL none (some (spot + 1))
      have k2 := cL (some spot) none
      refine ⟨p1, p2, _, _, rfl, rfl, by rw [upd_ne (ne_of_none upd_same n2), upd_same], upd_same, by rw [List.length_map, List.length_map]; exact small (by omega), fun p3 n3 => ?_⟩
      obtain ⟨tot, fq⟩ := two none (some (spot + 1)) (some spot) none p1 p2 p3 n1 n2 n3
      exact ⟨_, p3, _, rfl, rfl, .inl (.inl (.inl (by rw [upd_same, List.map_append]))), tot, fq⟩
    -- values that are no lines
    refine ⟨(by show 0 ≤ sizeLine; decide), fun o1 m1 => ⟨(by show 1 ≤ sizeLine; decide), fun o2 m2 => ⟨(by show 2 ≤ sizeLine; decide), fun o3 m3 => ⟨(by show 8 ≤ sizeLine; decide), fun o4 m4 => ?_⟩⟩⟩⟩
    have q1 := Past.new (o := .tup []) pp.dice m1
    have q2 := Past.new (o := .lst [V.str "bare t"]) q1.dice m2
    have q3 := Past.new (o := .tup [V.str "bare", V.str "t"]) q2.dice m3
    have q4 := Past.new (o := .lst [V.non, .int 7, .ref o1, .ref o2, .bl true, .str "", .str "form", .ref o3]) q3.dice m4
    have t1 := same_new (o := .tup []) m1
    have t2 := same_new (o := .lst [V.str "bare t"]) m2
    have t3 := same_new (o := .tup [V.str "bare", V.str "t"]) m3
    have t4 := same_new (o := .lst [V.non, .int 7, .ref o1, .ref o2, .bl true, .str "", .str "form", .ref o3]) m4
    have u1 := (t2.trans (t3.trans t4)) _ _ (upd_same (H := H5) (a := o1) (o := .tup []))
    have u2 := (t3.trans t4) o2 _ upd_same
    have u3 := t4 o3 _ upd_same
    have u4 : (upd (upd (upd (upd H5 o1 (.tup [])) o2 (.lst [V.str "bare t"])) o3 (.tup [V.str "bare", V.str "t"])) o4 (.lst [V.non, .int 7, .ref o1, .ref o2, .bl true, .str "", .str "form", .ref o3])) o4 = some (.lst [V.non, .int 7, .ref o1, .ref o2, .bl true, .str "", .str "form", .ref o3]) := upd_same
    have u5 := (t1.trans (t2.trans (t3.trans t4))) _ _ h5
    have d1 := pp.dice.ne m1
    have d2 := q1.dice.ne m2
    have d3 := q2.dice.ne m3
    have d4 := q3.dice.ne m4
    have q14 := (((pp.trans q1).trans q2).trans q3).trans q4
    generalize (upd (upd (upd (upd H5 o1 (.tup [])) o2 (.lst [V.str "bare t"])) o3 (.tup [V.str "bare", V.str "t"])) o4 (.lst [V.non, .int 7, .ref o1, .ref o2, .bl true, .str "", .str "form", .ref o3])) = H9 at u1 u2 u3 u4 u5 q14 ⊢
    refine ⟨_, rfl, rfl, _, rfl, ite2 (fun _ => ?_) (fun _ => ?_)⟩
    · obtain ⟨tot, fq⟩ := fin ws H9 q14 wX (by omega)
      exact ⟨⟨_, rfl⟩, _, rfl, _, p, ws, rfl, rfl, .inl (.inl (.inl u5)), tot, fq⟩
    · refine ⟨_, rfl, _, rfl, d, .ref o4, (fun v => v ∈ [V.non, .int 7, .ref o1, .ref o2, .bl true, .str "", .str "form", .ref o3]), rfl, q14.dice, .inl ⟨o4, _, rfl, d4, .inl (.inl (.inl u4)), by simp, (by show 8 ≤ 1000000; decide), fun v hv => hv⟩, fun v H10 p10 hv => q v H10 (q14.trans p10) ?_⟩
      have nov : ∀ {v : V}, wordsV v = [] → Judged H10 v → ValG H10 v := fun e j => ⟨j, by rw [e]; exact fun u hu => absurd hu List.not_mem_nil, by rw [e]; exact Nat.zero_le _⟩
      simp only [List.mem_cons, List.not_mem_nil, or_false] at hv
      rcases hv with rfl | rfl | rfl | rfl | rfl | rfl | rfl | rfl
      · exact nov rfl trivial
      · exact nov rfl (show (7 : Int).natAbs < 10 ^ 100 by decide)
      · exact nov rfl (.inr (.inl ⟨_, p10.1 _ _ d1 u1⟩))
      · exact nov rfl (.inl ⟨_, p10.1 _ _ d2 u2⟩)
      · exact nov rfl trivial
      · have e : Txt.join " " [] = ("" : Str) := by decide +kernel
        rw [← e]
        exact (good_join (ws := []) (fun y hy => absurd hy List.not_mem_nil) (Nat.zero_le _)).val
      · have e : Txt.join " " ["form"] = ("form" : Str) := by decide +kernel
        rw [← e]
        exact (good_join (ws := ["form"]) (fun y hy => by
          cases List.mem_singleton.mp hy
          exact good_ten _ (by simp [ten])) (by decide)).val
      · exact nov rfl (.inr (.inl ⟨_, p10.1 _ _ d3 u3⟩))
end
end K04
set_option Elab.async false
set_option linter.all false
set_option autoImplicit false
set_option maxRecDepth 100000
set_option maxHeartbeats 8000000
namespace K04
open PySem PySem.Spec PyProof.Rows L2 Vb Wd Ts K01 Zt
theorem cut_lo (vs : List V) (m : Nat) : cutV vs none (some (m : Int)) = vs.take m := by
  have := cut_takeG id vs m
  rwa [List.map_id, List.map_id] at this
theorem cut_hi (vs : List V) (m : Nat) : cutV vs (some (m : Int)) none = vs.drop m := by
  unfold cutV
  rw [HT.sIx_nat, HT.sIx_none]
  by_cases h : vs.length ≤ m
  · rw [Nat.min_eq_right h, List.drop_of_length_le (Nat.le_refl _), List.drop_of_length_le h, List.take_nil]
  · rw [Nat.min_eq_left (by omega), List.take_of_length_le (by rw [List.length_drop]; exact Nat.le_refl _)]
theorem Judged.past {d : Addr} {H H' : Hp} (hd : Dice H d) (p : Past d H H') {v : V} (n : ∀ a, v = .ref a → a ≠ d) (j : Judged H v) : Judged H' v := by
  cases v with
  | ref a =>
    have na := n a rfl
    rcases j with ⟨xs, e⟩ | ⟨xs, e⟩ | ⟨kvs, e⟩
    · exact .inl ⟨xs, p.1 _ _ na e⟩
    · exact .inr (.inl ⟨xs, p.1 _ _ na e⟩)
    · exact .inr (.inr ⟨kvs, p.1 _ _ na e⟩)
  | _ => exact j
theorem ValG.past {d : Addr} {H H' : Hp} (hd : Dice H d) (p : Past d H H') {v : V} (g : ValG H v) : ValG H' v := by
  refine ⟨?_, g.wd, g.few⟩
  cases v with
  | ref a =>
    by_cases na : a = d
    · subst na
      obtain ⟨g', s', c', e⟩ := p.dice
      exact .inl ⟨_, e⟩
    · exact Judged.past hd p (fun b e => by cases e; exact na) g.jd
  | _ => exact g.jd
abbrev s_l_bent : Stmt := topS 50
theorem sc_l_bent : FnScope ["_law_dice_here", "_law_lines", "_law_found", "_law_turn", "_law_at", "_law_way", "_law_other"] ["_law_dice_here", "_law_lines"] (defScope s_l_bent) := ⟨rfl, rfl, rfl, by decide +kernel, rfl, by decide +kernel, by decide +kernel⟩
def spBent : Sp := fun vs H Q _ => ∃ (d l : Addr) (zs : List Str), vs = [.ref d, .ref l] ∧ Dice H d ∧ H l = some (.lst (zs.map V.str)) ∧ l ≠ d ∧ zs ≠ [] ∧ zs.length ≤ 12 ∧ (∀ z ∈ zs, LineG z ∧ (Txt.split z " ").length ≤ 9) ∧
  ∀ p ws H', Past d H H' → H' p = some (.lst ws) → p ≠ d → ws.length ≤ 14 → (∀ v ∈ ws, ValG H' v) → Q (.ref p) H'
section
variable {P : Program} {w : World} {K : PySem.W.Frag} {mg : Str → Option Value} {base : Heap}
theorem ok_l_bent (D : Df K mg "_law_bent" s_l_bent ["_law_dice_here", "_law_lines"]) (G_l_roll : Cg P w K mg base 1 "_law_roll" spRoll) (G_l_other_line : Cg P w K mg base 3 "_law_other_line" spOther) (z_list : mg "list" = none) (z_range : mg "range" = none) (z_len : mg "len" = none) (z_int : mg "int" = none) : Cg P w K mg base 4 "_law_bent" spBent := by
  refine D.ok sc_l_bent (fun vs H Q E h => ?_) (fun cdv A outer s H vs Q E f hc hr h => ?_)
  · obtain ⟨d, l, zs, rfl, _⟩ := h
    rfl
  · obtain ⟨d, l, zs, rfl, hd, hl, ld, zn, zl, zg, q⟩ := h
    refine ⟨_, (pss_cons (ps_set (i := 2) sc_l_bent.nd rfl (Or.inl rfl) (pe_callTy call_list_of (by rfl) z_list (by decide +kernel) (pa_cons (pv 1) pa_nil)))
      (pss_cons (ps_for PassesOwn.never rfl (pi_range1 (by rfl) z_range (pa_cons (pe_op op_add pe_int (pe_cg G_l_roll hc hr (by rfl) (pa_cons (pv 0) (pa_cons pe_int pa_nil)))) pa_nil)) (pg_name (i := 3) sc_l_bent.nd rfl (Or.inl rfl))
      (pss_cons (ps_par (i := 4) (j := 5) (by rfl) sc_l_bent.nd rfl rfl (by decide) rfl rfl (pa_cons (pe_cg G_l_roll hc hr (by rfl) (pa_cons (pv 0) (pa_cons (pe_callB call_len_seq (by rfl) z_len PySem.boot_len (pa_cons (pv 2) pa_nil)) pa_nil))) (pa_cons (pe_cg G_l_roll hc hr (by rfl) (pa_cons (pv 0) (pa_cons pe_int pa_nil))) pa_nil)) (by rfl))
      (pss_cons (ps_set (i := 6) sc_l_bent.nd rfl (Or.inl rfl) (pe_cg G_l_other_line hc hr (by rfl) (pa_cons (pv 0) (pa_cons (pv 1) pa_nil))))
      (pss_one (ps_if (PW.pt (pw_and (pt_cmpR op_eq (pv 5) pe_int (nomark _)) (pw_and1 (pt_cmpR op_gt (pe_callB call_len_seq (by rfl) z_len PySem.boot_len (pa_cons (pv 2) pa_nil)) pe_int (nomark _)))))
      (pss_one (ps_set (i := 2) sc_l_bent.nd rfl (Or.inl rfl) (pe_op op_cat (pe_slice (sl_list : SlR _ (rSlL K)) (pv 2) po_none (po_some (pv 4))) (pe_slice (sl_list : SlR _ (rSlL K)) (pv 2) (po_some (pe_op op_add (pv 4) pe_int)) po_none))))
      (pss_one (ps_set (i := 2) sc_l_bent.nd rfl (Or.inl rfl) (pe_op op_cat (pe_op op_cat (pe_slice (sl_list : SlR _ (rSlL K)) (pv 2) po_none (po_some (pv 4))) (pe_lst (pa_cons (pv 6) pa_nil))) (pe_slice (sl_list : SlR _ (rSlL K)) (pv 2) (po_some (pe_op op_add (pv 4) (pe_callTy call_int1 (by rfl) z_int (by decide +kernel) (pa_cons (pe_cmpR op_eq (pv 5) pe_int (nomark _)) pa_nil)))) po_none)))))))))
      (pss_one (ps_ret (pv 2))))), ?_⟩
    have lz : (zs.map V.str).length = zs.length := List.length_map ..
    have big : ∀ {n : Nat}, n ≤ 200 → n ≤ sizeLine := fun h => Nat.le_of_lt (Nat.lt_of_le_of_lt h (by decide))
    refine ⟨_, rfl, l, _, rfl, .inl (.inl (.inl hl)), fun p0 n0 => ?_⟩
    have b1 := Past.new (o := .lst (zs.map V.str)) hd n0
    refine ⟨_, rfl, d, 2, rfl, b1.dice, by decide, by decide +kernel, fun r H2 b2 r0 r1 => ?_⟩
    refine ⟨_, _, rfl, rfl, _, rfl, by omega, by omega, ?_⟩
    have e2 := b2.keep (hd.ne n0) (upd_same (H := H) (a := p0) (o := .lst (zs.map V.str)))
    have one : 1 ≤ zs.length := List.length_pos_iff.mpr zn
    refine for_range (lo := 0) (fun i σ H' => ∃ (o3 o4 o5 o6 : Option V) (p : Addr) (ws : List V), σ = [some (.ref d), some (.ref l), some (.ref p), o3, o4, o5, o6] ∧ Past d H H' ∧ H' p = some (.lst ws) ∧ p ≠ d ∧ 1 ≤ ws.length ∧ ws.length ≤ zs.length + i ∧ ∀ v ∈ ws, ValG H' v)
      ⟨none, none, none, none, p0, zs.map V.str, rfl, b1.trans b2, e2, hd.ne n0, by omega, by omega, fun v hv => by
        obtain ⟨z, hz, rfl⟩ := List.mem_map.mp hv
        exact (zg z hz).1.val⟩ ?_ ?_
    · rintro i σ H3 hi ⟨o3, o4, o5, o6, p, ws, rfl, pp, ep, pd, w1, w2, gv⟩
      have wl : ws.length ≤ 14 := by omega
      refine ⟨_, rfl, _, rfl, p, _, rfl, .inl (.inl (.inl ep)), d, _, rfl, pp.dice, by omega, small8000 (by omega), fun at_ H4 p4 s0 s1 => ⟨_, rfl, d, 3, rfl, p4.dice, by decide, by decide +kernel, fun way H5 p5 y0 y1 => ⟨_, _, rfl, ?_⟩⟩⟩
      have pp5 := (pp.trans p4).trans p5
      refine ⟨_, rfl, _, rfl, d, l, zs, rfl, pp5.dice, pp5.1 _ _ ld hl, ld, zn, by omega, zg, fun v H6 p6 gvv => ?_⟩
      have pp6 := pp5.trans p6
      have p36 := (p4.trans p5).trans p6
      have ep6 := p36.1 _ _ pd ep
      have gv6 : ∀ v ∈ ws, ValG H6 v := fun v hv => (gv v hv).past pp.dice p36
      obtain ⟨k, rfl⟩ : ∃ k : Nat, at_ = (k : Int) := ⟨at_.toNat, by omega⟩
      have kl : k < ws.length := by omega
      show gName 6 v _ _ _
      rw [gName_eq]
      dsimp only
      refine if_tells (A := decide (V.int way = V.int 0) && decide ((1 : Int) < (ws.length : Int))) (tells_and (fun Q' q' => ⟨_, rfl, rfl, _, rfl, q' _ (Same.refl _)⟩) (fun H7 s7 _ => fun Q' q' => ⟨_, rfl, p, _, rfl, .inl (.inl (.inl (s7 _ _ ep6))), _, _, rfl, rfl, _, rfl, q' _ (Same.refl _)⟩)) (fun e H7 s7 => ?_) (fun e H7 s7 => ?_)
      · have ep7 := s7 _ _ ep6
        refine ⟨_, rfl, _, rfl, _, rfl, p, _, rfl, .inl (.inl ep7), fun a1 m1 => ?_⟩
        rw [cut_lo]
        have t1 := same_new (o := .lst (ws.take k)) m1
        refine ⟨_, rfl, _, rfl, _, _, rfl, rfl, _, rfl, p, _, rfl, .inl (.inl (t1 _ _ ep7)), fun a2 m2 => ?_⟩
        have ck : cutV ws (some ((k : Int) + 1)) none = ws.drop (k + 1) := cut_hi ws (k + 1)
        rw [ck]
        have t2 := same_new (o := .lst (ws.drop (k + 1))) m2
        refine ⟨a1, a2, _, _, rfl, rfl, t2 _ _ upd_same, upd_same, big (by rw [List.length_take, List.length_drop]; omega), fun a3 m3 => ?_⟩
        have t3 := same_new (o := .lst (ws.take k ++ ws.drop (k + 1))) m3
        have sa := s7.trans (t1.trans (t2.trans t3))
        have ps := Past.same p36.dice sa
        have nd3 := (Past.same p36.dice (s7.trans (t1.trans t2))).dice.ne m3
        simp only [Bool.and_eq_true, decide_eq_true_eq] at e
        refine ⟨_, _, _, _, a3, _, rfl, (pp.trans p36).trans ps, upd_same, nd3, by rw [List.length_append, List.length_take, List.length_drop]; omega, by rw [List.length_append, List.length_take, List.length_drop]; omega, fun v' hv => ?_⟩
        have hv : v' ∈ ws := (List.mem_append.mp hv).elim List.mem_of_mem_take List.mem_of_mem_drop
        exact (gv6 v' hv).past p36.dice ps
      · have ep7 := s7 _ _ ep6
        refine ⟨_, rfl, _, rfl, _, rfl, p, _, rfl, .inl (.inl ep7), fun a1 m1 => ?_⟩
        rw [cut_lo]
        have t1 := same_new (o := .lst (ws.take k)) m1
        refine ⟨_, rfl, (by show 1 ≤ sizeLine; decide), fun a2 m2 => ?_⟩
        have t2 := same_new (o := .lst [v]) m2
        refine ⟨a1, a2, _, _, rfl, rfl, t2 _ _ upd_same, upd_same, big (by rw [List.length_take]; show _ + 1 ≤ 200; omega), fun a3 m3 => ?_⟩
        have t3 := same_new (o := .lst (ws.take k ++ [v])) m3
        have ep9 := (t1.trans (t2.trans t3)) _ _ ep7
        refine ⟨_, rfl, _, rfl, _, rfl, rfl, .inr ⟨_, rfl, _, _, rfl, rfl, _, rfl, p, _, rfl, .inl (.inl ep9), fun a4 m4 => ?_⟩⟩
        have em : (k : Int) + (if decide (V.int way = V.int 1) = true then 1 else 0) = ((k + (if decide (V.int way = V.int 1) = true then 1 else 0) : Nat) : Int) := by
          split <;> simp
        rw [em, cut_hi]
        have le1 : (if decide (V.int way = V.int 1) = true then 1 else 0) ≤ 1 := by split <;> omega
        generalize (if decide (V.int way = V.int 1) = true then 1 else 0) = u at le1
        have t4 := same_new (o := .lst (ws.drop (k + u))) m4
        refine ⟨a3, a4, _, _, rfl, rfl, t4 _ _ upd_same, upd_same, big (by rw [List.length_append, List.length_take, List.length_drop, List.length_singleton]; omega), fun a5 m5 => ?_⟩
        have t5 := same_new (o := .lst ((ws.take k ++ [v]) ++ ws.drop (k + u))) m5
        have sa := s7.trans (t1.trans (t2.trans (t3.trans (t4.trans t5))))
        have ps := Past.same p36.dice sa
        have nd5 := (Past.same p36.dice (s7.trans (t1.trans (t2.trans (t3.trans t4))))).dice.ne m5
        refine ⟨_, _, _, _, a5, _, rfl, (pp.trans p36).trans ps, upd_same, nd5, by simp only [List.length_append, List.length_take, List.length_drop, List.length_singleton]; omega, by simp only [List.length_append, List.length_take, List.length_drop, List.length_singleton]; omega, fun v' hv => ?_⟩
        rcases List.mem_append.mp hv with hv | hv
        · rcases List.mem_append.mp hv with hv | hv
          · exact (gv6 v' (List.mem_of_mem_take hv)).past p36.dice ps
          · cases List.mem_singleton.mp hv
            exact gvv.past p36.dice ps
        · exact (gv6 v' (List.mem_of_mem_drop hv)).past p36.dice ps
    · rintro σ H3 ⟨o3, o4, o5, o6, p, ws, rfl, pp, ep, pd, w1, w2, gv⟩
      exact ⟨_, rfl, q p ws H3 pp ep pd (by omega) gv⟩
end
end K04
set_option Elab.async false
set_option linter.all false
set_option autoImplicit false
set_option maxRecDepth 100000
set_option maxHeartbeats 4000000
namespace K04
open PySem PySem.Spec PyProof.Rows L2 Vb Wd Ts K01 Zt
/-! ### lines written and read -/
/-- a form's names and children are right -/
structure Right (n so : Str) (cs : List (Str × Int)) : Prop where
  n : isNam (.str n) = true
  so : isNam (.str so) = true
  lo : 2 ≤ cs.length
  hi : cs.length ≤ 4
  kid : ∀ c ∈ cs, isNam (.str c.1) = true ∧ 0 ≤ c.2 ∧ c.2 ≤ 3
theorem nam_low {z : Str} (h : isNam (.str z) = true) : Low z := fun c hc => List.all_eq_true.mp (nam_len h).2.2 c hc
theorem nam_plain {z : Str} (h : isNam (.str z) = true) : z.length ≤ 1000 ∧ Asc z := ⟨by have := (nam_len h).2.1; omega, low_asc (nam_low h)⟩
theorem dig_cps {i : Int} (h0 : 0 ≤ i) (h3 : i ≤ 3) : (Str.ofString (toString i)).cps.toList = [48 + i.toNat] := by
  have : i = 0 ∨ i = 1 ∨ i = 2 ∨ i = 3 := by omega
  rcases this with rfl | rfl | rfl | rfl <;> decide +kernel
theorem app_cps (x y : Str) : (x ++ y).cps.toList = x.cps.toList ++ y.cps.toList := by
  show (x.cps ++ y.cps).toList = _
  exact Array.toList_append
theorem word_cps {c : Str × Int} (h0 : 0 ≤ c.2) (h3 : c.2 ≤ 3) : (wordT c).cps.toList = c.1.cps.toList ++ [48 + c.2.toNat] := by
  unfold wordT
  rw [app_cps, dig_cps h0 h3]
theorem word_init {c : Str × Int} (h0 : 0 ≤ c.2) (h3 : c.2 ≤ 3) : initS (wordT c) = c.1 := by
  have e := word_cps h0 h3
  have el : (wordT c).length = c.1.length + 1 := by
    have := congrArg List.length e
    simpa [Str.length] using this
  apply PySem.Str.ext'
  unfold initS cutS
  have e1 : HT.sIx (wordT c).length 0 none = 0 := rfl
  have e2 : HT.sIx (wordT c).length (wordT c).length (some (-1)) = c.1.length := by
    show ((-1 : Int) + ((wordT c).length : Int)).toNat = _
    rw [el]
    omega
  rw [e1, e2, e, List.drop_zero, Nat.sub_zero, List.take_append_of_le_length (by simp [Str.length]), List.take_of_length_le (by simp [Str.length])]
theorem word_last {c : Str × Int} (h0 : 0 ≤ c.2) (h3 : c.2 ≤ 3) : lastC (wordT c) = some (48 + c.2.toNat) := by
  unfold lastC
  rw [word_cps h0 h3, List.getLast?_append]
  rfl
theorem word_child {c : Str × Int} (hn : isNam (.str c.1) = true) (h0 : 0 ≤ c.2) (h3 : c.2 ≤ 3) : childB (wordT c) = true ∧ childV (wordT c) = c := by
  constructor
  · unfold childB
    rw [word_init h0 h3, hn, digC_of (word_last h0 h3), decide_eq_true (show 48 ≤ 48 + c.2.toNat by omega), decide_eq_true (show 48 + c.2.toNat ≤ 51 by omega)]
    rfl
  · unfold childV
    rw [word_init h0 h3, word_last h0 h3]
    obtain ⟨n, s⟩ := c
    simp only [Option.getD_some, Prod.mk.injEq, true_and]
    simp only at h0 h3
    omega
theorem noblank {z : Str} (h : Low z) : (32 : Nat) ∉ TL.tl z := fun hc => by
  have := h 32 hc
  exact absurd this (by decide)
theorem noblank_word {c : Str × Int} (hn : isNam (.str c.1) = true) (h0 : 0 ≤ c.2) (h3 : c.2 ≤ 3) : (32 : Nat) ∉ TL.tl (wordT c) := fun hc => by
  have e : TL.tl (wordT c) = c.1.cps.toList ++ [48 + c.2.toNat] := word_cps h0 h3
  rw [e] at hc
  rcases List.mem_append.mp hc with hc | hc
  · exact noblank (nam_low hn) hc
  · have := List.mem_singleton.mp hc
    omega
theorem line_split {n so : Str} {cs : List (Str × Int)} (r : Right n so cs) : Txt.split (lineT n so cs) " " = ("form" : Str) :: n :: so :: cs.map wordT := by
  refine TL.split_join (y := " ") (s := 32) (S := []) (by decide +kernel) (by decide +kernel) (by simp) fun p hp => ?_
  rcases List.mem_cons.mp hp with rfl | hp
  · decide +kernel
  rcases List.mem_cons.mp hp with rfl | hp
  · exact noblank (nam_low r.n)
  rcases List.mem_cons.mp hp with rfl | hp
  · exact noblank (nam_low r.so)
  · obtain ⟨c, hc, rfl⟩ := List.mem_map.mp hp
    obtain ⟨h1, h2, h3⟩ := r.kid c hc
    exact noblank_word h1 h2 h3
theorem line_read {n so : Str} {cs : List (Str × Int)} (r : Right n so cs) : readW (Txt.split (lineT n so cs) " ") = some (n, so, cs) := by
  rw [line_split r]
  have fb : formB (("form" : Str) :: n :: so :: cs.map wordT) = true := by
    unfold formB
    have e1 : (("form" : Str) :: n :: so :: cs.map wordT).getD 1 "" = n := rfl
    have e2 : (("form" : Str) :: n :: so :: cs.map wordT).getD 2 "" = so := rfl
    have e0 : (("form" : Str) :: n :: so :: cs.map wordT).getD 0 "" = ("form" : Str) := rfl
    have ed : (("form" : Str) :: n :: so :: cs.map wordT).drop 3 = cs.map wordT := rfl
    have el : (("form" : Str) :: n :: so :: cs.map wordT).length = cs.length + 3 := by simp
    have all : (cs.map wordT).all childB = true := by
      rw [List.all_eq_true]
      intro y hy
      obtain ⟨c, hc, rfl⟩ := List.mem_map.mp hy
      obtain ⟨h1, h2, h3⟩ := r.kid c hc
      exact (word_child h1 h2 h3).1
    have := r.lo
    have := r.hi
    rw [e0, e1, e2, ed, el, decide_eq_true (show 5 ≤ cs.length + 3 by omega), decide_eq_true (show cs.length + 3 ≤ 7 by omega), r.n, r.so, all]
    decide
  unfold readW
  rw [if_pos fb]
  have ec : ((("form" : Str) :: n :: so :: cs.map wordT).drop 3).map childV = cs := by
    show (cs.map wordT).map childV = cs
    rw [List.map_map]
    conv => rhs; rw [← List.map_id cs]
    refine List.map_congr_left fun c hc => ?_
    obtain ⟨h1, h2, h3⟩ := r.kid c hc
    exact (word_child h1 h2 h3).2
  rw [ec]
  rfl
theorem word_len' {c : Str × Int} (hn : isNam (.str c.1) = true) (h0 : 0 ≤ c.2) (h3 : c.2 ≤ 3) : (wordT c).length ≤ 9 := by
  unfold wordT
  rw [PySem.Str.length_append, one_sign h0 h3]
  have := (nam_len hn).2.1
  omega
/-- a row of a scheme's words -/
inductive Row where
  | bare | tops | form (d : FD)
  deriving DecidableEq
def rowT (b : Str) (ts : List Str) : Row → Str
  | .bare => "bare " ++ b
  | .tops => "tops " ++ Txt.join " " ts
  | .form d => lineT d.1 d.2.1 d.2.2
def rowF : Row → Option FD
  | .form d => some d
  | _ => none
/-- what these rows tell -/
def gotOf (b : Str) (ts : List Str) (rs : List Row) : Got := (if Row.bare ∈ rs then some b else none, if Row.tops ∈ rs then some ts else none, rs.filterMap rowF)
structure RowsOk (b : Str) (ts : List Str) (rs : List Row) : Prop where
  nb : isNam (.str b) = true
  nt : ts ≠ [] ∧ ts.all nam = true ∧ asc ts = true
  nf : ∀ d, Row.form d ∈ rs → Right d.1 d.2.1 d.2.2
  nd : rs.Nodup
  names : ((rs.filterMap rowF).map (·.1)).Nodup
theorem nosp_nam {z : Str} (h : isNam (.str z) = true) : NoSp z := noblank (nam_low h)
theorem bare_words {b : Str} (h : isNam (.str b) = true) : Txt.split ("bare " ++ b) " " = (["bare", b] : List Str) := by
  have e : ("bare " : Str) ++ b = "bare" ++ " " ++ b := by
    rw [show ("bare " : Str) = "bare" ++ " " from by decide +kernel]
  rw [e, words_cat, words_one (nosp_nam h), words_one (z := "bare") (by unfold NoSp; decide +kernel)]
  rfl
theorem tops_words {ts : List Str} (n : ts ≠ []) (h : ts.all nam = true) : Txt.split ("tops " ++ Txt.join " " ts) " " = ("tops" : Str) :: ts := by
  cases ts with
  | nil => exact absurd rfl n
  | cons y r =>
    have e : ("tops " : Str) ++ Txt.join " " (y :: r) = "tops" ++ " " ++ Txt.join " " (y :: r) := by
      rw [show ("tops " : Str) = "tops" ++ " " from by decide +kernel]
    rw [e, words_cat, words_back fun z hz => nosp_nam (List.all_eq_true.mp h z hz), words_one (z := "tops") (by unfold NoSp; decide +kernel)]
    rfl
theorem row_takes {b : Str} {ts : List Str} {rs : List Row} {r : Row} {more : List Row} (O : RowsOk b ts (rs ++ r :: more)) : takes (gotOf b ts rs) (.str (rowT b ts r)) = some (gotOf b ts (rs ++ [r])) := by
  have notin : r ∉ rs := fun h => by
    have := O.nd
    rw [List.nodup_append] at this
    exact this.2.2 r h r List.mem_cons_self rfl
  cases r with
  | bare =>
    have hw : wordsV (.str (rowT b ts .bare)) = (["bare", b] : List Str) := bare_words O.nb
    have hb : bareB (["bare", b] : List Str) = true := by
      unfold bareB
      have e0 : (["bare", b] : List Str).getD 0 "" = "bare" := rfl
      have e1 : (["bare", b] : List Str).getD 1 "" = b := rfl
      rw [e0, e1, O.nb]
      rfl
    unfold takes
    rw [hw, if_pos ⟨by show (if Row.bare ∈ rs then some b else none) = none; exact if_neg notin, hb⟩]
    unfold gotOf
    simp [rowF]
  | tops =>
    have hw : wordsV (.str (rowT b ts .tops)) = ("tops" : Str) :: ts := tops_words O.nt.1 O.nt.2.1
    have hb : bareB (("tops" : Str) :: ts) = false := by
      unfold bareB
      have e0 : (("tops" : Str) :: ts).getD 0 "" = "tops" := rfl
      rw [e0, decide_eq_false (p := ("tops" : Str) = "bare") (by decide +kernel), Bool.false_and, Bool.and_false]
    have ht : topsB (("tops" : Str) :: ts) = true := by
      unfold topsB
      have e0 : (("tops" : Str) :: ts).getD 0 "" = "tops" := rfl
      have ed : (("tops" : Str) :: ts).drop 1 = ts := rfl
      have l1 : 1 < (("tops" : Str) :: ts).length := by
        have := List.length_pos_iff.mpr O.nt.1
        rw [List.length_cons]
        omega
      rw [e0, ed, O.nt.2.1, O.nt.2.2, decide_eq_true l1]
      rfl
    unfold takes
    rw [hw, if_neg (by rw [hb]; simp), if_pos ⟨by show (if Row.tops ∈ rs then some ts else none) = none; exact if_neg notin, ht⟩]
    unfold gotOf
    simp [rowF]
  | form d =>
    have R := O.nf d (by simp)
    have hw : wordsV (.str (rowT b ts (.form d))) = ("form" : Str) :: d.1 :: d.2.1 :: d.2.2.map wordT := line_split R
    have hb : bareB (("form" : Str) :: d.1 :: d.2.1 :: d.2.2.map wordT) = false := by
      unfold bareB
      have e0 : (("form" : Str) :: d.1 :: d.2.1 :: d.2.2.map wordT).getD 0 "" = "form" := rfl
      rw [e0, decide_eq_false (p := ("form" : Str) = "bare") (by decide +kernel), Bool.false_and, Bool.and_false]
    have ht : topsB (("form" : Str) :: d.1 :: d.2.1 :: d.2.2.map wordT) = false := by
      unfold topsB
      have e0 : (("form" : Str) :: d.1 :: d.2.1 :: d.2.2.map wordT).getD 0 "" = "form" := rfl
      rw [e0, decide_eq_false (p := ("form" : Str) = "tops") (by decide +kernel), Bool.false_and, Bool.and_false]
    have hr : readW (("form" : Str) :: d.1 :: d.2.1 :: d.2.2.map wordT) = some d := by
      rw [← line_split R]
      exact line_read R
    have gin : d.1 ∉ (rs.filterMap rowF).map (·.1) := fun h => by
      have nm := O.names
      rw [List.filterMap_append, List.map_append, List.nodup_append] at nm
      exact nm.2.2 d.1 h d.1 (by simp [rowF]) rfl
    unfold takes
    rw [hw, if_neg (by rw [hb]; simp), if_neg (by rw [ht]; simp), hr]
    show (if d.1 ∈ (rs.filterMap rowF).map (·.1) then none else _) = _
    rw [if_neg gin]
    unfold gotOf
    simp [rowF]
/-- rows in any order, read -/
theorem rows_read {b : Str} {ts : List Str} {rs : List Row} (O : RowsOk b ts rs) : ∀ i, i ≤ rs.length → readTo ((rs.map (rowT b ts)).map V.str) i = some (gotOf b ts (rs.take i))
  | 0, _ => rfl
  | i + 1, h => by
    have il : i < rs.length := h
    have hv : ((rs.map (rowT b ts)).map V.str)[i]? = some (.str (rowT b ts rs[i])) := by
      rw [List.getElem?_map, List.getElem?_map, List.getElem?_eq_getElem il]
      rfl
    rw [readTo_step (rows_read O i (by omega)) hv]
    have e : rs = rs.take i ++ rs[i] :: rs.drop (i + 1) := by
      rw [← List.drop_eq_getElem_cons il, List.take_append_drop]
    have et : rs.take (i + 1) = rs.take i ++ [rs[i]] := by
      rw [List.take_add_one, List.getElem?_eq_getElem il]
      rfl
    rw [et]
    exact row_takes (more := rs.drop (i + 1)) (by rw [← e]; exact O)
end K04
set_option Elab.async false
set_option linter.all false
set_option autoImplicit false
set_option maxRecDepth 100000
set_option maxHeartbeats 8000000
namespace K04
open PySem PySem.Spec PyProof.Rows L2 Vb Wd Xd Xo Xm Xq Xg Ts K01 Zt Zk Zs Rl Rd Ed LamX
/-! one outcome of lines -/
theorem readTo_none {vs : List V} {k : Nat} (h : readTo vs k = none) : ∀ m, readTo vs (k + m) = none
  | 0 => h
  | m + 1 => by
    have ih := readTo_none h m
    show (match readTo vs (k + m), vs[k + m]? with
      | some g, some v => takes g v
      | _, _ => none) = none
    rw [ih]
theorem stop_one {vs : List V} {i j : Nat} {g g' : Got} (hi : readTo vs i = some g) (ni : readTo vs (i + 1) = none) (hj : readTo vs j = some g') (nj : readTo vs (j + 1) = none) : i = j := by
  rcases Nat.lt_trichotomy i j with h | h | h
  · have := readTo_none ni (j - (i + 1))
    rw [show i + 1 + (j - (i + 1)) = j by omega, hj] at this
    cases this
  · exact h
  · have := readTo_none nj (i - (j + 1))
    rw [show j + 1 + (i - (j + 1)) = i by omega, hi] at this
    cases this
theorem stop_end {vs : List V} {i n : Nat} {g' : Got} (ni : readTo vs (i + 1) = none) (hn : readTo vs n = some g') (h : i < n) : False := by
  have := readTo_none ni (n - (i + 1))
  rw [show i + 1 + (n - (i + 1)) = n by omega, hn] at this
  cases this
theorem perm_map {α β : Type} (f : α → β) {l k : List β} (h : l.Perm k) : ∀ {m : List α}, k = m.map f → ∃ l' : List α, l'.Perm m ∧ l = l'.map f := by
  induction h with
  | nil =>
    intro m e
    cases m with
    | nil => exact ⟨[], .refl _, rfl⟩
    | cons x m => cases e
  | cons x p ih =>
    intro m e
    cases m with
    | nil => cases e
    | cons y m =>
      rw [List.map_cons] at e
      injection e with e1 e2
      obtain ⟨l', p', e'⟩ := ih e2
      exact ⟨y :: l', p'.cons y, by rw [e', e1]; rfl⟩
  | swap x y r =>
    intro m e
    match m, e with
    | a :: c :: m, e =>
      rw [List.map_cons, List.map_cons] at e
      injection e with e1 e2
      injection e2 with e2 e3
      exact ⟨c :: a :: m, .swap a c m, by rw [e1, e2, e3]; rfl⟩
  | trans p q ih1 ih2 =>
    intro m e
    obtain ⟨l2, p2, e2⟩ := ih2 e
    obtain ⟨l1, p1, e1⟩ := ih1 e2
    exact ⟨l1, p1.trans p2, e1⟩
theorem GoodW.nam_ {y : Str} (h : y ∈ pool) : GoodW y := good_pool y (List.mem_append.mpr (.inl h))
theorem word_good {c : Str × Int} (hp : c.1 ∈ pool) (h0 : 0 ≤ c.2) (h3 : c.2 ≤ 3) : GoodW (wordT c) := by
  have hn := pool_nam _ hp
  obtain ⟨w1, w2⟩ := word_child hn h0 h3
  have e := word_cps (c := c) h0 h3
  refine ⟨fun h => ?_, fun _ => by rw [w2]; exact List.mem_append.mpr (.inl hp), Nat.le_trans (word_len' hn h0 h3) (by decide), fun x hx => ?_⟩
  · have := (nam_len h).2.2
    rw [e, List.all_append] at this
    simp only [Bool.and_eq_true, List.all_cons, List.all_nil, Bool.and_true] at this
    have l := this.2
    unfold low at l
    simp only [Bool.and_eq_true, decide_eq_true_eq] at l
    omega
  · rw [e] at hx
    rcases List.mem_append.mp hx with hx | hx
    · exact low_asc (nam_low hn) x hx
    · cases List.mem_singleton.mp hx
      omega
/-- rows of a drawn scheme -/
structure RowsG (b : Str) (ts : List Str) (rs : List Row) : Prop where
  ok : RowsOk b ts rs
  b : b ∈ pool
  t : (∀ y ∈ ts, y ∈ pool) ∧ ts.length ≤ 8
  f : ∀ d, Row.form d ∈ rs → d.1 ∈ pool ∧ d.2.1 ∈ pool ∧ ∀ c ∈ d.2.2, c.1 ∈ pool
theorem row_good {b : Str} {ts : List Str} {rs : List Row} (G : RowsG b ts rs) : ∀ r ∈ rs, LineG (rowT b ts r) ∧ (Txt.split (rowT b ts r) " ").length ≤ 9 := fun r hr => by
  have go : ∀ ws : List Str, ws ≠ [] → (∀ y ∈ ws, GoodW y ∧ NoSp y) → ws.length ≤ 9 → LineG (Txt.join " " ws) ∧ (Txt.split (Txt.join " " ws) " ").length ≤ 9 := fun ws n h l => by
    cases ws with
    | nil => exact absurd rfl n
    | cons w ws =>
      refine ⟨good_join (fun y hy => (h y hy).1.one (h y hy).2) (by omega), ?_⟩
      rw [words_back fun y hy => (h y hy).2]
      exact l
  have np : ∀ {y : Str}, y ∈ pool → GoodW y ∧ NoSp y := fun h => ⟨GoodW.nam_ h, nosp_nam (pool_nam _ h)⟩
  have nl : ∀ {y : Str}, y ∈ (["form", "tops", "bare"] : List Str) → GoodW y ∧ NoSp y := fun {y} h => by
    have hn : isNam (.str y) = true := by
      simp only [List.mem_cons, List.not_mem_nil, or_false] at h
      rcases h with rfl | rfl | rfl <;> decide +kernel
    refine ⟨good_pool y ?_, nosp_nam hn⟩
    simp only [List.mem_cons, List.not_mem_nil, or_false] at h
    rcases h with rfl | rfl | rfl <;> simp
  cases r with
  | bare =>
    have e : rowT b ts .bare = Txt.join " " ["bare", b] := by
      rw [TL.join_eq]
      show ("bare " : Str) ++ b = "bare" ++ " " ++ b
      rw [show ("bare " : Str) = "bare" ++ " " from by decide +kernel]
    rw [e]
    refine go _ (by simp) (fun y hy => ?_) (show 2 ≤ 9 by decide)
    simp only [List.mem_cons, List.not_mem_nil, or_false] at hy
    rcases hy with rfl | rfl
    · exact nl (by simp)
    · exact np G.b
  | tops =>
    have e : rowT b ts .tops = Txt.join " " ("tops" :: ts) := by
      cases ts with
      | nil => exact absurd rfl G.ok.nt.1
      | cons y r =>
        show ("tops " : Str) ++ Txt.join " " (y :: r) = _
        rw [TL.join_eq, TL.join_eq, show ("tops " : Str) = "tops" ++ " " from by decide +kernel]
        rfl
    rw [e]
    refine go _ (by simp) (fun y hy => ?_) (by have := G.t.2; rw [List.length_cons]; omega)
    rcases List.mem_cons.mp hy with rfl | hy
    · exact nl (by simp)
    · exact np (G.t.1 y hy)
  | form d =>
    have R := G.ok.nf d hr
    obtain ⟨g1, g2, g3⟩ := G.f d hr
    show LineG (Txt.join " " ("form" :: d.1 :: d.2.1 :: d.2.2.map wordT)) ∧ (Txt.split (Txt.join " " ("form" :: d.1 :: d.2.1 :: d.2.2.map wordT)) " ").length ≤ 9
    refine go _ (by simp) (fun y hy => ?_) (by have := R.hi; simp only [List.length_cons, List.length_map]; omega)
    rcases List.mem_cons.mp hy with rfl | hy
    · exact nl (by simp)
    rcases List.mem_cons.mp hy with rfl | hy
    · exact np g1
    rcases List.mem_cons.mp hy with rfl | hy
    · exact np g2
    · obtain ⟨c, hc, rfl⟩ := List.mem_map.mp hy
      obtain ⟨k1, k2, k3⟩ := R.kid c hc
      exact ⟨word_good (g3 c hc) k2 k3, noblank_word k1 k2 k3⟩
end K04
set_option Elab.async false
set_option linter.all false
set_option autoImplicit false
set_option maxRecDepth 100000
set_option maxHeartbeats 8000000
namespace K04
open PySem PySem.Spec PyProof.Rows L2 Vb Wd Xd Xo Xm Xq Xg Ts K01 Zt Zk Zs Rl Rd Ed LamX
theorem LinesOk.ext {H H' : Hp} {L : List Str} {ls : List V} (x : ExtN H H') (LO : LinesOk H L ls) : LinesOk H' L ls := ⟨LO.few, LO.lL, fun v hv => ⟨Judged.extN x (LO.each v hv).1, (LO.each v hv).2⟩⟩
theorem sch_of {g : Got} {b : Str} {ys : List Str} (e1 : g.1 = some b) (e2 : g.2.1 = some ys) : schG g = schB (.str b) (some ys) g.2.2 := by
  unfold schG
  rw [e1, e2]
  rfl
theorem due_lines {T : List (Addr × Str)} {C CS p : Addr} {ws : List V} {H : Hp} {Q R1 : VK} (LO : LinesOk H names14 ws) (e : H p = some (.lst ws)) (l14 : ws.length ≤ 14) (ht : Tabs T H) (q : ∀ H', ExtN H H' → Tabs T H' → Q (.bl true) H')
    (hR : ∀ v1 H1, spRead [.ref p] H1 (fun v2 H2 => spDue C CS [v1, v2] H2 Q E0) E0 → R1 v1 H1) : spTold T C CS [.ref p] H R1 E0 := by
  have fin : ∀ {H1 H2 H3 : Hp}, ExtN H H1 → Tabs T H1 → Same H1 H2 → Same H2 H3 → Q (.bl true) H3 := fun x t s s' => q _ (x.trans (ExtN.of (s.trans s'))) (t.ext (s.trans s'))
  refine ⟨p, ws, names14, rfl, e, l14, LO, ht, fun i g hi hg hn H1 x1 t1 => ?_, fun g hg => ⟨fun b ys e1 e2 e3 sc H1 ds x1 t1 S pm => ?_, fun bad H1 x1 t1 => ?_⟩⟩
  · refine hR _ _ ?_
    refine ⟨p, ws, names14, rfl, x1 _ _ e (fun _ z => nomatch z), LO.ext x1, fun j g' hj hg' hn' H2 s2 => ?_, fun g' hg' _ => (stop_end hn hg' hi).elim⟩
    obtain rfl := stop_one hg hn hg' hn'
    exact .inl ⟨_, rfl, fun H3 s3 => fin x1 t1 s2 s3⟩
  · refine hR _ _ ?_
    refine ⟨p, ws, names14, rfl, x1 _ _ e (fun _ z => nomatch z), LO.ext x1, fun j g' hj hg' hn' H2 s2 => (stop_end hn' hg hj).elim, fun g' hg' ok => ?_⟩
    obtain rfl := Option.some.inj (hg.symm.trans hg')
    refine ⟨fun bad => ?_, fun b' ys' e1' e2' e3' F tl tb ps H2 s2 X fy eps => ?_⟩
    · rw [sch_of e1 e2, e3] at bad
      cases bad
    · obtain rfl := Option.some.inj (e1.symm.trans e1')
      obtain rfl := Option.some.inj (e2.symm.trans e2')
      refine .inr ⟨sc, F, tl, tb, b, ys, ps, ds, rfl, S.same s2, X, ⟨by rw [eps]; exact e3, fun r hr => ?_, S.tops.1, S.tops.2.1, S.tops.2.2.1⟩, by rw [eps]; exact pm, fun H3 s3 => fin x1 t1 s2 s3⟩
      rw [eps] at hr
      exact (ok.form r hr).2
  · refine hR _ _ ?_
    refine ⟨p, ws, names14, rfl, x1 _ _ e (fun _ z => nomatch z), LO.ext x1, fun j g' hj hg' hn' H2 s2 => (stop_end hn' hg hj).elim, fun g' hg' ok => ?_⟩
    obtain rfl := Option.some.inj (hg.symm.trans hg')
    refine ⟨fun _ H2 s2 => .inl ⟨_, rfl, fun H3 s3 => fin x1 t1 s2 s3⟩, fun b' ys' e1' e2' e3' => ?_⟩
    rw [sch_of e1' e2', e3'] at bad
    cases bad
/-- what a drawn scheme's rows come to -/
theorem rows_whole {b : Str} {ts : List Str} {rows : List FD} {rs : List Row} (O : RowsOk b ts rs) (pm : rs.Perm (.bare :: .tops :: rows.map .form)) :
    ∃ g, readTo ((rs.map (rowT b ts)).map V.str) ((rs.map (rowT b ts)).map V.str).length = some g ∧ g.1 = some b ∧ g.2.1 = some ts ∧ g.2.2.Perm rows := by
  refine ⟨gotOf b ts rs, ?_, if_pos (pm.mem_iff.mpr List.mem_cons_self), if_pos (pm.mem_iff.mpr (by simp)), ?_⟩
  · have := rows_read O rs.length (Nat.le_refl _)
    rw [List.take_length] at this
    rw [List.length_map, List.length_map]
    exact this
  · have h := pm.filterMap rowF
    have e : (Row.bare :: .tops :: rows.map .form).filterMap rowF = rows := by
      show (rows.map Row.form).filterMap rowF = rows
      rw [List.filterMap_map]
      have : rows.filterMap (rowF ∘ Row.form) = rows.filterMap some := rfl
      rw [this, List.filterMap_some]
    rw [e] at h
    exact h
theorem rows_ok {b : Str} {ts : List Str} {rows : List FD} {rs : List Row} (O : SchOk b ts rows) (kids : ∀ d ∈ rows, Right d.1 d.2.1 d.2.2) (pm : rs.Perm (.bare :: .tops :: rows.map .form)) : RowsOk b ts rs := by
  obtain ⟨bm, _, _, once, _⟩ := O.parts
  have tp := O.tops.2.2
  rw [Bool.and_eq_true] at tp
  refine ⟨List.all_eq_true.mp tp.1 b bm, ⟨fun z => (by rw [z] at bm; cases bm), tp.1, tp.2⟩, fun d hd => ?_, ?_, ?_⟩
  · have := pm.mem_iff.mp hd
    simp only [List.mem_cons, List.mem_map, reduceCtorEq, false_or] at this
    obtain ⟨d', hd', e⟩ := this
    injection e with e
    exact e ▸ kids d' hd'
  · refine pm.nodup_iff.mpr ?_
    have nd : rows.Pairwise fun a c => a.1 ≠ c.1 := List.pairwise_map.mp once
    refine List.nodup_cons.mpr ⟨by simp, List.nodup_cons.mpr ⟨by simp, ?_⟩⟩
    exact List.pairwise_map.mpr (nd.imp fun {x y} h e => h (by injection e with e; rw [e]))
  · have h := (pm.filterMap rowF).map (·.1)
    refine h.nodup_iff.mpr ?_
    have e : (Row.bare :: .tops :: rows.map .form).filterMap rowF = rows := by
      show (rows.map Row.form).filterMap rowF = rows
      rw [List.filterMap_map]
      have : rows.filterMap (rowF ∘ Row.form) = rows.filterMap some := rfl
      rw [this, List.filterMap_some]
    rw [e]
    exact once
end K04
set_option Elab.async false
set_option linter.all false
set_option autoImplicit false
set_option maxRecDepth 100000
set_option maxHeartbeats 8000000
namespace K04
open PySem PySem.Spec PyProof.Rows L2 Vb Wd Xd Xo Xm Xq Xv Xg Ts K01 Oq Oi Zt Zk Zs Rl Rd Ed LamX
theorem Keep.ext {H H' : Hp} (e : ExtN H H') : Keep H H' := fun b o _ t h => e b o h t
theorem lines_ok {H : Hp} {b : Str} {ts : List Str} {rs : List Row} (G : RowsG b ts rs) (l : rs.length ≤ 40) : LinesOk H names14 ((rs.map (rowT b ts)).map V.str) := by
  refine ⟨by rw [List.length_map, List.length_map]; exact l, by decide +kernel, fun v hv => ?_⟩
  rw [List.map_map] at hv
  obtain ⟨r, hr, rfl⟩ := List.mem_map.mp hv
  obtain ⟨g, w⟩ := row_good G r hr
  have vg : ValG H (.str (rowT b ts r)) := g.val
  exact ⟨vg.jd, vg.few, line_in vg.wd⟩
theorem rows_perm {rows : List FD} (nd : (rows.map (·.1)).Nodup) {ys : List Str} (py : ys.Perm (rows.map (·.1))) : (ys.map fun y => rowOf rows y).Perm rows := by
  have h := py.map (rowOf rows)
  have e : (rows.map (·.1)).map (rowOf rows) = rows := by
    rw [List.map_map]
    conv => rhs; rw [← List.map_id rows]
    exact List.map_congr_left fun d hd => rowOf_self nd hd
  rw [e] at h
  exact h
abbrev s_l_right : Stmt := topS 52
theorem sc_l_right : FnScope ["_law_dice_here", "_law_plain", "_law_lines", "_law_scheme_here", "_law_turn", "_law_bent_here"] ["_law_dice_here"] (defScope s_l_right) := ⟨rfl, rfl, rfl, by decide +kernel, rfl, by decide +kernel, by decide +kernel⟩
def spRight (T : List (Addr × Str)) : Sp := fun vs H Q _ => ∃ d : Addr, vs = [.ref d] ∧ Dice H d ∧ Tabs T H ∧ ∀ H', Go T d H H' → Q (.bl true) H'
section
variable {P : Program} {w : World} {K : PySem.W.Frag} {mg : Str → Option Value} {base : Heap} {C CS CI : Addr}
theorem ok_l_right {T : List (Addr × Str)} (D : Df K mg "_law_right" s_l_right ["_law_dice_here"]) (VS : EnvS P w K mg base C CS CI) (M : EqS P w K mg base C CS) (ML : ∃ (p g : Addr) (fd : FuncData), PropOf K CS "lines" p g ∧ FnG P w K mg base 4 g fd ["self"] (spLinesS C CS) ∧ Binds K fd ["self"] [])
    (G_l_scheme : Cg P w K mg base 4 "_law_scheme" spLS) (G_l_mixed : Cg P w K mg base 2 "_law_mixed" (spMixed K)) (G_l_scheme_lines : Cg P w K mg base 1 "_law_scheme_lines" spSL) (G_l_told : Cg P w K mg base 12 "_law_told" (spTold T C CS)) (G_l_read : Cg P w K mg base 4 "_law_read" spRead) (G_l_bent : Cg P w K mg base 4 "_law_bent" spBent) (G_l_is_due : Cg P w K mg base 9 "_law_is_due" (spDue C CS))
    (z_range : mg "range" = none) (z_list : mg "list" = none) : Cg P w K mg base 13 "_law_right" (spRight T) := by
  obtain ⟨fQ, fdQ, FQ, eQ, tQ, bQ⟩ := M.eq
  obtain ⟨p6, g6, fd6, o6, G6, b6⟩ := ML
  refine D.ok sc_l_right (fun vs H Q E h => ?_) (fun cdv A outer s H vs Q E f0 hc hr h => ?_)
  · obtain ⟨d, rfl, _⟩ := h
    rfl
  · obtain ⟨d, rfl, hd, ht, q⟩ := h
    refine ⟨_, (pss_cons (ps_set (i := 1) sc_l_right.nd rfl (Or.inl rfl) (pe_cg G_l_scheme hc hr (by rfl) (pa_cons (pv 0) (pa_cons pe_int (pa_cons pe_int pa_nil)))))
      (pss_cons (ps_set (i := 2) sc_l_right.nd rfl (Or.inl rfl) (pe_cg G_l_mixed hc hr (by rfl) (pa_cons (pv 0) (pa_cons (pe_cg G_l_scheme_lines hc hr (by rfl) (pa_cons (pv 1) pa_nil)) pa_nil))))
      (pss_cons (ps_set (i := 3) sc_l_right.nd rfl (Or.inl rfl) (pe_cg G_l_told hc hr (by rfl) (pa_cons (pv 2) pa_nil)))
      (pss_cons (ps_if (PW.pt (pw_or (pt_not (pt_val (pe_cg G_l_is_due hc hr (by rfl) (pa_cons (pv 3) (pa_cons (pv 1) pa_nil))))) (pw_or1 (pt_not (pt_val (pe_cg G_l_is_due hc hr (by rfl) (pa_cons (pv 3) (pa_cons (pe_cg G_l_read hc hr (by rfl) (pa_cons (pv 2) pa_nil)) pa_nil))))))))
      (pss_one (ps_ret pe_bl))
      pss_nil)
      (pss_cons (ps_if (pt_cmpR (op_neO FQ eQ tQ M.ne M.mo bQ hc (hr.mono (by decide))) (pe_cg G_l_told hc hr (by rfl) (pa_cons (pe_callTy call_list_of (by rfl) z_list (by decide +kernel) (pa_cons (pe_propG (n := "lines") (pv 3) VS.T.c o6 G6 hc (hr.mono (by decide)) b6) pa_nil)) pa_nil)) (pv 3) (nomark _))
      (pss_one (ps_ret pe_bl))
      pss_nil)
      (pss_cons (ps_for PassesOwn.never rfl (pi_range1 (by rfl) z_range (pa_cons pe_int pa_nil)) (pg_name (i := 4) sc_l_right.nd rfl (Or.inl rfl))
      (pss_cons (ps_set (i := 5) sc_l_right.nd rfl (Or.inl rfl) (pe_cg G_l_bent hc hr (by rfl) (pa_cons (pv 0) (pa_cons (pv 2) pa_nil))))
      (pss_one (ps_if (pt_not (pt_val (pe_cg G_l_is_due hc hr (by rfl) (pa_cons (pe_cg G_l_told hc hr (by rfl) (pa_cons (pv 5) pa_nil)) (pa_cons (pe_cg G_l_read hc hr (by rfl) (pa_cons (pv 5) pa_nil)) pa_nil)))))
      (pss_one (ps_ret pe_bl))
      pss_nil))))
      (pss_one (ps_ret pe_bl)))))))), ?_⟩
    refine ⟨_, rfl, d, 8, 10, rfl, hd, by decide, by decide, by decide, by decide, fun a tl tb b ts ps H1 p1 na ad X F pl => ?_⟩
    have few : (ps.map (·.1)).length ≤ 24 := by rw [List.length_map]; omega
    have O := F.ok few
    have G1 : Go T d H H1 := Go.past hd ht p1
    obtain ⟨bm, _, _, once, _⟩ := O.parts
    have kids : ∀ r ∈ ps.map (·.1), Right r.1 r.2.1 r.2.2 := fun r hr => by
      have nm := O.nams r hr
      have kn := X.kids r hr
      obtain ⟨p', hp', rfl⟩ := List.mem_map.mp hr
      obtain ⟨ch, ks, _, kk⟩ := X.row p' hp'
      have l1 := kk.lo
      have l2 := kk.hi
      have l3 := kk.len
      refine ⟨nm.1, nm.2, by omega, by omega, fun c hc' => ⟨kn c hc', ?_⟩⟩
      obtain ⟨j, hj⟩ := List.mem_iff_getElem?.mp hc'
      have jl := (List.getElem?_eq_some_iff.mp hj).1
      have kd := kk.kid j ks[j] c (List.getElem?_eq_getElem (by omega)) hj
      exact ⟨kd.lo, kd.hi⟩
    have RG : ∀ {rs : List Row}, rs.Perm (.bare :: .tops :: (ps.map (·.1)).map .form) → RowsG b ts rs := fun {rs} pm => by
      obtain ⟨zs, znd, zl, zp, tz, rz⟩ := F.ex
      refine ⟨rows_ok O kids pm, zp b (tz b bm), ⟨fun y hy => zp y (tz y hy), Nat.le_trans (nodup_len ts zs F.nd tz) zl⟩, fun d' hd' => ?_⟩
      have := pm.mem_iff.mp hd'
      simp only [List.mem_cons, List.mem_map (f := Row.form), reduceCtorEq, false_or] at this
      obtain ⟨d2, hd2, e⟩ := this
      injection e with e
      subst e
      refine ⟨F.named _ hd2, zp _ (rz _ hd2 _ (by simp [saidBy])), fun c hc' => zp _ (rz _ hd2 _ ?_)⟩
      unfold saidBy
      exact List.mem_cons_of_mem _ (List.mem_map.mpr ⟨c, hc', rfl⟩)
    refine ⟨_, rfl, _, rfl, a, tl, tb, b, ts, ps.map (·.1), kvsP ps, rfl, X.plain O, fun wp ys H2 s2 np2 e2 py sy => ?_⟩
    have G2 := G1.thenS s2
    have eZ : (("bare " ++ b) :: ("tops " ++ Txt.join " " ts) :: ys.map (lineOf (ps.map (·.1)))) = (Row.bare :: .tops :: ys.map fun y => Row.form (rowOf (ps.map (·.1)) y)).map (rowT b ts) := by
      rw [List.map_cons, List.map_cons, List.map_map]
      rfl
    have pm0 : (Row.bare :: .tops :: ys.map fun y => Row.form (rowOf (ps.map (·.1)) y)).Perm (.bare :: .tops :: (ps.map (·.1)).map .form) := by
      have h := (rows_perm once py).map Row.form
      rw [List.map_map] at h
      exact (h.cons _).cons _
    have e2' : H2 wp = some (.lst (((Row.bare :: .tops :: ys.map fun y => Row.form (rowOf (ps.map (·.1)) y)).map (rowT b ts)).map V.str)) := by
      rw [← eZ]
      exact e2
    have RG0 := RG pm0
    generalize (Row.bare :: .tops :: ys.map fun y => Row.form (rowOf (ps.map (·.1)) y)) = rs0 at pm0 e2' RG0
    have l0 : rs0.length ≤ 12 := by
      have := pm0.length_eq
      simp only [List.length_cons, List.length_map] at this
      omega
    refine ⟨d, wp, rs0.map (rowT b ts), rfl, G2.dice, .inl (.inl e2'), fun y hy => ?_, by rw [List.length_map]; omega, fun lp zs H3 p3 n3 nd3 e3 pz => ?_⟩
    · obtain ⟨r, hr, rfl⟩ := List.mem_map.mp hy
      exact (row_good RG0 r hr).1.asc
    obtain ⟨rs, pr, rfl⟩ := perm_map (rowT b ts) pz rfl
    have pm := pr.trans pm0
    have RGr := RG pm
    have lr : rs.length ≤ 12 := by rw [pr.length_eq]; exact l0
    have G3 := G2.thenP p3
    have X3 := (X.same s2).keep (Keep.past G2.dice p3)
    obtain ⟨g, hg, g1, g2, g3⟩ := rows_whole RGr.ok pm
    have good : schB (.str b) (some ts) g.2.2 = true := (O.perm g3).sch
    have goodG : schG g = true := by rw [sch_of g1 g2]; exact good
    refine ⟨_, rfl, lp, _, names14, rfl, e3, by rw [List.length_map, List.length_map]; omega, lines_ok RGr (by omega), G3.tabs, fun i g' hi hg' hn => (stop_end hn hg hi).elim, fun g' hg' => ?_⟩
    obtain rfl := Option.some.inj (hg.symm.trans hg')
    refine ⟨fun b' ys' e1 e2 _ sc H4 ds x4 t4 S4 pd4 => ?_, fun bad => (by rw [goodG] at bad; cases bad)⟩
    obtain rfl := Option.some.inj (g1.symm.trans e1)
    obtain rfl := Option.some.inj (g2.symm.trans e2)
    clear e1 e2
    replace pd4 := pd4.trans g3
    have G4 := G3.thenE x4 t4
    have X4 := X3.keep (Keep.ext x4)
    have e4 := x4 _ _ e3 (fun _ z => nomatch z)
    refine ⟨_, rfl, _, rfl, .inr ⟨sc, a, tl, tb, b, ts, ps, ds, rfl, S4, X4, O, pd4, fun H5 s5 => ⟨_, rfl, iteF ?_⟩⟩⟩
    have e5 := s5 _ _ e4
    refine ⟨_, rfl, _, rfl, lp, _, names14, rfl, e5, lines_ok RGr (by omega), fun i g' hi hg' hn => (stop_end hn hg hi).elim, fun g' hg' ok => ?_⟩
    obtain rfl := Option.some.inj (hg.symm.trans hg')
    refine ⟨fun bad => (by rw [goodG] at bad; cases bad), fun b' ys' e1 e2 e3' F2 tl2 tb2 ps2 H6 s6 X6 fy eps => ?_⟩
    obtain rfl := Option.some.inj (g1.symm.trans e1)
    obtain rfl := Option.some.inj (g2.symm.trans e2)
    have g3e : (ps2.map (·.1)).Perm (ps.map (·.1)) := by rw [eps]; exact g3
    refine .inr ⟨sc, F2, tl2, tb2, b, ts, ps2, ds, rfl, (S4.same s5).same s6, X6, O.perm g3e, pd4.trans g3e.symm, fun H7 s7 => ⟨_, rfl, iteF ?_⟩⟩
    have s47 := s5.trans (s6.trans s7)
    have G7 := G4.thenS s47
    have S7 := S4.same s47
    have e7 := s47 _ _ e4
    have pm1 : (Row.bare :: .tops :: ds.map Row.form).Perm (.bare :: .tops :: (ps.map (·.1)).map .form) := ((pd4.map Row.form).cons _).cons _
    have eL : linesF b ts ds = (Row.bare :: .tops :: ds.map Row.form).map (rowT b ts) := by
      unfold linesF
      rw [List.map_cons, List.map_cons, List.map_map]
      rfl
    have RG1 := RG pm1
    have l1 : (Row.bare :: .tops :: ds.map Row.form).length ≤ 12 := by
      have := pm1.length_eq
      simp only [List.length_cons, List.length_map] at this ⊢
      omega
    obtain ⟨gg, hgg, gg1, gg2, gg3⟩ := rows_whole RG1.ok pm1
    have goodG2 : schG gg = true := by rw [sch_of gg1 gg2]; exact (O.perm gg3).sch
    obtain ⟨dx7, fs7, i7⟩ := S7.ins
    refine ⟨_, rfl, sc, dx7, _, rfl, i7, ask_lines S7 fun lp2 H8 s8 e8 => ?_⟩
    refine ⟨lp2, _, rfl, .inr (.inl (.inl e8)), fun l9 nl9 => ?_⟩
    have s9 := same_new (o := .lst ((linesF b ts ds).map V.str)) nl9
    have e9 : (upd H8 l9 (.lst ((linesF b ts ds).map V.str))) l9 = some (.lst ((linesF b ts ds).map V.str)) := upd_same
    rw [eL] at s9 e9 ⊢
    have s79 := s8.trans s9
    have G9 := G7.thenS s79
    generalize (Row.bare :: .tops :: ds.map Row.form) = rs1 at pm1 RG1 l1 hgg e9 s9 s79 G9 ⊢
    refine ⟨l9, _, names14, rfl, e9, by rw [List.length_map, List.length_map]; omega, lines_ok RG1 (by omega), G9.tabs, fun i g' hi hg' hn => (stop_end hn hgg hi).elim, fun g' hg' => ?_⟩
    obtain rfl := Option.some.inj (hgg.symm.trans hg')
    refine ⟨fun b' ys' e1 e2 _ sc2 H10 ds2 x10 t10 S10 pd10 => ?_, fun bad => (by rw [goodG2] at bad; cases bad)⟩
    obtain rfl := Option.some.inj (gg1.symm.trans e1)
    obtain rfl := Option.some.inj (gg2.symm.trans e2)
    have G10 := G9.thenE x10 t10
    have S10' := (S7.same s79).keep (Keep.ext x10)
    have ed : ds2 = ds := forms_one pd4 (pd10.trans gg3) S10'.srt S10.srt once
    rw [ed] at S10
    obtain ⟨dx8, fs8, i8⟩ := S10.ins
    obtain ⟨dx9, fs9, i9⟩ := S10'.ins
    refine ⟨_, rfl, sc2, sc, dx8, dx9, _, _, rfl, rfl, i8, i9, eq_same S10 S10' fun H11 s11 => ⟨_, rfl, _, rfl, iteF ?_⟩⟩
    have G11 := G10.thenS s11
    have e11 := s11 _ _ (x10 _ _ (s79 _ _ e7) (fun _ z => nomatch z))
    refine ⟨8, rfl, by decide, by decide, for_range (lo := 0) (fun i σ H' => ∃ o4 o5 : Option V, σ = [some (.ref d), some (.ref a), some (.ref lp), some (.ref sc), o4, o5] ∧ Go T d H H' ∧ H' lp = some (.lst ((rs.map (rowT b ts)).map V.str))) ⟨none, none, rfl, G11, e11⟩ (fun i σ H12 hi h => ?_) (fun σ H12 h => ?_)⟩
    · obtain ⟨o4, o5, rfl, G12, e12⟩ := h
      refine ⟨_, rfl, _, rfl, d, lp, rs.map (rowT b ts), rfl, G12.dice, e12, nd3, ?_, by rw [List.length_map]; exact lr, fun z hz => ?_, fun p ws H13 p13 ep pd l14 gv => ?_⟩
      · have := pr.length_eq
        have h2 := pm.length_eq
        simp only [List.length_cons] at h2
        intro z
        have := congrArg List.length z
        rw [List.length_map] at this
        simp only [List.length_nil] at this
        omega
      · obtain ⟨r, hr, rfl⟩ := List.mem_map.mp hz
        exact row_good RGr r hr
      · have G13 := G12.thenP p13
        have LO : LinesOk H13 names14 ws := ⟨by omega, by decide +kernel, fun v hv => ⟨(gv v hv).jd, (gv v hv).few, line_in (gv v hv).wd⟩⟩
        have nxt : ∀ {H14 : Hp}, ExtN H13 H14 → Tabs T H14 → ∃ o4' o5' : Option V, ([some (V.ref d), some (V.ref a), some (V.ref lp), some (V.ref sc), some (V.int (0 + (i : Nat))), some (V.ref p)] : L2.St) = [some (.ref d), some (.ref a), some (.ref lp), some (.ref sc), o4', o5'] ∧ Go T d H H14 ∧ H14 lp = some (.lst ((rs.map (rowT b ts)).map V.str)) := fun x14 t14 =>
          ⟨_, _, rfl, G13.thenE x14 t14, x14 _ _ (p13.1 _ _ nd3 e12) (fun _ z => nomatch z)⟩
        have fin : ∀ {H1 H2 H3 : Hp}, ExtN H13 H1 → Tabs T H1 → Same H1 H2 → Same H2 H3 → ExtN H13 H3 ∧ Tabs T H3 := fun x t s s' => ⟨x.trans (ExtN.of (s.trans s')), t.ext (s.trans s')⟩
        refine ⟨_, rfl, p, ws, names14, rfl, ep, l14, LO, G13.tabs, fun i2 g4 hi hg hn H1 x1 t1 => ?_, fun g4 hg => ⟨fun b5 ys5 e1 e2 e3 sc5 H1 ds5 x1 t1 S pm5 => ?_, fun bad H1 x1 t1 => ?_⟩⟩
        · refine ⟨_, rfl, p, ws, names14, rfl, x1 _ _ ep (fun _ z => nomatch z), LO.ext x1, fun j g' hj hg' hn' H2 s2 => ?_, fun g' hg' _ => (stop_end hn hg' hi).elim⟩
          obtain rfl := stop_one hg hn hg' hn'
          exact .inl ⟨_, rfl, fun H3 s3 => ⟨_, rfl, iteF (nxt (fin x1 t1 s2 s3).1 (fin x1 t1 s2 s3).2)⟩⟩
        · refine ⟨_, rfl, p, ws, names14, rfl, x1 _ _ ep (fun _ z => nomatch z), LO.ext x1, fun j g' hj hg' hn' H2 s2 => (stop_end hn' hg hj).elim, fun g' hg' ok => ?_⟩
          obtain rfl := Option.some.inj (hg.symm.trans hg')
          refine ⟨fun bad => ?_, fun b' ys' e1' e2' e3' F5 tl5 tb5 ps5 H2 s2 X5 fy eps => ?_⟩
          · rw [sch_of e1 e2, e3] at bad
            cases bad
          · obtain rfl := Option.some.inj (e1.symm.trans e1')
            obtain rfl := Option.some.inj (e2.symm.trans e2')
            refine .inr ⟨sc5, F5, tl5, tb5, b5, ys5, ps5, ds5, rfl, S.same s2, X5, ⟨by rw [eps]; exact e3, fun r hr => ?_, S.tops.1, S.tops.2.1, S.tops.2.2.1⟩, by rw [eps]; exact pm5, fun H3 s3 => ⟨_, rfl, iteF (nxt (fin x1 t1 s2 s3).1 (fin x1 t1 s2 s3).2)⟩⟩
            rw [eps] at hr
            exact (ok.form r hr).2
        · refine ⟨_, rfl, p, ws, names14, rfl, x1 _ _ ep (fun _ z => nomatch z), LO.ext x1, fun j g' hj hg' hn' H2 s2 => (stop_end hn' hg hj).elim, fun g' hg' ok => ?_⟩
          obtain rfl := Option.some.inj (hg.symm.trans hg')
          refine ⟨fun _ H2 s2 => .inl ⟨_, rfl, fun H3 s3 => ⟨_, rfl, iteF (nxt (fin x1 t1 s2 s3).1 (fin x1 t1 s2 s3).2)⟩⟩, fun b' ys' e1' e2' e3' => ?_⟩
          rw [sch_of e1' e2', e3'] at bad
          cases bad
    · obtain ⟨o4, o5, rfl, G12, e12⟩ := h
      exact q H12 G12
end
end K04
set_option Elab.async false
set_option linter.all false
set_option autoImplicit false
set_option maxRecDepth 100000
set_option maxHeartbeats 4000000
/-! Vt: the law's end in calm room, with tables of code objects that may grow. -/
namespace Vt
open PySem PySem.Spec PyProof.Rows L2 Vb LamX
section
variable {P : Program} {w : World} {K : PySem.W.Frag} {mg mb : Str → Option Value} {s₁ : Shared} {H : Hp} {a : Addr} {ts : List Addr}
/-- what is seen behind the top: the script and the tables alone may be tracked -/
structure Few (K : PySem.W.Frag) (s₁ : Shared) (H : Hp) (a : Addr) (ts : List Addr) : Prop where
  only : ∀ b, H b = none ∨ (b ∈ ts ∧ H b = some (.tbl #[])) ∨ (b = a ∧ ∃ o xs, H b = some (.frz o (.lst xs)))
  noK : ∀ b, H b ≠ none → K.lookup b = none
  isL : ∃ vs n cl, s₁.heap.get? a = some { cls := cl, data := .seq vs n }
  isT : ∀ b ∈ ts, s₁.heap.get? b = some { cls := .none, data := .fields #[] }
theorem Few.off (L : Few K s₁ H a ts) {b : Addr} {o : Obj} (e : s₁.heap.get? b = some o) (h1 : ∀ vs n, o.data ≠ .seq vs n) (h2 : o.data ≠ .fields #[]) : H b = none := by
  rcases L.only b with h | ⟨hb, _⟩ | ⟨rfl, _⟩
  · exact h
  · have q := (L.isT b hb).symm.trans e
    cases q
    exact (h2 rfl).elim
  · obtain ⟨vs, n, cl, q⟩ := L.isL
    have q := q.symm.trans e
    cases q
    exact (h1 _ _ rfl).elim
theorem Few.offK (L : Few K s₁ H a ts) {b : Addr} {o : Obj} (e : K.lookup b = some o) : H b = none := Classical.byContradiction fun n => by
  have q := (L.noK b n).symm.trans e
  cases q
theorem Few.ns (L : Few K s₁ H a ts) {b : Addr} {m : Str → Option Value} (h : s₁.heap.Ns b m) : (hidT s₁.heap H).Ns b m := by
  obtain ⟨o, es, ep, e, d, r⟩ := h
  refine ⟨o, es, ep, hidT_get e (L.off e (fun vs n z => ?_) fun z => ?_), d, r⟩
  · rw [d] at z
    cases z
  · rw [d] at z
    cases z
theorem Few.kin (L : Few K s₁ H a ts) (KX : K.In s₁.heap) : K.In (hidT s₁.heap H) := fun b o e => hidT_get (KX b o e) (L.offK e)
theorem Few.tab (L : Few K s₁ H a ts) {c p : Addr} (hp : p ∈ ts) (C : PySem.W.CodeHd s₁.heap c p) (hns : s₁.heap.Ns mainGlobals mg)
    (hbm : ∃ (bm : Addr) (ob : Obj), mg "__builtins__" = some (.ref bm) ∧ bm ≠ builtinsNs ∧ s₁.heap.get? bm = some ob ∧ ob.cls = .type "module" ∧ ob.dict = some builtinsNs ∧ ob.data = .plain) : TabB (hidT s₁.heap H) mg c p := by
  have tp := L.isT p hp
  obtain ⟨o, us, file, tf, flags, tg, inF, text, tt, e1, r1, r2, r3, r4, r5, r6, r7, r8, hne⟩ := C
  obtain ⟨bm, ob, b1, b2, b3, b4, b5, b6⟩ := hbm
  obtain ⟨og, es, ep, eg, dg, _⟩ := hns
  have plainOff : H bm = none := L.off b3 (fun vs n z => by rw [b6] at z; cases z) fun z => by rw [b6] at z; cases z
  have codeOff : H c = none := L.off e1 (fun vs n z => by rw [r2] at z; cases z) fun z => by
    rw [r2] at z
    cases z
    simp at r3
  refine ⟨⟨o, us, file, tf, flags, tg, inF, text, tt, hidT_get e1 codeOff, r1, r2, r3, r4, r5, r6, r7, r8, hne⟩, ⟨bm, ob, b1, b2, fun q => ?_, fun q => ?_, hidT_get b3 plainOff, b4, b5, b6⟩, fun q => ?_⟩
  · rw [q, eg] at b3
    cases b3
    rw [dg] at b6
    cases b6
  · rw [q, tp] at b3
    cases b3
    cases b6
  · rw [q, tp] at eg
    cases eg
    cases dg
end
section
variable {P : Program} {w : World} {K : PySem.W.Frag} {mg mb : Str → Option Value} {s₁ : Shared} {a : Addr} {cs : List (Addr × Addr)} {k : Nat} {fa : Addr} {fd : FuncData} {x : Str} {sp : Sp} {vs : List Value} {ns : List Int}
/-- the law's call, from its promise in calm room -/
theorem law_goesT (KX : K.In s₁.heap) (hns : s₁.heap.Ns mainGlobals mg) (hb : s₁.heap.Ns builtinsNs mb) (hbb : ∀ x : Str, x ≠ "__name__" → mb x = bootBuiltins x) (hlim : s₁.heap.NoLimit) (hg : s₁.gens = #[])
    (hT : ∀ p ∈ cs, s₁.heap.get? p.2 = some { cls := .none, data := .fields #[] }) (nT : ∀ p ∈ cs, K.lookup p.2 = none) (C : ∀ p ∈ cs, PySem.W.CodeHd s₁.heap p.1 p.2)
    (hbm : ∃ (bm : Addr) (ob : Obj), mg "__builtins__" = some (.ref bm) ∧ bm ≠ builtinsNs ∧ s₁.heap.get? bm = some ob ∧ ob.cls = .type "module" ∧ ob.dict = some builtinsNs ∧ ob.data = .plain)
    (ha : s₁.heap.get? a = some { cls := .type "list", data := .seq vs.toArray }) (hi : IntsAre vs ns) (hl : ns.length ≤ sizeLine) (hr : Room k callerA)
    (F : ∀ base : Heap, K.In base → base.Ns mainGlobals mg → (∀ p ∈ cs, TabB base mg p.1 p.2) → FnG P w K mg base k fa fd [x] sp) (bind : ∀ (s : Shared) (u : Value), BindsTo s fd ⟨[u], []⟩ [(x, u)])
    (hsp : ∀ H : Hp, (∀ p ∈ cs, H p.2 = some (.tbl #[])) → SqL K H a (ns.map V.int) → sp [.ref a] H (fun v _ => v = .bl true) fun _ _ _ => False) :
    codeAny (model P w) callerA (.call (.ref fa) ⟨[.ref a], []⟩) (fun r s' => r = .ok (.ret (.bool true)) ∧ OldK s₁.heap s'.heap ∧ s'.os = s₁.os ∧ AllBare s'.gens) s₁ := by
  have rv := vals_ints hi
  have memT : ∀ p ∈ cs, p.2 ∈ cs.map (·.2) := fun p hp => List.mem_map.mpr ⟨p, hp, rfl⟩
  have tabT : ∀ b ∈ cs.map (·.2), s₁.heap.get? b = some { cls := .none, data := .fields #[] } := fun b hb => by
    obtain ⟨p, hp, rfl⟩ := List.mem_map.mp hb
    exact hT p hp
  have tabK : ∀ b ∈ cs.map (·.2), K.lookup b = none := fun b hb => by
    obtain ⟨p, hp, rfl⟩ := List.mem_map.mp hb
    exact nT p hp
  have aT : a ∉ cs.map (·.2) := fun z => by
    have q := ha.symm.trans (tabT a z)
    cases (show Data.seq vs.toArray _ = Data.fields #[] from congrArg Obj.data (Option.some.inj q))
  have core : ∀ H : Hp, Few K s₁ H a (cs.map (·.2)) → (∀ p ∈ cs, H p.2 = some (.tbl #[])) → SqL K H a (ns.map V.int) → HOk P w H s₁.heap →
      codeAny (model P w) callerA (.call (.ref fa) ⟨[.ref a], []⟩) (fun r s' => r = .ok (.ret (.bool true)) ∧ OldK s₁.heap s'.heap ∧ s'.os = s₁.os ∧ AllBare s'.gens) s₁ := by
    intro H L hH hS hok
    obtain ⟨mc, c1, c2⟩ := hlim
    have e0 : Env0 P w K mg (hidT s₁.heap H) callerA [] s₁ H := ⟨rfl, ⟨L.kin KX, L.ns hns, ⟨mb, L.ns hb, hbb⟩, ⟨mc, L.ns c1, c2⟩⟩, fun b o e => of_hidT e, Nat.le_of_eq (hidT_size _ _), trivial, fun b z => (List.not_mem_nil z).elim, hok, .of_eq hg⟩
    have G := F _ (L.kin KX) (L.ns hns) fun p hp => L.tab (memT p hp) (C p hp) hns hbm
    refine codeAny_mono (G.goes callerA [] s₁ H ⟨[.ref a], []⟩ [.ref a] [.ref a] _ _ calm_caller hr e0 (bind s₁ (.ref a)) (.cons rfl .nil) (hsp H hH hS)) fun r s' h => ?_
    match r, h with
    | .error _, h => exact h.elim
    | .ok .next, h => exact h.elim
    | .ok .brk, h => exact h.elim
    | .ok .cont, h => exact h.elim
    | .ok (.ret u), h =>
      obtain ⟨v, H', os, bare, un, hok', r', q⟩ := h
      cases (show v = .bl true from q)
      cases (show u = Value.bool true from r')
      have stays : ∀ b o, b ∉ cs.map (·.2) → s₁.heap.get? b = some o → s'.heap.get? b = some o := fun b o nb e => by
        rcases L.only b with z | ⟨z, _⟩ | ⟨_, ob, xs, z⟩
        · exact un.keep b o e z (fun z => (List.not_mem_nil z).elim) (fun z => (List.not_mem_nil z).elim)
        · exact absurd z nb
        · have before := (hok b _ z).1
          have after := (hok' b _ (un.frzs b ob _ z)).1
          cases before.symm.trans e
          exact after
      have grows : ∀ p ∈ cs, ∃ more : Array Value, s'.heap.get? p.2 = some { cls := .none, data := .fields more } := fun p hp => by
        obtain ⟨more, z⟩ := un.tbls p.2 #[] (hH p hp)
        exact ⟨_, hok' p.2 _ z⟩
      refine ⟨rfl, ⟨fun b o e => ?_, fun b o e => ?_⟩, os, bare⟩
      · by_cases hb' : b ∈ cs.map (·.2)
        · obtain ⟨p, hp, rfl⟩ := List.mem_map.mp hb'
          obtain ⟨more, hm⟩ := grows p hp
          cases (hT p hp).symm.trans e
          exact .inr (.inl ⟨((C p hp).tab (hT p hp)).isCodeTable, rfl, #[], more, rfl, by rw [Array.empty_append]; exact hm⟩)
        · exact .inl (stays b o hb' e)
      · by_cases hb' : b ∈ cs.map (·.2)
        · obtain ⟨p, hp, rfl⟩ := List.mem_map.mp hb'
          obtain ⟨more, hm⟩ := grows p hp
          exact ⟨_, hm⟩
        · exact ⟨o, stays b o hb' e⟩
  cases hk : K.lookup a with
  | some o =>
    cases ha.symm.trans (KX a o hk)
    have at_ : ∀ b u, (if b ∈ cs.map (·.2) then some (HO.tbl #[]) else none) = some u → b ∈ cs.map (·.2) ∧ u = .tbl #[] := fun b u z => by
      by_cases hb' : b ∈ cs.map (·.2)
      · rw [if_pos hb'] at z
        exact ⟨hb', (Option.some.inj z).symm⟩
      · rw [if_neg hb'] at z
        cases z
    refine core (fun b => if b ∈ cs.map (·.2) then some (.tbl #[]) else none) ⟨fun b => ?_, fun b n => ?_, ⟨_, _, _, ha⟩, tabT⟩ (fun p hp => if_pos (memT p hp)) (.inr ⟨_, vs.toArray, _, hk, rfl, rfl, rfl, by rw [List.size_toArray, hi.length]; exact hl, by simpa using rv⟩) (fun b u z => ?_)
    · by_cases hb' : b ∈ cs.map (·.2)
      · exact .inr (.inl ⟨hb', if_pos hb'⟩)
      · exact .inl (if_neg hb')
    · by_cases hb' : b ∈ cs.map (·.2)
      · exact tabK b hb'
      · exact absurd (if_neg hb') n
    · obtain ⟨h1, rfl⟩ := at_ b u z
      exact tabT b h1
  | none =>
    let S : HO := .frz { cls := .type "list", data := .seq vs.toArray } (.lst (ns.map V.int))
    have nTa : ∀ b ∈ cs.map (·.2), ¬ b = a := fun b hb z => aT (z ▸ hb)
    refine core (fun b => if b = a then some S else if b ∈ cs.map (·.2) then some (.tbl #[]) else none) ⟨fun b => ?_, fun b n => ?_, ⟨_, _, _, ha⟩, tabT⟩ (fun p hp => (if_neg (nTa _ (memT p hp))).trans (if_pos (memT p hp))) (.inl (.inr ⟨{ cls := .type "list", data := .seq vs.toArray }, if_pos rfl⟩)) (fun b u z => ?_)
    · by_cases q : b = a
      · exact .inr (.inr ⟨q, _, _, if_pos q⟩)
      · by_cases hb' : b ∈ cs.map (·.2)
        · exact .inr (.inl ⟨hb', (if_neg q).trans (if_pos hb')⟩)
        · exact .inl ((if_neg q).trans (if_neg hb'))
    · by_cases q : b = a
      · rw [q]
        exact hk
      · by_cases hb' : b ∈ cs.map (·.2)
        · exact tabK b hb'
        · exact absurd ((if_neg q).trans (if_neg hb')) n
    · by_cases q : b = a
      · have z' := (if_pos q).symm.trans z
        cases z'
        rw [q]
        exact ⟨ha, by rw [List.length_map]; exact hl, vs, _, rv, ha⟩
      · have z1 := (if_neg q).symm.trans z
        by_cases hb' : b ∈ cs.map (·.2)
        · have z' := (if_pos hb').symm.trans z1
          cases z'
          exact tabT b hb'
        · have z' := (if_neg hb').symm.trans z1
          cases z'
end
/-- the tables' part left out of the written part -/
def less (K : PySem.W.Frag) (ts : List Addr) : PySem.W.Frag := K.filter fun p => !ts.contains p.1
theorem less_at (ts : List Addr) : ∀ (K : PySem.W.Frag) (b : Addr), (less K ts).lookup b = if ts.contains b then none else K.lookup b
  | [], b => by simp [less]
  | (c, o) :: K, b => by
    have ih := less_at ts K b
    unfold less at ih ⊢
    rw [List.filter_cons]
    by_cases hc : ts.contains c = true
    · rw [hc]
      simp only [Bool.not_true, Bool.false_eq_true, if_false]
      rw [ih]
      by_cases hb : ts.contains b = true
      · rw [if_pos hb, if_pos hb]
      · rw [if_neg hb, if_neg hb]
        have ne : (b == c) = false := by
          rw [beq_eq_false_iff_ne]
          intro z
          rw [z] at hb
          exact hb hc
        rw [List.lookup_cons, ne]
    · have hc' : ts.contains c = false := by simpa using hc
      rw [hc']
      simp only [Bool.not_false, if_true]
      rw [List.lookup_cons, List.lookup_cons, ih]
      by_cases e : (b == c) = true
      · have : b = c := by simpa using e
        rw [e, this, hc']
        rfl
      · have e' : (b == c) = false := by simpa using e
        rw [e']
theorem less_in {K : PySem.W.Frag} {ts : List Addr} {h : Heap} (X : K.In h) : (less K ts).In h := fun b o e => by
  rw [less_at] at e
  by_cases hb : ts.contains b = true
  · rw [if_pos hb] at e
    cases e
  · rw [if_neg hb] at e
    exact X b o e
theorem less_no {K : PySem.W.Frag} {ts : List Addr} {b : Addr} (h : b ∈ ts) : (less K ts).lookup b = none := by
  rw [less_at, if_pos (by simpa using h)]
end Vt
set_option Elab.async false
set_option linter.all false
set_option autoImplicit false
set_option maxRecDepth 100000
set_option maxHeartbeats 4000000
namespace Vu
open PySem PySem.Spec PyProof.Rows L2 Vb Xl Xg LamX
/-- the end with tables, where nothing is being written out -/
theorem walk_calmT {l : PySem.W.OpenLaw} {n k : Nat} {q : Program} {loose : List Str} {XP : (Str → Option Value) → Heap → Prop} {YP : World → Heap → Prop} {d : DefRec} {K : Params → PySem.W.Frag} {cs : List (Addr × Addr)} {sp : PySem.W.Frag → Sp} {x : Str}
    (hn : l.most = some n) (hn2 : n ≤ sizeLine) (hdf : d.params.defaults = []) (hr : Room k callerA) (hY : ∀ (w : World) (h : Heap), YP w h → (K w.params).In h)
    (hT : ∀ (w : World) (h : Heap), YP w h → ∀ p ∈ cs, h.get? p.2 = some { cls := .none, data := .fields #[] }) (nT : ∀ (w : World), ∀ p ∈ cs, (K w.params).lookup p.2 = none) (C : ∀ (w : World) (h : Heap), (K w.params).In h → ∀ p ∈ cs, PySem.W.CodeHd h p.1 p.2)
    (F : ∀ (w : World) (mg : Str → Option Value) (fa : Addr) (h : Heap), (K w.params).In h → h.Ns mainGlobals mg → XP mg h → mg d.name = some (.ref fa) →
      ∃ fd : FuncData, (∀ (s : Shared) (u : Value), BindsTo s fd ⟨[u], []⟩ [(x, u)]) ∧ ∀ base : Heap, (K w.params).In base → base.Ns mainGlobals mg → (∀ p ∈ cs, TabB base mg p.1 p.2) → FnG l.prog w (K w.params) mg base k fa fd [x] (sp (K w.params)))
    (hsp : ∀ (K : PySem.W.Frag) (H : Hp) (a : Addr) (ns : List Int), ns.length ≤ n → (∀ p ∈ cs, H p.2 = some (.tbl #[])) → SqL K H a (ns.map V.int) → sp K [.ref a] H (fun v _ => v = .bl true) fun _ _ _ => False) :
    PySem.W.WalkO q loose XP YP l.row.toRowW d [] (fun f vs => PySem.call f vs) := by
  refine Att.attach_callB hn hdf fun w s₀ s₁ mg mb fa o pm cd doc a vs ns G Y ho hd hcd hmg hobj hints hlen hbits hg => ?_
  have KX := hY w _ Y
  obtain ⟨fd, hb, hF⟩ := F w mg fa _ KX G.T.g G.X hmg
  exact Vt.law_goesT KX G.T.g G.T.b G.T.builtins G.T.nolimit hg (hT w _ Y) (nT w) (C w _ KX) G.T.bmain hobj hints (Nat.le_trans hlen hn2) hr hF hb fun H hH hS => hsp _ H a ns hlen hH hS
end Vu
set_option Elab.async false
set_option linter.all false
set_option autoImplicit false
set_option maxRecDepth 100000
set_option maxHeartbeats 8000000
namespace K04
open PySem PySem.Spec PyProof.Rows L2 Vb Wd Xd Xo Xm Xq Xv Xg Ts K01 Oq Oi Zt Zk Zs Rl Rd Ed LamX
def few : List (List Str) := [[], ["bare t"], ["tops t"], ["tops b a"], ["bare t", "tops b", "form x t t1 t1"]]
def due : List Str := ["scheme", "scheme", "scheme", "parse 0", "scheme"]
theorem few_words : ∀ ls ∈ few, ∀ z ∈ ls, (∀ u ∈ Txt.split z " ", u ∈ pool ++ (["t1", "t", "form", "tops", "bare", "", "b2", "t4", "a", "b", "Q"] : List Str)) ∧ z.length ≤ 100 ∧ (z.cps.toList.all fun c => decide (c < 128)) = true ∧ (Txt.split z " ").length ≤ 20 := by decide +kernel
theorem few_ok {H : Hp} {ls : List Str} (h : ls ∈ few) : LinesOk H names14 (ls.map V.str) := by
  have l3 : ∀ ls ∈ few, ls.length ≤ 3 := by decide +kernel
  refine ⟨by rw [List.length_map]; have := l3 ls h; omega, by decide +kernel, fun v hv => ?_⟩
  obtain ⟨z, hz, rfl⟩ := List.mem_map.mp hv
  obtain ⟨h1, h2, h3, h4⟩ := few_words ls h z hz
  refine ⟨⟨by omega, fun c hc => by
    have := List.all_eq_true.mp h3 c hc
    simpa using this⟩, by show (Txt.split z " ").length ≤ 60; omega, line_in fun u hu => good_pool u (h1 u hu)⟩
theorem few_ends : ∀ ls ∈ [few.getD 0 [], few.getD 1 [], few.getD 2 [], few.getD 4 []], (match readTo (ls.map V.str) (ls.map V.str).length with
  | some g => !schG g
  | none => false) = true := by decide +kernel
theorem few_stop : (readTo ((few.getD 3 []).map V.str) 1).isNone = true := by decide +kernel
theorem few_no {ls : List Str} (h : (match readTo (ls.map V.str) (ls.map V.str).length with
  | some g => !schG g
  | none => false) = true) {j : Nat} (hj : j < (ls.map V.str).length) (hn : readTo (ls.map V.str) (j + 1) = none) : False := by
  cases e : readTo (ls.map V.str) (ls.map V.str).length with
  | some g => exact stop_end hn e hj
  | none =>
    rw [e] at h
    cases h
theorem few_three {ls : List Str} (e : ls = few.getD 3 []) {g : Got} (hg : readTo (ls.map V.str) (ls.map V.str).length = some g) : False := by
  subst e
  have l1 : ((few.getD 3 []).map V.str).length = 1 := by decide +kernel
  rw [l1] at hg
  have := few_stop
  rw [hg] at this
  cases this
theorem few_g {ls : List Str} (h : (match readTo (ls.map V.str) (ls.map V.str).length with
  | some g => !schG g
  | none => false) = true) {g : Got} (hg : readTo (ls.map V.str) (ls.map V.str).length = some g) : schG g = false := by
  rw [hg] at h
  simpa using h
theorem few_good {i : Nat} {ls : List Str} (hi : few[i]? = some ls) {g : Got} (hg : readTo (ls.map V.str) (ls.map V.str).length = some g) : schG g = false := by
  match i, hi with
  | 3, hi => exact (few_three (by injection hi with hi; exact hi.symm) hg).elim
  | 0, hi => exact few_g (by injection hi with hi; subst hi; decide +kernel) hg
  | 1, hi => exact few_g (by injection hi with hi; subst hi; decide +kernel) hg
  | 2, hi => exact few_g (by injection hi with hi; subst hi; decide +kernel) hg
  | 4, hi => exact few_g (by injection hi with hi; subst hi; decide +kernel) hg
/-- what is told of one of them -/
theorem few_told {T : List (Addr × Str)} {C CS p : Addr} {H : Hp} {Q : VK} {i : Nat} {ls : List Str} (hi : few[i]? = some ls) (e : H p = some (.lst (ls.map V.str))) (ht : Tabs T H) (q : ∀ z H', due[i]? = some z → ExtN H H' → Tabs T H' → Q (.str z) H') : spTold T C CS [.ref p] H Q E0 := by
  have m : ls ∈ few := List.mem_of_getElem? hi
  have l3 : ∀ ls ∈ few, ls.length ≤ 3 := by decide +kernel
  refine ⟨p, ls.map V.str, names14, rfl, e, by rw [List.length_map]; have := l3 ls m; omega, few_ok m, ht, fun j g hj hg hn H' x t => ?_, fun g hg => ⟨fun b ys e1 e2 e3 => ?_, fun bad H' x t => ?_⟩⟩
  · match i, hi with
    | 3, hi =>
      have el : ls = few.getD 3 [] := by
        injection hi with hi
        exact hi.symm
      subst el
      have j0 : j = 0 := by
        have : ((few.getD 3 []).map V.str).length = 1 := by decide +kernel
        omega
      subst j0
      have ez : ("parse " ++ (PyData.int ((0 : Nat) : Int)).shown : Str) = "parse 0" := by decide +kernel
      rw [ez]
      exact q _ H' rfl x t
    | 0, hi => exact (few_no (by injection hi with hi; subst hi; decide +kernel) hj hn).elim
    | 1, hi => exact (few_no (by injection hi with hi; subst hi; decide +kernel) hj hn).elim
    | 2, hi => exact (few_no (by injection hi with hi; subst hi; decide +kernel) hj hn).elim
    | 4, hi => exact (few_no (by injection hi with hi; subst hi; decide +kernel) hj hn).elim
  · have := few_good hi hg
    rw [sch_of e1 e2, e3] at this
    cases this
  · match i, hi with
    | 3, hi => exact (few_three (by injection hi with hi; exact hi.symm) hg).elim
    | 0, hi => exact q _ H' rfl x t
    | 1, hi => exact q _ H' rfl x t
    | 2, hi => exact q _ H' rfl x t
    | 4, hi => exact q _ H' rfl x t
abbrev s_law : Stmt := topS 53
abbrev nL : List Str := ["_law_script", "_law_spot", "_law_few", "_law_told_here", "_law_lines"]
theorem sc_law : FnScope nL ["_law_script"] (defScope s_law) := ⟨rfl, rfl, rfl, by decide +kernel, rfl, by decide +kernel, by decide +kernel⟩
def spLaw (K : PySem.W.Frag) (T : List (Addr × Str)) : Sp := fun vs H Q _ => ∃ (a : Addr) (ns : List Int), vs = [.ref a] ∧ SqL K H a (ns.map V.int) ∧ ns.length ≤ 63 ∧ Tabs T H ∧ ∀ H', Q (.bl true) H'
section
variable {P : Program} {w : World} {K : PySem.W.Frag} {mg : Str → Option Value} {base : Heap} {C CS : Addr}
theorem ok_law {f : Addr} {fd : FuncData} {T : List (Addr × Str)} {tk1 : Tok} (F : Fun K "law" "law" s_law f fd) (G_l_right : Cg P w K mg base 13 "_law_right" (spRight T)) (G_l_told : Cg P w K mg base 12 "_law_told" (spTold T C CS)) (G_l_dice : Cg P w K mg base 1 "_law_dice" (spDice K)) (z_range : mg "range" = none) (z_max : mg "max" = none) (z_min : mg "min" = none) (z_len : mg "len" = none)
    (c_MAX_SORTS : mg "MAX_SORTS" = some (.int 8 tk1)) : FnG P w K mg base 14 f fd ["_law_script"] (spLaw K T) := by
  refine goes_by F sc_law (fun vs H Q E h => ?_) (fun cdv A outer s H vs Q E hc hr h => ?_)
  · obtain ⟨a, ns, rfl, _⟩ := h
    rfl
  · obtain ⟨a, ns, rfl, hS, hl, ht, q⟩ := h
    refine ⟨_, (pss_cons (ps_for PassesOwn.never rfl (pi_range1 (by rfl) z_range (pa_cons (pe_callB (call_max2 rfl) (by rfl) z_max (by decide +kernel) (pa_cons pe_int (pa_cons (pe_callB (call_min2 rfl) (by rfl) z_min (by decide +kernel) (pa_cons pe_int (pa_cons (pe_callB call_len_seq (by rfl) z_len PySem.boot_len (pa_cons (pv 0) pa_nil)) pa_nil))) pa_nil))) pa_nil)) (pg_name (i := 1) sc_law.nd rfl (Or.inl rfl))
      (pss_one (ps_if (pt_not (pt_val (pe_cg G_l_right hc hr (by rfl) (pa_cons (pe_cg G_l_dice hc hr (by rfl) (pa_cons (pv 0) (pa_cons (pv 1) pa_nil))) pa_nil))))
      (pss_one (ps_ret pe_bl))
      pss_nil)))
      (pss_cons (ps_set (i := 2) sc_law.nd rfl (Or.inl rfl) (pe_lst (pa_cons (pe_lst pa_nil) (pa_cons (pe_lst (pa_cons pe_str pa_nil)) (pa_cons (pe_lst (pa_cons pe_str pa_nil)) (pa_cons (pe_lst (pa_cons pe_str pa_nil)) (pa_cons (pe_lst (pa_cons pe_str (pa_cons pe_str (pa_cons pe_str pa_nil)))) pa_nil)))))))
      (pss_cons (ps_setLc (i := 3) (own := [("_law_lines", 4)]) (g := gName 4) (by rfl) sc_law.nd rfl rfl (sw_true rfl rfl rfl (by decide +kernel)) (pi_list (pv 2)) (blkOk_by (own := [("_law_lines", 4)]) (N := nL) (sc := defScope s_law) (by decide +kernel)) (fun _ _ _ _ _ => pg_name (i := 4) sc_law.nd rfl (Or.inl rfl)) (fun _ _ _ _ _ => pts_nil) (fun _ _ _ _ _ => (pe_cg G_l_told hc hr (by rfl) (pa_cons (pv 4) pa_nil))))
      (pss_one (ps_ret (pe_and (pe_cmpR (op_eqD hr.units) (pv 3) (pe_lst (pa_cons pe_str (pa_cons pe_str (pa_cons pe_str (pa_cons pe_str (pa_cons pe_str pa_nil)))))) (nomark _)) (pe_one (pe_cmpR op_eq (pe_glob (v := .int 8) (by rfl) c_MAX_SORTS ⟨_, rfl⟩) pe_int (nomark _))))))))), ?_⟩
    refine ⟨_, rfl, a, _, rfl, .inl hS, _, _, rfl, _, _, rfl, _, rfl, ?_, ?_, for_range (lo := 0) (fun i σ H' => (∃ o, σ = [some (.ref a), o, none, none, none]) ∧ SqL K H' a (ns.map V.int) ∧ Tabs T H') ⟨⟨none, rfl⟩, hS, ht⟩ ?_ ?_⟩
    · rw [List.length_map]
      split <;> split <;> omega
    · rw [List.length_map]
      split <;> split <;> omega
    · rintro i σ H' hi ⟨⟨o, rfl⟩, hS', ht'⟩
      refine ⟨_, rfl, _, rfl, a, ns, _, rfl, hS', by omega, fun d g s nd => ?_⟩
      have sn := same_new (o := dz g s 0) nd
      have dd : Dice (upd H' d (dz g s 0)) d := ⟨g, s, 0, upd_same⟩
      refine ⟨d, rfl, dd, ht'.ext sn, fun H2 gg => ⟨_, rfl, iteF ⟨⟨_, rfl⟩, ?_, gg.tabs⟩⟩⟩
      rcases hS' with (h | ⟨ob, h⟩) | h
      · exact gg.seq (ne_of_none h nd) (.inl (.inl (sn _ _ h)))
      · exact gg.seq (ne_of_none h nd) (.inl (.inr ⟨ob, sn _ _ h⟩))
      · exact .inr h
    · rintro σ H' ⟨⟨o, rfl⟩, hS', ht'⟩
      refine ⟨(by show 0 ≤ sizeLine; decide), fun l0 m0 => ⟨(by show 1 ≤ sizeLine; decide), fun l1 m1 => ⟨(by show 1 ≤ sizeLine; decide), fun l2 m2 => ⟨(by show 1 ≤ sizeLine; decide), fun l3 m3 => ⟨(by show 3 ≤ sizeLine; decide), fun l4 m4 => ⟨(by show 5 ≤ sizeLine; decide), fun lf mf => ?_⟩⟩⟩⟩⟩⟩
      have s0 := same_new (o := .lst []) m0
      have a0 : (upd H' l0 (.lst [])) l0 = some (.lst ((few.getD 0 []).map V.str)) := upd_same
      generalize upd H' l0 (.lst []) = B0 at s0 a0 m1 m2 m3 m4 mf ⊢
      have s1 := same_new (o := .lst [.str "bare t"]) m1
      have a1 : (upd B0 l1 (.lst [.str "bare t"])) l1 = some (.lst ((few.getD 1 []).map V.str)) := upd_same
      generalize upd B0 l1 (.lst [.str "bare t"]) = B1 at s1 a1 m2 m3 m4 mf ⊢
      have s2 := same_new (o := .lst [.str "tops t"]) m2
      have a2 : (upd B1 l2 (.lst [.str "tops t"])) l2 = some (.lst ((few.getD 2 []).map V.str)) := upd_same
      generalize upd B1 l2 (.lst [.str "tops t"]) = B2 at s2 a2 m3 m4 mf ⊢
      have s3 := same_new (o := .lst [.str "tops b a"]) m3
      have a3 : (upd B2 l3 (.lst [.str "tops b a"])) l3 = some (.lst ((few.getD 3 []).map V.str)) := upd_same
      generalize upd B2 l3 (.lst [.str "tops b a"]) = B3 at s3 a3 m4 mf ⊢
      have s4 := same_new (o := .lst [.str "bare t", .str "tops b", .str "form x t t1 t1"]) m4
      have a4 : (upd B3 l4 (.lst [.str "bare t", .str "tops b", .str "form x t t1 t1"])) l4 = some (.lst ((few.getD 4 []).map V.str)) := upd_same
      generalize upd B3 l4 (.lst [.str "bare t", .str "tops b", .str "form x t t1 t1"]) = B4 at s4 a4 mf ⊢
      have s5 := same_new (o := .lst [.ref l0, .ref l1, .ref l2, .ref l3, .ref l4]) mf
      have af : (upd B4 lf (.lst [.ref l0, .ref l1, .ref l2, .ref l3, .ref l4])) lf = some (.lst ([l0, l1, l2, l3, l4].map V.ref)) := upd_same
      generalize upd B4 lf (.lst [.ref l0, .ref l1, .ref l2, .ref l3, .ref l4]) = B at s5 af ⊢
      have tB : Tabs T B := ht'.ext (((((s0.trans s1).trans s2).trans s3).trans s4).trans s5)
      have at_ : ∀ (i : Nat) (p : Addr), [l0, l1, l2, l3, l4][i]? = some p → ∃ ls, few[i]? = some ls ∧ B p = some (.lst (ls.map V.str)) := fun i p h => by
        match i, h with
        | 0, h => injection h with h; subst h; exact ⟨_, rfl, ((((s1.trans s2).trans s3).trans s4).trans s5) _ _ a0⟩
        | 1, h => injection h with h; subst h; exact ⟨_, rfl, (((s2.trans s3).trans s4).trans s5) _ _ a1⟩
        | 2, h => injection h with h; subst h; exact ⟨_, rfl, ((s3.trans s4).trans s5) _ _ a2⟩
        | 3, h => injection h with h; subst h; exact ⟨_, rfl, (s4.trans s5) _ _ a3⟩
        | 4, h => injection h with h; subst h; exact ⟨_, rfl, s5 _ _ a4⟩
      refine ⟨_, rfl, lf, rfl, ⟨_, .inl (.inl af)⟩, fun D nD => ?_⟩
      refine lc_list (K := K) (a := lf) (xs := [l0, l1, l2, l3, l4].map V.ref) (fun i H2 => ExtN B H2 ∧ Tabs T H2 ∧ H2 D = some (.lst ((due.take i).map V.str))) ⟨ExtN.of (same_new nD), tB.ext (same_new nD), upd_same⟩ (fun i H2 _ h => .inl (.inl (h.1 _ _ af (fun _ z => nomatch z)))) (fun i x H2 hx h => ?_) (fun H2 h => ?_)
      · obtain ⟨x2, t2, e2⟩ := h
        rw [List.getElem?_map] at hx
        obtain ⟨p, hp, rfl⟩ := Option.map_eq_some_iff.mp hx
        obtain ⟨ls, hls, ep⟩ := at_ i p hp
        refine ⟨rfl, _, rfl, ?_⟩
        show spTold T C CS [.ref p] H2 (fun y H4 => ∃ acc, H4 D = some (.lst acc) ∧ acc.length < sizeLine ∧ ExtN B (upd H4 D (.lst (acc ++ [y]))) ∧ Tabs T (upd H4 D (.lst (acc ++ [y]))) ∧ upd H4 D (.lst (acc ++ [y])) D = some (.lst ((due.take (i + 1)).map V.str))) E0
        refine few_told hls (x2 _ _ ep (fun _ z => nomatch z)) t2 fun z H3 hz x3 t3 => ?_
        have e3 := x3 _ _ e2 fun _ z => nomatch z
        have xB := x2.trans x3
        have nDB : ∀ b o, B b = some o → b ≠ D := fun b o h z => by
          rw [z, nD] at h
          cases h
        refine ⟨_, e3, ?_, fun b o h n => ?_, Tabs.putL e3 t3, ?_⟩
        · rw [List.length_map, List.length_take]
          exact Nat.lt_of_le_of_lt (Nat.min_le_right _ _) (by decide)
        · rw [upd_ne (nDB b o h)]
          exact xB _ _ h n
        · rw [upd_same, List.take_add_one, hz, List.map_append]
          rfl
      · obtain ⟨x2, t2, e2⟩ := h
        refine ⟨_, rfl, (by show 5 ≤ sizeLine; decide), fun qa nq => ?_⟩
        have sq := same_new (o := .lst (due.map V.str)) nq
        refine ⟨.list (due.map PyData.str), .list (due.map PyData.str), .lst (.inl (.inl (sq _ _ e2))) (dp_strs due), .lst (.inl (.inl upd_same)) (dp_strs due), by decide +kernel, by decide +kernel, ?_⟩
        have eq1 : (PyData.list (due.map PyData.str)).eqv (PyData.list (due.map PyData.str)) = true := by decide +kernel
        refine ⟨_, rfl, ?_⟩
        rw [eq1]
        refine iteT ?_
        exact ⟨rfl, q _⟩
end
end K04
set_option Elab.async false
set_option linter.all false
set_option autoImplicit false
set_option maxRecDepth 100000
set_option maxHeartbeats 8000000
namespace K04
open PySem PySem.Spec PyProof.Rows L2 Vb Wd Xd Xo Xe Xi Xk Xm Xr Xq Xv Xg Ts K01 Oq Oi Zt Zk Zs Rl Rd Ed Xl LamX
abbrev s_iP : Stmt := inB (topS 15) 0
theorem sc_iP : FnScope ["self", "number"] ["self", "number"] (defScope s_iP) := ⟨rfl, rfl, rfl, by decide +kernel, rfl, by decide +kernel, by decide +kernel⟩
section
variable {P : Program} {w : World} {K : PySem.W.Frag} {mg : Str → Option Value} {base : Heap}
theorem ok_iP {f C fI : Addr} {fd : FuncData} (F : Fun K "__init__" "ParseError.__init__" s_iP f fd) : FnG P w K mg base 1 f fd ["self", "number"] (spSet K C fI "number") := by
  refine goes_by F sc_iP (fun vs H Q E h => ?_) (fun cdv A outer s H vs Q E hc hr h => ?_)
  · obtain ⟨a, y, rfl, _⟩ := h
    rfl
  · obtain ⟨a, y, rfl, T, no, e, q⟩ := h
    exact ⟨_, pss_one (ps_setE (f := "number") (pv 0) (pv 1)), _, rfl, _, rfl, a, C, fI, rfl, T, no, e, fun d nd ne => q d nd ne⟩
end
/-- the def st of a class -/
def Mt (K : PySem.W.Frag) (x qual : Str) (st : Stmt) (f : Addr) (ps : List Str) : Prop := ∃ fd : FuncData, Fun K x qual st f fd ∧ Binds K fd ps []
theorem Mt.mk {K : PySem.W.Frag} {x qual : Str} {st : Stmt} {ps : List Str} {f : Addr} {oc : Value} {od an : Option Addr} {osl : Array (Option Value)} {kV doc pm cdv ct : Value}
    (l : K.lookup f = some ⟨oc, od, .func (PySem.W.fnOf x qual (defArgs st) (defBody st) (defScope st) .none kV doc pm an cdv ct), osl⟩) (c : PySem.W.codeIn K cdv qual = true) (k : PySem.W.keepIn K (.ref f) = true)
    (b : ∀ (kV doc pm : Value) (an : Option Addr) (cdv ct : Value) (us : List Value), us.length = ps.length → bindArgs (PySem.W.fnOf x qual (defArgs st) (defBody st) (defScope st) .none kV doc pm an cdv ct) ⟨us, []⟩ = pure (ps.zip us)) : Mt K x qual st f ps :=
  ⟨_, fun_mk (st := st) l c k, (fun_mk (st := st) l c k).binds b⟩
/-- a property of a class, with its def -/
def Pt (K : PySem.W.Frag) (C : Addr) (n qual : Str) (st : Stmt) : Prop := ∃ (p g : Addr), PropOf K C n p g ∧ Mt K n qual st g ["self"]
/-- the record at p of the kind T begins with the def at g -/
def askR (K : PySem.W.Frag) (p g : Addr) (T : String) : Bool := match PySem.W.recIn K p T with
  | some (.ref g' :: _) => g' == g
  | _ => false
theorem of_askR {K : PySem.W.Frag} {p g : Addr} {T : String} (h : askR K p g T = true) : ∃ rest, PySem.W.recIn K p T = some (.ref g :: rest) := by
  unfold askR at h
  split at h
  · rename_i g' rest e
    have q : g' = g := by simpa using h
    rw [q] at e
    exact ⟨rest, e⟩
  · cases h
/-- a def that makes lambdas: its code object is known -/
def Mc (K : PySem.W.Frag) (mg : Str → Option Value) (x : Str) (st : Stmt) (c : Addr) (ps : List Str) : Prop := ∃ (f : Addr) (fd : FuncData), FunC K x x st f fd (.ref c) ∧ mg x = some (.ref f) ∧ PySem.W.keepIn K (.ref f) = true ∧ Binds K fd ps []
theorem Mc.mk {K : PySem.W.Frag} {mg : Str → Option Value} {x : Str} {st : Stmt} {ps : List Str} {h : Heap} {f c : Addr} {oc : Value} {od an : Option Addr} {osl : Array (Option Value)} {kV doc pm ct : Value} (X : K.In h) (G : h.Ns mainGlobals mg) (a : PySem.W.nsIn K mainGlobals x = some (some (.ref f)))
    (l : K.lookup f = some ⟨oc, od, .func (PySem.W.fnOf x x (defArgs st) (defBody st) (defScope st) .none kV doc pm an (.ref c) ct), osl⟩) (hc : PySem.W.codeIn K (.ref c) x = true) (k : PySem.W.keepIn K (.ref f) = true)
    (b : ∀ (kV doc pm : Value) (an : Option Addr) (cdv ct : Value) (us : List Value), us.length = ps.length → bindArgs (PySem.W.fnOf x x (defArgs st) (defBody st) (defScope st) .none kV doc pm an cdv ct) ⟨us, []⟩ = pure (ps.zip us)) : Mc K mg x st c ps :=
  ⟨f, _, ⟨_, _, _, _, _, _, _, _, rfl, l, hc⟩, PySem.W.mg_of X G a, k, (fun_mk (st := st) l hc k).binds b⟩
/-- what is asked of the class Form -/
def askF (K : PySem.W.Frag) (C : Addr) : Bool :=
  PySem.W.plainGet K C Str.empty && (PySem.W.hasDictIn K C && (PySem.W.plainOver K C && (decide (PySem.W.findIn K (.ref C) "__setattr__" = some (some (.builtin "object.__setattr__"))) &&
  (decide (PySem.W.findIn K (.ref C) "_called" = some none) && (decide (PySem.W.findIn K (.ref C) "_sort_name" = some none) && (decide (PySem.W.findIn K (.ref C) "_children" = some none) &&
  (decide (PySem.W.findIn K (.ref C) "__class__" = some (some (.builtin "object.__class__"))) && (decide (PySem.W.specialIn K (.builtin "object.__class__") "__get__" = some (some (.builtin "getset_descriptor.__get__"))) &&
  (decide (PySem.W.takesIn K (.builtin "object.__class__") = some true) && (decide (PySem.W.mroIn K C (.type "object") = some true) && (decide (PySem.W.kitOne K (.ref C) (.ref C) = some true) &&
  ((["str", "tuple", "list", "NoneType"].all fun t => decide (PySem.W.kitOne K (.type t) (.ref C) = some false)) && (["int", "bool"].all fun t => decide (PySem.W.kitOne K (.type t) (.ref C) = some false))))))))))))))
theorem of_askF {K : PySem.W.Frag} {C : Addr} (h : askF K C = true) : FormC K C ∧ FormI K C ∧ ∀ t ∈ ["int", "bool"], PySem.W.kitOne K (.type t) (.ref C) = some false := by
  unfold askF at h
  simp only [Bool.and_eq_true, decide_eq_true_eq, List.all_eq_true] at h
  obtain ⟨a1, a2, a3, a4, a5, a6, a7, a8, a9, a10, a11, a12, a13, a14⟩ := h
  exact ⟨⟨⟨a1, a2, a3, a4⟩, a5, a6, a7⟩, ⟨a8, a9, a10, a11, a12, a13⟩, a14⟩
/-- what is asked of the class Scheme -/
def askS (K : PySem.W.Frag) (C : Addr) : Bool :=
  PySem.W.plainGet K C Str.empty && (PySem.W.hasDictIn K C && (PySem.W.plainOver K C && (decide (PySem.W.findIn K (.ref C) "__setattr__" = some (some (.builtin "object.__setattr__"))) &&
  ((["_bare", "_tops", "_by_name", "_names", "_forms", "_sorts"].all fun f : String => decide (PySem.W.findIn K (.ref C) f = some none)) &&
  (decide (PySem.W.findIn K (.ref C) "__class__" = some (some (.builtin "object.__class__"))) && (decide (PySem.W.specialIn K (.builtin "object.__class__") "__get__" = some (some (.builtin "getset_descriptor.__get__"))) &&
  (decide (PySem.W.takesIn K (.builtin "object.__class__") = some true) && (decide (PySem.W.mroIn K C (.type "object") = some true) && (decide (PySem.W.kitOne K (.ref C) (.ref C) = some true) &&
  ((["str", "tuple", "list", "NoneType"].all fun t => decide (PySem.W.kitOne K (.type t) (.ref C) = some false)) &&
  (decide (PySem.W.findIn K (.ref C) "__ne__" = some (some (.builtin "object.__ne__"))) && decide (PySem.W.kitOne K (.ref C) (.type "str") = some false))))))))))))
structure OfS (K : PySem.W.Frag) (C : Addr) : Prop where
  c : SchemeC K C
  i : FormI K C
  ne : PySem.W.findIn K (.ref C) "__ne__" = some (some (.builtin "object.__ne__"))
  noS : PySem.W.kitOne K (.ref C) (.type "str") = some false
theorem of_askS {K : PySem.W.Frag} {C : Addr} (h : askS K C = true) : OfS K C := by
  unfold askS at h
  simp only [Bool.and_eq_true, decide_eq_true_eq, List.all_eq_true] at h
  obtain ⟨a1, a2, a3, a4, a5, a8, a9, a10, a11, a12, a13, a14, a15⟩ := h
  refine ⟨⟨⟨a1, a2, a3, a4⟩, fun f hf => ?_⟩, ⟨a8, a9, a10, a11, a12, a13⟩, a14, a15⟩
  simp only [List.mem_cons, List.not_mem_nil, or_false] at hf
  rcases hf with rfl | rfl | rfl | rfl | rfl | rfl
  · exact a5 "_bare" (by simp)
  · exact a5 "_tops" (by simp)
  · exact a5 "_by_name" (by simp)
  · exact a5 "_names" (by simp)
  · exact a5 "_forms" (by simp)
  · exact a5 "_sorts" (by simp)
/-- of the errors -/
def askE (K : PySem.W.Frag) (CI CP fP : Addr) : Bool :=
  decide (PySem.W.findIn K (.ref CP) "number" = some none) && (eiB K CP fP PX.veTail "ValueError.__new__" && (PySem.W.excIn K CI [.type "ValueError", .type "Exception", .type "BaseException", .type "object"] "ValueError.__new__" && (PySem.W.keepIn K (.ref CI) && (decide (PySem.W.subIn K (.ref CI) (.type "BaseException") = some true) && (decide (PySem.W.typeIn K (.ref CI) = some (.type "type")) &&
  (xfB K CP && (decide (PySem.W.exmOne K (.ref CP) (.ref CP) = some true) && (decide (PySem.W.exmOne K (.ref CI) (.ref CP) = some false) && decide (PySem.W.exmOne K (.ref CI) (.ref CI) = some true)))))))))
theorem of_askE {K : PySem.W.Frag} {mg : Str → Option Value} {CI CP fP : Addr} (gI : mg "InvalidScheme" = some (.ref CI)) (h : askE K CI CP fP = true) : ErrC K mg "InvalidScheme" CI ∧ EI K CP fP ∧ PySem.W.findIn K (.ref CP) "number" = some none ∧ ToldT K CI CP := by
  unfold askE at h
  simp only [Bool.and_eq_true, decide_eq_true_eq] at h
  obtain ⟨a1, a2, a5, a6, a7, a8, b1, b2, b3, b4⟩ := h
  exact ⟨⟨a5, gI, a6, a7, a8⟩, ei_of PySem.F.store_ValueError PySem.F.excBase_ValueError ⟨by decide +kernel, by decide +kernel, by decide +kernel⟩ a2, a1, ⟨xfB_ok b1, a1, b2, b3, b4⟩⟩
end K04
set_option Elab.async false
set_option linter.all false
set_option autoImplicit false
set_option maxRecDepth 100000
set_option maxHeartbeats 8000000
namespace K04
open PySem PySem.Spec PyProof.Rows L2 Vb Wd Xd Xo Xe Xi Xk Xm Xr Xq Xv Xg Ts K01 Oq Oi Zt Zk Zs Rl Rd Ed Xl LamX
/-- the def whose last parameter takes what is left -/
def Ms (K : PySem.W.Frag) (f : Addr) : Prop := ∃ fd : FuncData, Fun K "from_lines" "Scheme.from_lines" s_S_from_lines f fd ∧ ∀ us rest : List Value, us.length = ["cls"].length → bindArgs fd ⟨us ++ rest, []⟩ = (newTuple rest >>= fun t => pure ((["cls"] : List Str).zip us ++ [(("lines" : Str), t)]))
theorem Ms.mk {K : PySem.W.Frag} {f : Addr} {oc : Value} {od an : Option Addr} {osl : Array (Option Value)} {kV doc pm cdv ct : Value}
    (l : K.lookup f = some ⟨oc, od, .func (PySem.W.fnOf "from_lines" "Scheme.from_lines" (defArgs s_S_from_lines) (defBody s_S_from_lines) (defScope s_S_from_lines) .none kV doc pm an cdv ct), osl⟩) (c : PySem.W.codeIn K cdv "Scheme.from_lines" = true) (k : PySem.W.keepIn K (.ref f) = true) : Ms K f :=
  ⟨_, fun_mk (st := s_S_from_lines) l c k, StX.bind_star1 (p1 := "cls") (pv := "lines") (B := fun vs => bindArgs (PySem.W.fnOf "from_lines" "Scheme.from_lines" (defArgs s_S_from_lines) (defBody s_S_from_lines) (defScope s_S_from_lines) .none kV doc pm an cdv ct) ⟨vs, []⟩) (fun _ => rfl) (fun _ _ _ => rfl)⟩
theorem fin {l : PySem.W.OpenLaw} {w : World} {K : PySem.W.Frag} {mg : Str → Option Value} {fa C CS CI CP fFI fFE fFS fSI fSE fPI fL pL fN pN c1 P1 : Addr} {t0 t1 t2 t3 t4 t5 : Tok}
    (L : ∃ fd : FuncData, (∀ (s : Shared) (v : Value), BindsTo s fd ⟨[v], []⟩ [("_law_script", v)]) ∧ Fun K "law" "law" s_law fa fd)
    (D1 : Df K mg "is_integer" s_is_integer ["value"])
    (D2 : Df K mg "is_count" s_is_count ["value"])
    (D3 : Df K mg "is_name" s_is_name ["value"])
    (D4 : Df K mg "is_names" s_is_names ["value"])
    (D5 : Df K mg "words_of" s_words_of ["value"])
    (D6 : Df K mg "_is_step" s_is_step ["value"])
    (D7 : Df K mg "_is_child" s_is_child ["value"])
    (D8 : Df K mg "_is_children" s_is_children ["value"])
    (D9 : Df K mg "_is_scheme" s_is_scheme ["bare", "tops", "forms"])
    (D10 : Df K mg "_sorts_of" s_sorts_of ["tops", "forms"])
    (D11 : Df K mg "_is_bare_line" s_is_bare_line ["words"])
    (D12 : Df K mg "_is_tops_line" s_is_tops_line ["words"])
    (D13 : Df K mg "_is_form_line" s_is_form_line ["words"])
    (D14 : Df K mg "_is_child_word" s_is_child_word ["word"])
    (D15 : Df K mg "_law_dice" s_l_dice ["_law_script", "_law_spot"])
    (D16 : Df K mg "_law_roll" s_l_roll ["_law_dice_here", "_law_total"])
    (D17 : Df K mg "_law_pick" s_l_pick ["_law_dice_here", "_law_items"])
    (D18 : Df K mg "_law_mixed" s_l_mixed ["_law_dice_here", "_law_items"])
    (D19 : Df K mg "_law_names" s_l_names ["_law_dice_here", "_law_many"])
    (D20 : Df K mg "_law_scheme" s_l_scheme ["_law_dice_here", "_law_sorts", "_law_forms"])
    (D21 : Df K mg "_law_made_scheme" s_l_made_scheme ["_law_plain"])
    (D22 : Df K mg "_law_scheme_lines" s_l_scheme_lines ["_law_plain"])
    (D23 : Df K mg "_law_is_name" s_l_is_name ["_law_word"])
    (D24 : Df K mg "_law_form_in" s_l_form_in ["_law_words"])
    (D25 : Df K mg "_law_takes" s_l_takes ["_law_found", "_law_line"])
    (D26 : Df K mg "_law_read" s_l_read ["_law_lines"])
    (D27 : Df K mg "_law_told" s_l_told ["_law_lines"])
    (D28 : Df K mg "_law_other_line" s_l_other_line ["_law_dice_here", "_law_lines"])
    (D29 : Df K mg "_law_bent" s_l_bent ["_law_dice_here", "_law_lines"])
    (D30 : Df K mg "_law_is_due" s_l_is_due ["_law_told_here", "_law_due"])
    (D31 : Df K mg "_law_right" s_l_right ["_law_dice_here"])
    (MC : Mc K mg "_law_asked" s_l_asked c1 ["_law_lines"])
    (gC : mg "Form" = some (.ref C))
    (gCS : mg "Scheme" = some (.ref CS))
    (gCI : mg "InvalidScheme" = some (.ref CI))
    (gCP : mg "ParseError" = some (.ref CP))
    (k0 : mg "MAX_LETTERS" = some (.int 8 t0))
    (k1 : mg "_TOO_LONG" = some (.int (10 ^ 60) t1))
    (k2 : mg "MAX_CHILDREN" = some (.int 4 t2))
    (k3 : mg "MAX_STEP" = some (.int 3 t3))
    (k4 : mg "MAX_FORMS" = some (.int 24 t4))
    (k5 : mg "MAX_SORTS" = some (.int 8 t5))
    (jmF : PySem.W.makesIn K C = true) (jkF : PySem.W.keepIn K (.ref C) = true) (jmS : PySem.W.makesIn K CS = true) (jkS : PySem.W.keepIn K (.ref CS) = true)
    (eFI : PySem.W.findIn K (.ref C) "__init__" = some (some (.ref fFI)))
    (eFE : PySem.W.findIn K (.ref C) "__eq__" = some (some (.ref fFE)))
    (eFS : PySem.W.findIn K (.ref C) "__str__" = some (some (.ref fFS)))
    (eSI : PySem.W.findIn K (.ref CS) "__init__" = some (some (.ref fSI)))
    (eSE : PySem.W.findIn K (.ref CS) "__eq__" = some (some (.ref fSE)))
    (ePI : PySem.W.findIn K (.ref CP) "__init__" = some (some (.ref fPI)))
    (tFI : PySem.W.isFn K (.ref fFI) = true)
    (tFE : PySem.W.isFn K (.ref fFE) = true)
    (tFS : PySem.W.isFn K (.ref fFS) = true)
    (tSI : PySem.W.isFn K (.ref fSI) = true)
    (tSE : PySem.W.isFn K (.ref fSE) = true)
    (rL : ClX.CRead K C (.type "type")) (cL : ClX.CMet K C (.type "type") "from_line" pL fL) (rS : ClX.CRead K CS (.type "type")) (cS : ClX.CMet K CS (.type "type") "from_lines" pN fN)
    (mL : Mt K "from_line" "Form.from_line" s_from_line fL ["cls", "line"]) (mN : Ms K fN)
    (mFI : Mt K "__init__" "Form.__init__" s_init fFI ["self", "called", "sort", "children"])
    (mFE : Mt K "__eq__" "Form.__eq__" s_eq fFE ["self", "other"])
    (mFS : Mt K "__str__" "Form.__str__" s_str fFS ["self"])
    (mSI : Mt K "__init__" "Scheme.__init__" s_S_init fSI ["self", "bare", "tops", "forms"])
    (mSE : Mt K "__eq__" "Scheme.__eq__" s_S_eq fSE ["self", "other"])
    (mPI : Mt K "__init__" "ParseError.__init__" s_iP fPI ["self", "number"])
    (p1 : Pt K C "called" "Form.called" s_called)
    (p2 : Pt K C "sort_name" "Form.sort_name" s_sort_name)
    (p3 : Pt K C "children" "Form.children" s_children)
    (p4 : Pt K CS "bare" "Scheme.bare" s_S_bare)
    (p5 : Pt K CS "tops" "Scheme.tops" s_S_tops)
    (p6 : Pt K CS "forms" "Scheme.forms" s_S_forms)
    (p7 : Pt K CS "names" "Scheme.names" s_S_names)
    (p8 : Pt K CS "sorts" "Scheme.sorts" s_S_sorts)
    (p9 : Pt K CS "lines" "Scheme.lines" s_S_lines)
    (aF : askF K C = true) (aS : askS K CS = true) (aE : askE K CI CP fPI = true)
    (z_int : mg "int" = none) (z_bool : mg "bool" = none) (z_str : mg "str" = none) (z_len : mg "len" = none) (z_abs : mg "abs" = none) (z_max : mg "max" = none) (z_min : mg "min" = none) (z_range : mg "range" = none) (z_isinstance : mg "isinstance" = none) (z_repr : mg "repr" = none) (z_tuple : mg "tuple" = none) (z_all : mg "all" = none) (z_list : mg "list" = none) (z_sorted : mg "sorted" = none) (z_set : mg "set" = none) (z_enumerate : mg "enumerate" = none) :
    ∃ fd : FuncData, (∀ (s : Shared) (v : Value), BindsTo s fd ⟨[v], []⟩ [("_law_script", v)]) ∧ ∀ base : Heap, K.In base → base.Ns mainGlobals mg → (∀ p ∈ [(c1, P1)], TabB base mg p.1 p.2) → FnG l.prog w K mg base 14 fa fd ["_law_script"] (spLaw K [(P1, "_law_asked.<locals>.<lambda>")]) := by
  obtain ⟨fd, b, F⟩ := L
  refine ⟨fd, b, fun base _ _ TB => ?_⟩
  have TB1 : TabB base mg c1 P1 := TB (c1, P1) List.mem_cons_self
  obtain ⟨TF, TI, no2⟩ := of_askF aF
  obtain ⟨TS, TIS, neS, noS⟩ := of_askS aS
  obtain ⟨TE, EP, noP, TT⟩ := of_askE gCI aE
  obtain ⟨fdFI, FFI, bFI⟩ := mFI
  obtain ⟨fdFE, FFE, bFE⟩ := mFE
  obtain ⟨fdFS, FFS, bFS⟩ := mFS
  obtain ⟨fdSI, FSI, bSI⟩ := mSI
  obtain ⟨fdSE, FSE, bSE⟩ := mSE
  obtain ⟨fdPI, FPI, bPI⟩ := mPI
  obtain ⟨fdL, FL, bL⟩ := mL
  obtain ⟨fdN, FN, hN⟩ := mN
  obtain ⟨q1, h1, o1, fd1, G1, b1⟩ := p1
  obtain ⟨q2, h2, o2, fd2, G2, b2⟩ := p2
  obtain ⟨q3, h3, o3, fd3, G3, b3⟩ := p3
  obtain ⟨q4, h4, o4, fd4, G4, b4⟩ := p4
  obtain ⟨q5, h5, o5, fd5, G5, b5⟩ := p5
  obtain ⟨q6, h6, o6, fd6, G6, b6⟩ := p6
  obtain ⟨q7, h7, o7, fd7, G7, b7⟩ := p7
  obtain ⟨q8, h8, o8, fd8, G8, b8⟩ := p8
  obtain ⟨q9, h9, o9, fd9, G9, b9⟩ := p9
  obtain ⟨fc, fdc, FC, mc, kpc, bc⟩ := MC
  have PF : FormP l.prog w K mg base C := ⟨fun x hx => by
    simp only [List.mem_cons, List.not_mem_nil, or_false] at hx
    rcases hx with rfl | rfl | rfl
    · exact ⟨q1, h1, fd1, o1, ok_called G1 TF, b1⟩
    · exact ⟨q2, h2, fd2, o2, ok_sort_name G2 TF, b2⟩
    · exact ⟨q3, h3, fd3, o3, ok_children G3 TF, b3⟩⟩
  have PS : SchemeP l.prog w K mg base CS := ⟨fun x hx => by
    simp only [List.mem_cons, List.not_mem_nil, or_false] at hx
    rcases hx with rfl | rfl | rfl | rfl | rfl
    · exact ⟨q4, h4, fd4, o4, ok_S_bare G4 TS, b4⟩
    · exact ⟨q5, h5, fd5, o5, ok_S_tops G5 TS, b5⟩
    · exact ⟨q6, h6, fd6, o6, ok_S_forms G6 TS, b6⟩
    · exact ⟨q7, h7, fd7, o7, ok_S_names G7 TS, b7⟩
    · exact ⟨q8, h8, fd8, o8, ok_S_sorts G8 TS, b8⟩⟩
  have gRoll : Cg l.prog w K mg base 1 "_law_roll" spRoll := ok_roll D16 z_int
  have gPick : Cg l.prog w K mg base 2 "_law_pick" (spPick K) := ok_pick D17 gRoll z_len
  have gInt := ok_is_integer (P := l.prog) (w := w) (base := base) D1 z_isinstance z_int z_bool z_abs k1
  have gCount := ok_is_count D2 gInt
  have gName := ok_is_name (P := l.prog) (w := w) (base := base) D3 z_isinstance z_str z_len k0
  have gNames := ok_is_names D4 gName z_isinstance z_tuple z_all z_list z_sorted z_set
  have gStep := ok_is_step D6 gCount k3
  have gChild := ok_is_child D7 gName gStep z_isinstance z_tuple z_len
  have gChildren := ok_is_children D8 gChild z_isinstance z_tuple z_len z_all k2
  have gSorts := ok_sorts_of D10 TF PF z_list z_tuple z_sorted z_set
  have gIsS := ok_is_scheme D9 TF TI PF gC gNames gSorts z_isinstance z_tuple z_all z_len z_set k4 k5
  have gWords := ok_words_of (P := l.prog) (w := w) (base := base) D5 z_isinstance z_str z_tuple
  have gCW := ok_is_child_word D14 gName z_str k3
  have gFL := ok_is_form_line D13 gName gCW z_len z_all k2
  have gBL := ok_is_bare_line D11 gName z_len
  have gTL := ok_is_tops_line D12 gNames z_len
  have HFI := ok_init FFI TF gName gChildren
  have HFE := ok_eq FFE TF TI PF gC z_isinstance
  have HFS := ok_str (P := l.prog) (w := w) (mg := mg) (base := base) FFS TF
  have W : FormQ l.prog w K mg base C := ⟨⟨fFE, fdFE, HFE, eFE, tFE, bFE⟩⟩
  have HP : FnG l.prog w K mg base 1 fPI fdPI ["self", "number"] (spSet K CP fPI "number") := ok_iP FPI
  have HSI := ok_S_init FSI TF TS PF TE gIsS gSorts z_tuple z_sorted
  have MF : L2.Mk K C fFI := ⟨jmF, eFI, tFI, jkF⟩
  have VF : EnvF l.prog w K mg base C := { T := TF, TI := TI, TP := PF, g := gC, fI := fFI, fdI := fdFI, M := MF, FI := HFI, bI := bFI }
  have VS : EnvS l.prog w K mg base C CS CI := { T := TS, g := gCS, fI := fSI, fdI := fdSI, M := ⟨jmS, eSI, tSI, jkS⟩, FI := HSI, bI := bSI }
  have VL : EnvL l.prog w K mg base C CP := { gF := gC, fL := fL, fdL := fdL, FL := ok_from_line FL TF MF HFI bFI EP noP HP bPI gCP gWords gFL z_int z_tuple, bL := bL, mc := .type "type", pL := pL, rL := rL, cL := cL }
  have VA : EnvA l.prog w K mg base C CS CI CP := { gS := gCS, f := fN, FS := ok_from_lines FN VF VS VL EP noP HP bPI gCP hN gWords gBL gTL gFL z_tuple z_enumerate, mc := .type "type", p := pN, rS := rS, cS := cS }
  have M : EqS l.prog w K mg base C CS := { eq := ⟨fSE, fdSE, ok_S_eq FSE TS TIS PS W gCS z_isinstance, eSE, tSE, bSE⟩, ne := neS, mo := TIS.mo }
  have ML : ∃ (p g : Addr) (fd : FuncData), PropOf K CS "lines" p g ∧ FnG l.prog w K mg base 4 g fd ["self"] (spLinesS C CS) ∧ Binds K fd ["self"] [] := ⟨q9, h9, fd9, o9, ok_S_lines G9 TS HFS eFS tFS bFS z_str, b9⟩
  have gMixed := ok_l_mixed D18 gRoll z_len z_list
  have gLNames := ok_l_names D19 gMixed
  have gScheme := ok_l_scheme D20 gRoll gPick gLNames z_sorted z_range z_tuple
  have gMade := ok_l_made_scheme D21 VF VS z_tuple
  have gLines := ok_l_scheme_lines (P := l.prog) (w := w) (base := base) D22 z_sorted z_str
  have gLName := ok_l_is_name (P := l.prog) (w := w) (base := base) D23 z_len
  have gIn := ok_l_form_in D24 gLName z_len z_int z_tuple
  have gTakes := ok_l_takes D25 gLName gIn z_isinstance z_str z_len z_sorted z_set
  have gRead := ok_l_read D26 gTakes z_range z_len z_repr z_list z_set
  let T : List (Addr × Str) := [(P1, "_law_asked.<locals>.<lambda>")]
  have u1 : ∀ p ∈ T, p.1 = P1 → p.2 = "_law_asked.<locals>.<lambda>" := fun p hp e => by
    simp only [T, List.mem_cons, List.not_mem_nil, or_false] at hp
    rcases hp with rfl
    rfl
  have FA : FnE l.prog w K mg base 11 fc fdc ["_law_lines"] (spAsked T C CS CI CP) := ok_l_asked FC VA TB1 (by simp [T]) u1 z_len z_list
  have gTold := ok_l_told D27 TT gCI gCP FA mc kpc bc z_repr
  have gDue := ok_l_is_due D30 VS TIS M noS ML gMade gLines z_list z_isinstance z_str
  have gOther := ok_l_other_line D28 gRoll gPick z_len
  have gBent := ok_l_bent D29 gRoll gOther z_list z_range z_len z_int
  have gRight := ok_l_right D31 VS M ML gScheme gMixed gLines gTold gRead gBent gDue z_range z_list
  exact ok_law F gRight gTold (ok_dice D15 z_int z_len z_abs z_max) z_range z_max z_min z_len k5
end K04
set_option Elab.async false
set_option linter.all false
open PySem PySem.W PyProof.Rows
set_option maxRecDepth 100000 in
set_option maxHeartbeats 0 in
theorem PySem.Challenge.cw_mendbooks_k04_whole_lines_of_schemes_holds : PySem.Challenge.rw_mendbooks_k04_whole_lines_of_schemes.Holds := by
  w_on; o_law; k_head; (case hw => w_witness2)
  k_fill
  refine Vu.walk_calmT (l := PySem.Challenge.rw_mendbooks_k04_whole_lines_of_schemes) (n := 63) (k := 14) (x := "_law_script") (cs := [(531, 527)]) (sp := fun K => K04.spLaw K [(527, "_law_asked.<locals>.<lambda>")]) rfl (by decide) rfl ⟨rfl, by decide, by decide⟩ (fun w h Y => PySem.W.km_in_of Y) ?hT ?hN ?hC ?F ?hS
  case hT =>
    intro w h Y p hp
    simp only [List.mem_cons, List.not_mem_nil, or_false] at hp
    rcases hp with rfl
    exact PySem.W.km_tabs_of Y 527 (by simp)
  case hN =>
    intro w p hp
    simp only [List.mem_cons, List.not_mem_nil, or_false] at hp
    rcases hp with rfl
    kernel_rfl
  case hC =>
    intro w h KX p hp
    simp only [List.mem_cons, List.not_mem_nil, or_false] at hp
    rcases hp with rfl
    exact PySem.W.codeHd_of_K (c := 531) (P := 527) KX (by kernel_rfl)
  case hS =>
    intro K H a ns hl hH hS
    refine ⟨a, ns, rfl, hS, hl, fun p hp => ?_, fun _ => rfl⟩
    simp only [List.mem_cons, List.not_mem_nil, or_false] at hp
    rcases hp with rfl
    exact LamX.TabS.nil (hH (531, 527) (by simp))
  case F =>
    intro w mg fa h KX G XQ hmg
    refine' K04.fin (c1 := 531) (P1 := 527) (Vb.law_def KX G hmg ?lb ?la ?ll ?lc ?lk) (Vb.Df.mk KX G ?a1 ?l1 ?c1 ?k1 ?b1) (Vb.Df.mk KX G ?a2 ?l2 ?c2 ?k2 ?b2) (Vb.Df.mk KX G ?a3 ?l3 ?c3 ?k3 ?b3) (Vb.Df.mk KX G ?a4 ?l4 ?c4 ?k4 ?b4) (Vb.Df.mk KX G ?a5 ?l5 ?c5 ?k5 ?b5) (Vb.Df.mk KX G ?a6 ?l6 ?c6 ?k6 ?b6) (Vb.Df.mk KX G ?a7 ?l7 ?c7 ?k7 ?b7) (Vb.Df.mk KX G ?a8 ?l8 ?c8 ?k8 ?b8) (Vb.Df.mk KX G ?a9 ?l9 ?c9 ?k9 ?b9) (Vb.Df.mk KX G ?a10 ?l10 ?c10 ?k10 ?b10) (Vb.Df.mk KX G ?a11 ?l11 ?c11 ?k11 ?b11) (Vb.Df.mk KX G ?a12 ?l12 ?c12 ?k12 ?b12) (Vb.Df.mk KX G ?a13 ?l13 ?c13 ?k13 ?b13) (Vb.Df.mk KX G ?a14 ?l14 ?c14 ?k14 ?b14) (Vb.Df.mk KX G ?a15 ?l15 ?c15 ?k15 ?b15) (Vb.Df.mk KX G ?a16 ?l16 ?c16 ?k16 ?b16) (Vb.Df.mk KX G ?a17 ?l17 ?c17 ?k17 ?b17) (Vb.Df.mk KX G ?a18 ?l18 ?c18 ?k18 ?b18) (Vb.Df.mk KX G ?a19 ?l19 ?c19 ?k19 ?b19) (Vb.Df.mk KX G ?a20 ?l20 ?c20 ?k20 ?b20) (Vb.Df.mk KX G ?a21 ?l21 ?c21 ?k21 ?b21) (Vb.Df.mk KX G ?a22 ?l22 ?c22 ?k22 ?b22) (Vb.Df.mk KX G ?a23 ?l23 ?c23 ?k23 ?b23) (Vb.Df.mk KX G ?a24 ?l24 ?c24 ?k24 ?b24) (Vb.Df.mk KX G ?a25 ?l25 ?c25 ?k25 ?b25) (Vb.Df.mk KX G ?a26 ?l26 ?c26 ?k26 ?b26) (Vb.Df.mk KX G ?a27 ?l27 ?c27 ?k27 ?b27) (Vb.Df.mk KX G ?a28 ?l28 ?c28 ?k28 ?b28) (Vb.Df.mk KX G ?a29 ?l29 ?c29 ?k29 ?b29) (Vb.Df.mk KX G ?a30 ?l30 ?c30 ?k30 ?b30) (Vb.Df.mk KX G ?a31 ?l31 ?c31 ?k31 ?b31) (K04.Mc.mk KX G ?xa1 ?xl1 ?xc1 ?xk1 ?xb1) (PySem.W.mg_of KX G ?gg1) (PySem.W.mg_of KX G ?gg2) (PySem.W.mg_of KX G ?gg3) (PySem.W.mg_of KX G ?gg4) (PySem.W.mg_of KX G ?n0) (PySem.W.mg_of KX G ?n1) (PySem.W.mg_of KX G ?n2) (PySem.W.mg_of KX G ?n3) (PySem.W.mg_of KX G ?n4) (PySem.W.mg_of KX G ?n5) ?jmF ?jkF ?jmS ?jkS ?eFI ?eFE ?eFS ?eSI ?eSE ?ePI ?tFI ?tFE ?tFS ?tSI ?tSE ⟨?r1, ?r2⟩ ⟨?r3, K04.of_askR (g := 188) ?r4, ?r5⟩ ⟨?s1, ?s2⟩ ⟨?s3, K04.of_askR (g := 274) ?s4, ?s5⟩ (K04.Mt.mk ?mlL ?mcL ?mkL ?mbL) (K04.Ms.mk ?mlN ?mcN ?mkN) (K04.Mt.mk ?mlFI ?mcFI ?mkFI ?mbFI) (K04.Mt.mk ?mlFE ?mcFE ?mkFE ?mbFE) (K04.Mt.mk ?mlFS ?mcFS ?mkFS ?mbFS) (K04.Mt.mk ?mlSI ?mcSI ?mkSI ?mbSI) (K04.Mt.mk ?mlSE ?mcSE ?mkSE ?mbSE) (K04.Mt.mk ?mlPI ?mcPI ?mkPI ?mbPI) ⟨_, _, ⟨?pa1, ?pb1, ?pc1, K04.of_askR (g := 198) ?pd1⟩, K04.Mt.mk ?pl1 ?pe1 ?pk1 ?pf1⟩ ⟨_, _, ⟨?pa2, ?pb2, ?pc2, K04.of_askR (g := 206) ?pd2⟩, K04.Mt.mk ?pl2 ?pe2 ?pk2 ?pf2⟩ ⟨_, _, ⟨?pa3, ?pb3, ?pc3, K04.of_askR (g := 214) ?pd3⟩, K04.Mt.mk ?pl3 ?pe3 ?pk3 ?pf3⟩ ⟨_, _, ⟨?pa4, ?pb4, ?pc4, K04.of_askR (g := 284) ?pd4⟩, K04.Mt.mk ?pl4 ?pe4 ?pk4 ?pf4⟩ ⟨_, _, ⟨?pa5, ?pb5, ?pc5, K04.of_askR (g := 292) ?pd5⟩, K04.Mt.mk ?pl5 ?pe5 ?pk5 ?pf5⟩ ⟨_, _, ⟨?pa6, ?pb6, ?pc6, K04.of_askR (g := 300) ?pd6⟩, K04.Mt.mk ?pl6 ?pe6 ?pk6 ?pf6⟩ ⟨_, _, ⟨?pa7, ?pb7, ?pc7, K04.of_askR (g := 308) ?pd7⟩, K04.Mt.mk ?pl7 ?pe7 ?pk7 ?pf7⟩ ⟨_, _, ⟨?pa8, ?pb8, ?pc8, K04.of_askR (g := 316) ?pd8⟩, K04.Mt.mk ?pl8 ?pe8 ?pk8 ?pf8⟩ ⟨_, _, ⟨?pa9, ?pb9, ?pc9, K04.of_askR (g := 322) ?pd9⟩, K04.Mt.mk ?pl9 ?pe9 ?pk9 ?pf9⟩ ?aF ?aS ?aE (PySem.W.mg_none_of KX G ?z1) (PySem.W.mg_none_of KX G ?z2) (PySem.W.mg_none_of KX G ?z3) (PySem.W.mg_none_of KX G ?z4) (PySem.W.mg_none_of KX G ?z5) (PySem.W.mg_none_of KX G ?z6) (PySem.W.mg_none_of KX G ?z7) (PySem.W.mg_none_of KX G ?z8) (PySem.W.mg_none_of KX G ?z9) (PySem.W.mg_none_of KX G ?z10) (PySem.W.mg_none_of KX G ?z11) (PySem.W.mg_none_of KX G ?z12) (PySem.W.mg_none_of KX G ?z13) (PySem.W.mg_none_of KX G ?z14) (PySem.W.mg_none_of KX G ?z15) (PySem.W.mg_none_of KX G ?z16)
    (case lb => exact fun _ _ _ _ _ _ _ _ => .of_eq rfl); (case la => k_is); (case ll => k_is); (case lc => k_is); (case lk => k_is)
    (case a1 => k_is); (case l1 => k_is); (case c1 => k_is); (case k1 => k_is); (case b1 => exact fun _ _ _ _ _ _ us hl => match us, hl with | [_], _ => rfl)
    (case a2 => k_is); (case l2 => k_is); (case c2 => k_is); (case k2 => k_is); (case b2 => exact fun _ _ _ _ _ _ us hl => match us, hl with | [_], _ => rfl)
    (case a3 => k_is); (case l3 => k_is); (case c3 => k_is); (case k3 => k_is); (case b3 => exact fun _ _ _ _ _ _ us hl => match us, hl with | [_], _ => rfl)
    (case a4 => k_is); (case l4 => k_is); (case c4 => k_is); (case k4 => k_is); (case b4 => exact fun _ _ _ _ _ _ us hl => match us, hl with | [_], _ => rfl)
    (case a5 => k_is); (case l5 => k_is); (case c5 => k_is); (case k5 => k_is); (case b5 => exact fun _ _ _ _ _ _ us hl => match us, hl with | [_], _ => rfl)
    (case a6 => k_is); (case l6 => k_is); (case c6 => k_is); (case k6 => k_is); (case b6 => exact fun _ _ _ _ _ _ us hl => match us, hl with | [_], _ => rfl)
    (case a7 => k_is); (case l7 => k_is); (case c7 => k_is); (case k7 => k_is); (case b7 => exact fun _ _ _ _ _ _ us hl => match us, hl with | [_], _ => rfl)
    (case a8 => k_is); (case l8 => k_is); (case c8 => k_is); (case k8 => k_is); (case b8 => exact fun _ _ _ _ _ _ us hl => match us, hl with | [_], _ => rfl)
    (case a9 => k_is); (case l9 => k_is); (case c9 => k_is); (case k9 => k_is); (case b9 => exact fun _ _ _ _ _ _ us hl => match us, hl with | [_, _, _], _ => rfl)
    (case a10 => k_is); (case l10 => k_is); (case c10 => k_is); (case k10 => k_is); (case b10 => exact fun _ _ _ _ _ _ us hl => match us, hl with | [_, _], _ => rfl)
    (case a11 => k_is); (case l11 => k_is); (case c11 => k_is); (case k11 => k_is); (case b11 => exact fun _ _ _ _ _ _ us hl => match us, hl with | [_], _ => rfl)
    (case a12 => k_is); (case l12 => k_is); (case c12 => k_is); (case k12 => k_is); (case b12 => exact fun _ _ _ _ _ _ us hl => match us, hl with | [_], _ => rfl)
    (case a13 => k_is); (case l13 => k_is); (case c13 => k_is); (case k13 => k_is); (case b13 => exact fun _ _ _ _ _ _ us hl => match us, hl with | [_], _ => rfl)
    (case a14 => k_is); (case l14 => k_is); (case c14 => k_is); (case k14 => k_is); (case b14 => exact fun _ _ _ _ _ _ us hl => match us, hl with | [_], _ => rfl)
    (case a15 => k_is); (case l15 => k_is); (case c15 => k_is); (case k15 => k_is); (case b15 => exact fun _ _ _ _ _ _ us hl => match us, hl with | [_, _], _ => rfl)
    (case a16 => k_is); (case l16 => k_is); (case c16 => k_is); (case k16 => k_is); (case b16 => exact fun _ _ _ _ _ _ us hl => match us, hl with | [_, _], _ => rfl)
    (case a17 => k_is); (case l17 => k_is); (case c17 => k_is); (case k17 => k_is); (case b17 => exact fun _ _ _ _ _ _ us hl => match us, hl with | [_, _], _ => rfl)
    (case a18 => k_is); (case l18 => k_is); (case c18 => k_is); (case k18 => k_is); (case b18 => exact fun _ _ _ _ _ _ us hl => match us, hl with | [_, _], _ => rfl)
    (case a19 => k_is); (case l19 => k_is); (case c19 => k_is); (case k19 => k_is); (case b19 => exact fun _ _ _ _ _ _ us hl => match us, hl with | [_, _], _ => rfl)
    (case a20 => k_is); (case l20 => k_is); (case c20 => k_is); (case k20 => k_is); (case b20 => exact fun _ _ _ _ _ _ us hl => match us, hl with | [_, _, _], _ => rfl)
    (case a21 => k_is); (case l21 => k_is); (case c21 => k_is); (case k21 => k_is); (case b21 => exact fun _ _ _ _ _ _ us hl => match us, hl with | [_], _ => rfl)
    (case a22 => k_is); (case l22 => k_is); (case c22 => k_is); (case k22 => k_is); (case b22 => exact fun _ _ _ _ _ _ us hl => match us, hl with | [_], _ => rfl)
    (case a23 => k_is); (case l23 => k_is); (case c23 => k_is); (case k23 => k_is); (case b23 => exact fun _ _ _ _ _ _ us hl => match us, hl with | [_], _ => rfl)
    (case a24 => k_is); (case l24 => k_is); (case c24 => k_is); (case k24 => k_is); (case b24 => exact fun _ _ _ _ _ _ us hl => match us, hl with | [_], _ => rfl)
    (case a25 => k_is); (case l25 => k_is); (case c25 => k_is); (case k25 => k_is); (case b25 => exact fun _ _ _ _ _ _ us hl => match us, hl with | [_, _], _ => rfl)
    (case a26 => k_is); (case l26 => k_is); (case c26 => k_is); (case k26 => k_is); (case b26 => exact fun _ _ _ _ _ _ us hl => match us, hl with | [_], _ => rfl)
    (case a27 => k_is); (case l27 => k_is); (case c27 => k_is); (case k27 => k_is); (case b27 => exact fun _ _ _ _ _ _ us hl => match us, hl with | [_], _ => rfl)
    (case a28 => k_is); (case l28 => k_is); (case c28 => k_is); (case k28 => k_is); (case b28 => exact fun _ _ _ _ _ _ us hl => match us, hl with | [_, _], _ => rfl)
    (case a29 => k_is); (case l29 => k_is); (case c29 => k_is); (case k29 => k_is); (case b29 => exact fun _ _ _ _ _ _ us hl => match us, hl with | [_, _], _ => rfl)
    (case a30 => k_is); (case l30 => k_is); (case c30 => k_is); (case k30 => k_is); (case b30 => exact fun _ _ _ _ _ _ us hl => match us, hl with | [_, _], _ => rfl)
    (case a31 => k_is); (case l31 => k_is); (case c31 => k_is); (case k31 => k_is); (case b31 => exact fun _ _ _ _ _ _ us hl => match us, hl with | [_], _ => rfl)
    (case xa1 => k_is); (case xl1 => k_is); (case xc1 => k_is); (case xk1 => k_is); (case xb1 => exact fun _ _ _ _ _ _ us hl => match us, hl with | [_], _ => rfl)
    (case gg1 => k_is); (case gg2 => k_is); (case gg3 => k_is); (case gg4 => k_is)
    (case n0 => k_is); (case n1 => k_is); (case n2 => k_is); (case n3 => k_is); (case n4 => k_is); (case n5 => k_is)
    (case jmF => k_is); (case jkF => k_is); (case jmS => k_is); (case jkS => k_is); (case eFI => k_is); (case eFE => k_is); (case eFS => k_is); (case eSI => k_is); (case eSE => k_is); (case ePI => k_is); (case tFI => k_is); (case tFE => k_is); (case tFS => k_is); (case tSI => k_is); (case tSE => k_is)
    (case r1 => k_is); (case r2 => k_is); (case r3 => k_is); (case r4 => kernel_rfl); (case r5 => k_is)
    (case s1 => k_is); (case s2 => k_is); (case s3 => k_is); (case s4 => kernel_rfl); (case s5 => k_is)
    (case mlL => k_is); (case mcL => k_is); (case mkL => k_is); (case mbL => exact fun _ _ _ _ _ _ us hl => match us, hl with | [_, _], _ => rfl)
    (case mlN => k_is); (case mcN => k_is); (case mkN => k_is)
    (case mlFI => k_is); (case mcFI => k_is); (case mkFI => k_is); (case mbFI => exact fun _ _ _ _ _ _ us hl => match us, hl with | [_, _, _, _], _ => rfl)
    (case mlFE => k_is); (case mcFE => k_is); (case mkFE => k_is); (case mbFE => exact fun _ _ _ _ _ _ us hl => match us, hl with | [_, _], _ => rfl)
    (case mlFS => k_is); (case mcFS => k_is); (case mkFS => k_is); (case mbFS => exact fun _ _ _ _ _ _ us hl => match us, hl with | [_], _ => rfl)
    (case mlSI => k_is); (case mcSI => k_is); (case mkSI => k_is); (case mbSI => exact fun _ _ _ _ _ _ us hl => match us, hl with | [_, _, _, _], _ => rfl)
    (case mlSE => k_is); (case mcSE => k_is); (case mkSE => k_is); (case mbSE => exact fun _ _ _ _ _ _ us hl => match us, hl with | [_, _], _ => rfl)
    (case mlPI => k_is); (case mcPI => k_is); (case mkPI => k_is); (case mbPI => exact fun _ _ _ _ _ _ us hl => match us, hl with | [_, _], _ => rfl)
    (case pa1 => k_is); (case pb1 => k_is); (case pc1 => k_is); (case pd1 => kernel_rfl); (case pl1 => k_is); (case pe1 => k_is); (case pk1 => k_is); (case pf1 => exact fun _ _ _ _ _ _ us hl => match us, hl with | [_], _ => rfl)
    (case pa2 => k_is); (case pb2 => k_is); (case pc2 => k_is); (case pd2 => kernel_rfl); (case pl2 => k_is); (case pe2 => k_is); (case pk2 => k_is); (case pf2 => exact fun _ _ _ _ _ _ us hl => match us, hl with | [_], _ => rfl)
    (case pa3 => k_is); (case pb3 => k_is); (case pc3 => k_is); (case pd3 => kernel_rfl); (case pl3 => k_is); (case pe3 => k_is); (case pk3 => k_is); (case pf3 => exact fun _ _ _ _ _ _ us hl => match us, hl with | [_], _ => rfl)
    (case pa4 => k_is); (case pb4 => k_is); (case pc4 => k_is); (case pd4 => kernel_rfl); (case pl4 => k_is); (case pe4 => k_is); (case pk4 => k_is); (case pf4 => exact fun _ _ _ _ _ _ us hl => match us, hl with | [_], _ => rfl)
    (case pa5 => k_is); (case pb5 => k_is); (case pc5 => k_is); (case pd5 => kernel_rfl); (case pl5 => k_is); (case pe5 => k_is); (case pk5 => k_is); (case pf5 => exact fun _ _ _ _ _ _ us hl => match us, hl with | [_], _ => rfl)
    (case pa6 => k_is); (case pb6 => k_is); (case pc6 => k_is); (case pd6 => kernel_rfl); (case pl6 => k_is); (case pe6 => k_is); (case pk6 => k_is); (case pf6 => exact fun _ _ _ _ _ _ us hl => match us, hl with | [_], _ => rfl)
    (case pa7 => k_is); (case pb7 => k_is); (case pc7 => k_is); (case pd7 => kernel_rfl); (case pl7 => k_is); (case pe7 => k_is); (case pk7 => k_is); (case pf7 => exact fun _ _ _ _ _ _ us hl => match us, hl with | [_], _ => rfl)
    (case pa8 => k_is); (case pb8 => k_is); (case pc8 => k_is); (case pd8 => kernel_rfl); (case pl8 => k_is); (case pe8 => k_is); (case pk8 => k_is); (case pf8 => exact fun _ _ _ _ _ _ us hl => match us, hl with | [_], _ => rfl)
    (case pa9 => k_is); (case pb9 => k_is); (case pc9 => k_is); (case pd9 => kernel_rfl); (case pl9 => k_is); (case pe9 => k_is); (case pk9 => k_is); (case pf9 => exact fun _ _ _ _ _ _ us hl => match us, hl with | [_], _ => rfl)
    (case aF => kernel_rfl); (case aS => kernel_rfl); (case aE => kernel_rfl)
    (case z1 => k_is); (case z2 => k_is); (case z3 => k_is); (case z4 => k_is); (case z5 => k_is); (case z6 => k_is); (case z7 => k_is); (case z8 => k_is); (case z9 => k_is); (case z10 => k_is); (case z11 => k_is); (case z12 => k_is); (case z13 => k_is); (case z14 => k_is); (case z15 => k_is); (case z16 => k_is)
