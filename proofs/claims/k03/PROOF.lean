import PyProof.Rows.All
import Wide.All
import OpenK.AllK
import Wide.FinOn
import HandS.ForMost
import HandS.IsInst
import HandS.Wide
import HandS.WideMore
import HandS.Flow
import HandS.Style
import HandS.StrMore
import HandS.RaiseMore
import HandS.FStr
import KE.KxText
import HandS.Walk
import KE.KExcIs
import KE.KExcInit
import HandS.ExcInit
import HandS.ExcValue
import HandS.ExcField
import HandS.TryMany
import HandS.HotCalls
import HandS.Property
import HandS.OwnEq
import HandS.Lambda
import HandS.ClsMeth
import KE.KCallOwn
import HandS.Star
import PyProof.StrLawsRepr
import HandS.TupAny
import HandS.EndTab
import PySem.Challenge.RW_mendbooks_k03_forms
set_option Elab.async false
set_option linter.all false
set_option autoImplicit false
set_option maxRecDepth 100000
set_option maxHeartbeats 4000000
/-! Vb: the layer below all laws: defs that are entered where no container is being written out (calm room), repr of data, powers. -/
namespace Vb
open PySem PySem.Spec PyProof.Rows L2

/-- nothing is being written out by repr around here -/
def Calm (A : Around) : Prop := A.guards = some []
theorem Calm.deep {A : Around} (h : Calm A) (env : Env) : Calm (A.deeper env) := h
theorem calm_caller : Calm callerA := rfl

/-- a promise that is kept where nothing is being written out -/
structure FnG (P : Program) (w : World) (K : PySem.W.Frag) (mg : Str → Option Value) (base : Heap) (k : Nat) (f : Addr) (fd : FuncData) (ps : List Str) (sp : Sp) : Prop where
  count : ∀ vs H Q E, sp vs H Q E → vs.length = ps.length
  goes : ∀ (A : Around) (outer : List Env) (s : Shared) (H : Hp) (args : Args) (us : List Value) (vs : List V) (Q : VK) (E : XK), Calm A → Room k A →
    Env0 P w K mg base A outer s H → BindsTo s fd args (ps.zip us) → Vals vs us → sp vs H Q E → codeAny (model P w) A (.call (.ref f) args) (CR CX0 outer P w H s Q E) s

section
variable {P : Program} {w : World} {K : PySem.W.Frag} {mg : Str → Option Value} {base : Heap}
theorem FnG.of {k : Nat} {f : Addr} {fd : FuncData} {ps : List Str} {sp : Sp} (F : FnOk P w K mg base CX0 k f fd ps sp) : FnG P w K mg base k f fd ps sp :=
  ⟨F.len, fun A outer s H args us vs Q E _ hr => F.run A outer s H args us vs Q E hr⟩

/-- a def's promise by its body, entered in calm room -/
theorem goes_by {x qual : Str} {st : Stmt} {f : Addr} {fd : FuncData} {N ps : List Str} {k : Nat} {sp : Sp} (F : Fun K x qual st f fd) (S : FnScope N ps (defScope st)) (len : ∀ vs H Q E, sp vs H Q E → vs.length = ps.length)
    (body : ∀ (cdv : Value) (A : Around) (outer : List Env) (s : Shared) (H : Hp) (vs : List V) (Q : VK) (E : XK), Calm (A.deeper (envOfC qual (defScope st) s.heap.objs.size f cdv)) → Room k (A.deeper (envOfC qual (defScope st) s.heap.objs.size f cdv)) → sp vs H Q E →
      ∃ t, PSs (cxOf CX0 P w K mg base N qual (defScope st) f cdv A outer s H E).nox (defBody st) t ∧ t { nx := fun _ H' => Q .non H', rt := Q } (start N vs) H) : FnG P w K mg base (k + 1) f fd ps sp := by
  obtain ⟨oc, od, kV, doc, pm, an, cdv, ct, osl, rfl, lk, hcd⟩ := F.ex
  refine ⟨len, fun A outer s H args us vs Q E hc hr e0 hb r hsp => ?_⟩
  have hl := len _ _ _ _ hsp
  have KX : K.In s.heap := e0.mod.kin.keeps fun b o e => (e0.bs b o e).1
  have lim : s.heap.NoLimit := e0.mod.nolimit.keeps fun b o e => (e0.bs b o e).1
  have kinds : ∀ y ∈ ps.zip us, (defScope st).names.lookup y.1 = some .local ∨ ((defScope st).names.lookup y.1 = some .cell ∧ ((cellsFrom (s.heap.objs.size + 1) (defScope st).names []).lookup y.1).isSome = true) := by
    intro y hy
    obtain ⟨n, v⟩ := y
    exact (S.par n (List.of_mem_zip hy).1).imp id fun q => ⟨q, PySem.W.cellsFrom_some _ _ _ (Or.inl q)⟩
  refine codeAny_call_function hr.depth (KX _ _ lk) rfl S.co S.gen rfl (PySem.W.codeRec_of KX hcd) (hb _ _ _ _ ?_)
  refine wpAny_newFunctionEnv_cells S.kind kinds fun env he s1 x => ?_
  cases he
  refine ⟨lim.keeps x.toInCall.keep, codeAny_func ?_⟩
  obtain ⟨t, ht, hq⟩ := body cdv A outer s H vs Q E (hc.deep _) (hr.deeper _) hsp
  have I := inv_start (CX := CX0) (E := E) S hr.hd e0 hl r x
  refine wpAny_mono (ht.nox.run [] s1 (start N vs) H _ I hq) (fun fl s' hs => ?_) (fun _ _ z => z)
  cases fl with
  | brk => exact hs.elim fun _ z => z.elim fun _ z => z.2.elim
  | cont => exact hs.elim fun _ z => z.elim fun _ z => z.2.elim
  | ret u =>
    obtain ⟨v, σ', H', J, rv, q⟩ := hs
    exact ⟨v, H', J.os, J.bare, J.base, J.hok, rv, q⟩
  | next =>
    obtain ⟨σ', H', J, q⟩ := hs
    exact ⟨V.non, H', J.os, J.bare, J.base, J.hok, rfl, q⟩
end

section
variable {X : Cx} {k : Nat} {f : Addr} {fd : FuncData} {ps : List Str} {sp : Sp} {dvs : List V} {ds : List Value} {E : XK} {x : Str} {p pos : Pos} {e : Expr} {es : List Expr} {t : TA}
theorem goes_in {pins : List (Addr × Obj)} {σ : L2.St} {H : Hp} {s : Shared} {Q : VK} {us : List Value} {vs : List V} (F : FnG X.prog X.w X.K X.mg X.base k f fd ps sp) (hc : Calm X.A) (hr : Room k X.A) (hb : Binds X.K fd ps ds) (hd : Vals dvs ds) (hx : Passes CX0 X E)
    (I : Inv X pins σ H s) (r : Vals vs us) (h : sp (vs ++ dvs) H Q E) : wpAny (model X.prog X.w) X.A (call (.ref f) us) (EP X pins σ Q) X.xe s := by
  have both : Vals (vs ++ dvs) (us ++ ds) := r.append hd
  have hl : (us ++ ds).length = ps.length := both.length ▸ F.count _ _ _ _ h
  have go := F.goes X.A X.stack s H ⟨us, []⟩ (us ++ ds) (vs ++ dvs) Q E hc hr I.env0 (hb s us I.kIn hl) both h
  refine wpAny_call (codeAny_mono go fun r s' hq => ?_)
  match r, hq with
  | .error e, hq => exact hx pins σ H s e s' I hq
  | .ok (.ret u), hq => exact I.after hq
  | .ok .next, hq => exact hq.elim
  | .ok .brk, hq => exact hq.elim
  | .ok .cont, hq => exact hq.elim
/-- f(e, ..), f entered in calm room -/
theorem pe_callG (F : FnG X.prog X.w X.K X.mg X.base k f fd ps sp) (hc : Calm X.A) (hr : Room k X.A) (hg : Gl X x) (hm : X.mg x = some (.ref f)) (hk : PySem.W.keepIn X.K (.ref f) = true) (hb : Binds X.K fd ps ds) (hd : Vals dvs ds) (hx : Passes CX0 X E)
    (ha : PA X (e :: es) t) (hdb : (x == ("__debug__" : Str)) = false := by decide) (he : starEach (e :: es) X.env = (false, eval e X.env) :: starEach es X.env := by rfl) (hpl : (backTo pos (starEach es X.env)).any (·.1) = false := by rfl) :
    PE X (.Call (.Name x p) (e :: es) [] pos) (tCall sp dvs E t) :=
  ⟨fun pins s σ H Q I h => wpAny_Call_Name_kw (ld_glob I hg hm
    (PySem.W.callWith_K (h₀ := X.base) I.ok.mod.kin hk (thn (ha.run pos pins s σ H _ I h) fun us s1 ⟨vs, H1, I1, r, q⟩ => ⟨I1.kIn, goes_in F hc hr hb hd hx I1 r q⟩) he hpl) hdb)⟩
/-- f() -/
theorem pe_callG0 (F : FnG X.prog X.w X.K X.mg X.base k f fd ps sp) (hc : Calm X.A) (hr : Room k X.A) (hg : Gl X x) (hm : X.mg x = some (.ref f)) (hk : PySem.W.keepIn X.K (.ref f) = true) (hb : Binds X.K fd ps ds) (hd : Vals dvs ds) (hx : Passes CX0 X E)
    (hdb : (x == ("__debug__" : Str)) = false := by decide) : PE X (.Call (.Name x p) [] [] pos) (tCall sp dvs E tNil) :=
  ⟨fun pins s σ H Q I h => wpAny_Call_Name_kw (ld_glob I hg hm (PySem.W.callWith_K0 I.kIn hk (goes_in (us := []) F hc hr hb hd hx I .nil h)) hdb)⟩
end
/-! ### the law's own end, in calm room -/
section
variable {P : Program} {w : World} {K : PySem.W.Frag} {mg mb : Str → Option Value} {s₁ : Shared} {H : Hp} {a : Addr}
/-- what is seen behind the top once the script alone may be tracked -/
structure Lone (K : PySem.W.Frag) (s₁ : Shared) (H : Hp) (a : Addr) : Prop where
  only : Only H
  at_a : ∀ b, H b ≠ none → b = a
  noK : H a ≠ none → K.lookup a = none
  noD : ∀ o, s₁.heap.get? a = some o → ∀ es ep, o.data ≠ .dict es ep
theorem Lone.bare (L : Lone K s₁ H a) {b : Addr} {o : Obj} (e : s₁.heap.get? b = some o) (h : (∃ es ep, o.data = .dict es ep) ∨ K.lookup b = some o) : H b = none := by
  refine Classical.byContradiction fun n => ?_
  have eb := L.at_a b n
  subst eb
  rcases h with ⟨es, ep, d⟩ | h
  · exact L.noD o e es ep d
  · exact nomatch (L.noK n).symm.trans h
theorem Lone.env (L : Lone K s₁ H a) (KX : K.In s₁.heap) (hns : s₁.heap.Ns mainGlobals mg) (hb : s₁.heap.Ns builtinsNs mb) (hbb : ∀ x : Str, x ≠ "__name__" → mb x = bootBuiltins x) (hlim : s₁.heap.NoLimit) (hg : s₁.gens = #[])
    (hok : HOk P w H s₁.heap) : K.In (hidT s₁.heap H) ∧ (hidT s₁.heap H).Ns mainGlobals mg ∧ Env0 P w K mg (hidT s₁.heap H) callerA [] s₁ H := by
  have ns : ∀ {b : Addr} {m : Str → Option Value}, s₁.heap.Ns b m → (hidT s₁.heap H).Ns b m := fun ⟨o, es, ep, e, d, r⟩ => ⟨o, es, ep, hidT_get e (L.bare e (.inl ⟨es, ep, d⟩)), d, r⟩
  have kin : K.In (hidT s₁.heap H) := fun b o e => hidT_get (KX b o e) (L.bare (KX b o e) (.inr e))
  obtain ⟨mc, c1, c2⟩ := hlim
  exact ⟨kin, ns hns, rfl, ⟨kin, ns hns, ⟨mb, ns hb, hbb⟩, ⟨mc, ns c1, c2⟩⟩, fun b o e => of_hidT e, Nat.le_of_eq (hidT_size _ _), trivial, fun b z => (List.not_mem_nil z).elim, hok, .of_eq hg⟩
theorem Lone.kept (L : Lone K s₁ H a) {s' : Shared} (hok : HOk P w H s₁.heap) {u : Value} (c : CE [] P w H s₁ (fun v _ => v = .bl true) u s') : Flow.ret u = .ret (.bool true) ∧ OldK s₁.heap s'.heap ∧ s'.os = s₁.os ∧ AllBare s'.gens := by
  obtain ⟨v, H', os, bare, un, hok', r', q⟩ := c
  cases (show v = .bl true from q)
  cases (show u = Value.bool true from r')
  refine ⟨rfl, OldK.of_keep fun b o e => ?_, os, bare⟩
  cases q : H b with
  | none => exact un.keep b o e q (fun z => (List.not_mem_nil z).elim) (fun z => (List.not_mem_nil z).elim)
  | some u =>
    rcases L.only b with z | ⟨ob, xs, z⟩
    · exact nomatch q.symm.trans z
    · have before := (hok b _ z).1
      have after := (hok' b _ (un.frzs b ob _ z)).1
      cases before.symm.trans e
      exact after
variable {k : Nat} {fa : Addr} {fd : FuncData} {x : Str} {sp : Sp} {vs : List Value} {ns : List Int}
theorem law_goes (KX : K.In s₁.heap) (hns : s₁.heap.Ns mainGlobals mg) (hb : s₁.heap.Ns builtinsNs mb) (hbb : ∀ x : Str, x ≠ "__name__" → mb x = bootBuiltins x) (hlim : s₁.heap.NoLimit) (hg : s₁.gens = #[])
    (ha : s₁.heap.get? a = some { cls := .type "list", data := .seq vs.toArray }) (hi : IntsAre vs ns) (hl : ns.length ≤ sizeLine) (hr : Room k callerA)
    (F : ∀ base : Heap, K.In base → base.Ns mainGlobals mg → FnG P w K mg base k fa fd [x] sp) (bind : ∀ (s : Shared) (u : Value), BindsTo s fd ⟨[u], []⟩ [(x, u)])
    (hsp : ∀ H : Hp, Only H → SqL K H a (ns.map V.int) → sp [.ref a] H (fun v _ => v = .bl true) fun _ _ _ => False) :
    codeAny (model P w) callerA (.call (.ref fa) ⟨[.ref a], []⟩) (fun r s' => r = .ok (.ret (.bool true)) ∧ OldK s₁.heap s'.heap ∧ s'.os = s₁.os ∧ AllBare s'.gens) s₁ := by
  have rv := vals_ints hi
  have core : ∀ H : Hp, Lone K s₁ H a → SqL K H a (ns.map V.int) → HOk P w H s₁.heap → codeAny (model P w) callerA (.call (.ref fa) ⟨[.ref a], []⟩) (fun r s' => r = .ok (.ret (.bool true)) ∧ OldK s₁.heap s'.heap ∧ s'.os = s₁.os ∧ AllBare s'.gens) s₁ := by
    intro H L hS hok
    obtain ⟨kin, kns, e0⟩ := L.env (P := P) (w := w) KX hns hb hbb hlim hg hok
    refine codeAny_mono ((F _ kin kns).goes callerA [] s₁ H ⟨[.ref a], []⟩ [.ref a] [.ref a] _ _ calm_caller hr e0 (bind s₁ (.ref a)) (.cons rfl .nil) (hsp H L.only hS)) fun r s' h => ?_
    match r, h with
    | .error _, h => exact h.elim
    | .ok .next, h => exact h.elim
    | .ok .brk, h => exact h.elim
    | .ok .cont, h => exact h.elim
    | .ok (.ret u), h =>
      obtain ⟨e, rest⟩ := L.kept hok h
      exact ⟨congrArg Except.ok e, rest⟩
  have noD : ∀ o, s₁.heap.get? a = some o → ∀ es ep, o.data ≠ .dict es ep := fun o e es ep d => by
    cases ha.symm.trans e
    cases (show Data.seq vs.toArray _ = Data.dict es ep from d)
  cases hk : K.lookup a with
  | some o =>
    cases ha.symm.trans (KX a o hk)
    exact core (fun _ => none) ⟨fun _ => .inl rfl, fun b z => (z rfl).elim, fun z => (z rfl).elim, noD⟩ (.inr ⟨_, vs.toArray, _, hk, rfl, rfl, rfl, by rw [List.size_toArray, hi.length]; exact hl, by simpa using rv⟩) (fun b u z => nomatch (show (none : Option HO) = some u from z))
  | none =>
    let T : HO := .frz { cls := .type "list", data := .seq vs.toArray } (.lst (ns.map V.int))
    have tA : ∀ b u, (if b = a then some T else none : Option HO) = some u → b = a ∧ u = T := fun b u z => by
      by_cases q : b = a
      · rw [if_pos q] at z
        exact ⟨q, (Option.some.inj z).symm⟩
      · rw [if_neg q] at z
        cases z
    refine core (fun b => if b = a then some T else none) ⟨fun b => ?_, fun b z => ?_, fun _ => hk, noD⟩ (.inl (.inr ⟨{ cls := .type "list", data := .seq vs.toArray }, if_pos rfl⟩)) (fun b u z => ?_)
    · by_cases q : b = a
      · exact .inr ⟨_, _, if_pos q⟩
      · exact .inl (if_neg q)
    · exact Classical.byContradiction fun q => z (if_neg q)
    · obtain ⟨e1, e2⟩ := tA b u z
      subst e1
      subst e2
      exact ⟨ha, by rw [List.length_map]; exact hl, vs, _, rv, ha⟩
end
/-- the goal that the head leaves, from the law's promise in calm room -/
theorem walk_calm {l : PySem.W.OpenLaw} {n k : Nat} {q : Program} {loose : List Str} {XP : (Str → Option Value) → Heap → Prop} {YP : World → Heap → Prop} {d : DefRec} {K : Params → PySem.W.Frag} {sp : PySem.W.Frag → Sp} {x : Str}
    (hn : l.most = some n) (hn2 : n ≤ sizeLine) (hdf : d.params.defaults = []) (hr : Room k callerA) (hY : ∀ (w : World) (h : Heap), YP w h → (K w.params).In h)
    (F : ∀ (w : World) (mg : Str → Option Value) (fa : Addr) (h : Heap), (K w.params).In h → h.Ns mainGlobals mg → mg d.name = some (.ref fa) →
      ∃ fd : FuncData, (∀ (s : Shared) (u : Value), BindsTo s fd ⟨[u], []⟩ [(x, u)]) ∧ ∀ base : Heap, (K w.params).In base → base.Ns mainGlobals mg → FnG l.prog w (K w.params) mg base k fa fd [x] (sp (K w.params)))
    (hsp : ∀ (K : PySem.W.Frag) (H : Hp) (a : Addr) (ns : List Int), ns.length ≤ n → Only H → SqL K H a (ns.map V.int) → sp K [.ref a] H (fun v _ => v = .bl true) fun _ _ _ => False) :
    PySem.W.WalkO q loose XP YP l.row.toRowW d [] (fun f vs => PySem.call f vs) :=
  Att.attach_call hn hdf fun w s₀ s₁ mg mb fa o pm cd doc a vs ns G Y ho hd hcd hmg hobj hints hlen hg => by
    obtain ⟨fd, hb, hF⟩ := F w mg fa _ (hY w _ Y) G.T.g hmg
    exact law_goes (hY w _ Y) G.T.g G.T.b G.T.builtins G.T.nolimit hg hobj hints (Nat.le_trans hlen hn2) hr hF hb fun H hO hS => hsp _ H a ns hlen hO hS

/-! ### repr of data, in calm room -/
section
variable {X : Cx}
/-- repr(x) of data: its text is the data's -/
def rRepr (K : PySem.W.Frag) : List V → Hp → VK → Prop := fun xs H Q => ∃ (a : Addr) (d : PyData), xs = [.ref a] ∧ Dp K H (.ref a) d ∧ d.showable = true ∧ d.hasDict = false ∧ d.depth < 64 ∧ d.shown.length ≤ sizeLine ∧ Q (.str d.shown) H
theorem call_repr_data (hc : Calm X.A) (hu : X.A.units + 64 < cLine) : CallR X (.builtin "repr") (rRepr X.K) := by
  intro pins s σ H xs us Q I r h
  obtain ⟨a, d, rfl, hd, hs, hn, hz, hl, q⟩ := h
  obtain ⟨u, rfl, r1⟩ := vals1 r
  cases (show u = Value.ref a from r1)
  obtain ⟨as, hr⟩ := Dp.reads I d _ _ hd r1
  refine repr_of_reads' (h₀ := s.heap) hr hs (fun z => ?_) hc (by omega) (fun _ _ e => e) (fun h' u tk hk => ?_) hl
  · rw [hn] at z
    cases z
  · exact ⟨.str _, H, I.kept hk, ⟨_, rfl⟩, q⟩
/-- a power of any two written numbers that is not too long -/
def CPowW (i j : Int) : Prop := 0 ≤ j ∧ (Builtin.Int.intBits i : Int) * j ≤ 2 ^ 27
theorem op_powW : OpR X (binaryOp .Pow) (rI CPowW fun i j => .int (i ^ j.toNat)) := opI fun _ _ _ _ _ _ _ hc q => pow_int hc.1 hc.2 q
end

/-! ### names that stand for defs -/
/-- the name x stands for a def that keeps the promise sp in calm room, by at most level k -/
def Cg (P : Program) (w : World) (K : PySem.W.Frag) (mg : Str → Option Value) (base : Heap) (k : Nat) (x : Str) (sp : Sp) : Prop :=
  ∃ (f : Addr) (fd : FuncData) (ps : List Str), FnG P w K mg base k f fd ps sp ∧ mg x = some (.ref f) ∧ PySem.W.keepIn K (.ref f) = true ∧ Binds K fd ps []
/-- the def st of the text stands at the name x -/
def Df (K : PySem.W.Frag) (mg : Str → Option Value) (x : Str) (st : Stmt) (ps : List Str) : Prop :=
  ∃ (f : Addr) (fd : FuncData), Fun K x x st f fd ∧ mg x = some (.ref f) ∧ Binds K fd ps []
section
variable {P : Program} {w : World} {K : PySem.W.Frag} {mg : Str → Option Value} {base : Heap}
theorem FnG.mono {j k : Nat} {f : Addr} {fd : FuncData} {ps : List Str} {sp : Sp} (F : FnG P w K mg base j f fd ps sp) (h : j ≤ k) : FnG P w K mg base k f fd ps sp :=
  ⟨F.count, fun A outer s H args us vs Q E hc hr => F.goes A outer s H args us vs Q E hc (hr.mono h)⟩
theorem Cg.mono {j k : Nat} {x : Str} {sp : Sp} (G : Cg P w K mg base j x sp) (h : j ≤ k) : Cg P w K mg base k x sp := by
  obtain ⟨f, fd, ps, F, m, kp, b⟩ := G
  exact ⟨f, fd, ps, F.mono h, m, kp, b⟩
/-- a name's promise by its def's body -/
theorem Df.ok {x : Str} {st : Stmt} {N ps : List Str} {k : Nat} {sp : Sp} (D : Df K mg x st ps) (S : FnScope N ps (defScope st)) (len : ∀ vs H Q E, sp vs H Q E → vs.length = ps.length)
    (body : ∀ (cdv : Value) (A : Around) (outer : List Env) (s : Shared) (H : Hp) (vs : List V) (Q : VK) (E : XK) (f : Addr), Calm (A.deeper (envOfC x (defScope st) s.heap.objs.size f cdv)) → Room k (A.deeper (envOfC x (defScope st) s.heap.objs.size f cdv)) → sp vs H Q E →
      ∃ t, PSs (cxOf CX0 P w K mg base N x (defScope st) f cdv A outer s H E).nox (defBody st) t ∧ t { nx := fun _ H' => Q .non H', rt := Q } (start N vs) H) : Cg P w K mg base (k + 1) x sp := by
  obtain ⟨f, fd, F, m, b⟩ := D
  exact ⟨f, fd, ps, goes_by F S len fun cdv A outer s H vs Q E hc hr h => body cdv A outer s H vs Q E f hc hr h, m, F.kp, b⟩
/-- .. where what runs around does not matter -/
theorem Df.mk {x : Str} {st : Stmt} {ps : List Str} {h : Heap} {f : Addr} {oc : Value} {od an : Option Addr} {osl : Array (Option Value)} {kV doc pm cdv ct : Value} (X : K.In h) (G : h.Ns mainGlobals mg) (a : PySem.W.nsIn K mainGlobals x = some (some (.ref f)))
    (l : K.lookup f = some ⟨oc, od, .func (PySem.W.fnOf x x (defArgs st) (defBody st) (defScope st) .none kV doc pm an cdv ct), osl⟩) (c : PySem.W.codeIn K cdv x = true) (k : PySem.W.keepIn K (.ref f) = true)
    (b : ∀ (kV doc pm : Value) (an : Option Addr) (cdv ct : Value) (us : List Value), us.length = ps.length → bindArgs (PySem.W.fnOf x x (defArgs st) (defBody st) (defScope st) .none kV doc pm an cdv ct) ⟨us, []⟩ = pure (ps.zip us)) : Df K mg x st ps :=
  ⟨f, _, fun_mk (st := st) l c k, PySem.W.mg_of X G a, (fun_mk (st := st) l c k).binds b⟩
end
section
variable {X : Cx} {j k : Nat} {sp : Sp} {E : XK} {x : Str} {p pos : Pos} {e : Expr} {es : List Expr} {t : TA}
theorem pe_cg (G : Cg X.prog X.w X.K X.mg X.base j x sp) (hc : Calm X.A) (hr : Room k X.A) (hg : Gl X x) (ha : PA X (e :: es) t) (hj : j ≤ k := by decide) (hx : Passes CX0 X E := by exact pass0) (hdb : (x == ("__debug__" : Str)) = false := by decide)
    (he : starEach (e :: es) X.env = (false, eval e X.env) :: starEach es X.env := by rfl) (hpl : (backTo pos (starEach es X.env)).any (·.1) = false := by rfl) : PE X (.Call (.Name x p) (e :: es) [] pos) (tCall sp [] E t) := by
  obtain ⟨f, fd, ps, F, m, kp, b⟩ := G
  exact pe_callG F hc (hr.mono hj) hg m kp b .nil hx ha hdb he hpl
theorem pe_cg0 (G : Cg X.prog X.w X.K X.mg X.base j x sp) (hc : Calm X.A) (hr : Room k X.A) (hg : Gl X x) (hj : j ≤ k := by decide) (hx : Passes CX0 X E := by exact pass0) (hdb : (x == ("__debug__" : Str)) = false := by decide) :
    PE X (.Call (.Name x p) [] [] pos) (tCall sp [] E tNil) := by
  obtain ⟨f, fd, ps, F, m, kp, b⟩ := G
  exact pe_callG0 F hc (hr.mono hj) hg m kp b .nil hx hdb
end

/-! ### the dice of all laws: a list of three ints, at an address of its own -/
def dz (g s c : Int) : HO := .lst [.int g, .int s, .int c]
def Dice (H : Hp) (d : Addr) : Prop := ∃ g s c, H d = some (dz g s c)
/-- all but the dice stays, more may stand -/
def Past (d : Addr) (H H' : Hp) : Prop := (∀ b o, b ≠ d → H b = some o → H' b = some o) ∧ Dice H' d
theorem Past.dice {d : Addr} {H H' : Hp} (h : Past d H H') : Dice H' d := h.2
theorem Past.trans {d : Addr} {H H1 H2 : Hp} (a : Past d H H1) (b : Past d H1 H2) : Past d H H2 := ⟨fun x o n e => b.1 x o n (a.1 x o n e), b.2⟩
theorem Past.refl {d : Addr} {H : Hp} (h : Dice H d) : Past d H H := ⟨fun _ _ _ e => e, h⟩
theorem Past.upd {d : Addr} {H : Hp} (g s c : Int) : Past d H (L2.upd H d (dz g s c)) := ⟨fun x o n e => by rw [upd_ne n]; exact e, g, s, c, upd_same⟩
theorem Past.same {d : Addr} {H H' : Hp} (hd : Dice H d) (h : Same H H') : Past d H H' := by
  obtain ⟨g, s, c, e⟩ := hd
  exact ⟨fun x o _ q => h x o q, g, s, c, h _ _ e⟩
theorem Past.new {d p : Addr} {H : Hp} {o : HO} (hd : Dice H d) (h : H p = none) : Past d H (L2.upd H p o) := Past.same hd fun b x e => by
  rw [upd_ne (ne_of_none e h)]
  exact e
/-- what is kept: anything of another kind than the dice, or at another place -/
theorem Past.keep {d b : Addr} {H H' : Hp} {o : HO} (h : Past d H H') (n : b ≠ d) (e : H b = some o) : H' b = some o := h.1 b o n e
theorem Dice.ne {H : Hp} {d p : Addr} (h : Dice H d) (n : H p = none) : p ≠ d := by
  obtain ⟨g, s, c, e⟩ := h
  exact (ne_of_none e n).symm
theorem Past.seq {K : PySem.W.Frag} {d a : Addr} {xs : List V} {H H' : Hp} (h : Past d H H') (n : a ≠ d) (s : SqL K H a xs) : SqL K H' a xs := by
  rcases s with (s | ⟨o, s⟩) | s
  · exact .inl (.inl (h.1 _ _ n s))
  · exact .inl (.inr ⟨o, h.1 _ _ n s⟩)
  · exact .inr s

/-- the law's own def, by its address -/
theorem law_def {st : Stmt} {x : Str} {K : PySem.W.Frag} {mg : Str → Option Value} {h : Heap} {f fa : Addr} {oc : Value} {od an : Option Addr} {osl : Array (Option Value)} {kV doc pm cdv ct : Value} (X : K.In h) (G : h.Ns mainGlobals mg) (hfa : mg "law" = some (.ref fa))
    (hb : ∀ (kV doc pm : Value) (an : Option Addr) (cdv ct : Value) (s : Shared) (v : Value), BindsTo s (PySem.W.fnOf "law" "law" (defArgs st) (defBody st) (defScope st) .none kV doc pm an cdv ct) ⟨[v], []⟩ [(x, v)]) (a : PySem.W.nsIn K mainGlobals "law" = some (some (.ref f)))
    (l : K.lookup f = some ⟨oc, od, .func (PySem.W.fnOf "law" "law" (defArgs st) (defBody st) (defScope st) .none kV doc pm an cdv ct), osl⟩) (c : PySem.W.codeIn K cdv "law" = true) (k : PySem.W.keepIn K (.ref f) = true) :
    ∃ fd : FuncData, (∀ (s : Shared) (v : Value), BindsTo s fd ⟨[v], []⟩ [(x, v)]) ∧ Fun K "law" "law" st fa fd := by
  cases hfa.symm.trans (PySem.W.mg_of X G a)
  exact ⟨_, hb kV doc pm an cdv ct, fun_mk (st := st) l c k⟩
end Vb
set_option Elab.async false
set_option linter.all false
set_option autoImplicit false
set_option maxRecDepth 100000
set_option maxHeartbeats 4000000
/-! Wd: texts of plain signs, the values that judges are asked of, names. -/
namespace Wd
open PySem PySem.Spec PyProof.Rows L2 Vb
/-! ### texts of plain signs -/
def Asc (z : Str) : Prop := ∀ c ∈ z.cps.toList, c < 128
theorem asc_app {x y : Str} (a : Asc x) (b : Asc y) : Asc (x ++ y) := fun c hc => by
  have e : (x ++ y).cps.toList = x.cps.toList ++ y.cps.toList := by
    show (x.cps ++ y.cps).toList = _
    exact Array.toList_append
  rw [e] at hc
  exact (List.mem_append.mp hc).elim (a c) (b c)
theorem asc_cut {z : Str} (a : Asc z) (lo hi : Option Int) : Asc (cutS z lo hi) := fun c hc => by
  unfold cutS at hc
  exact a c (List.mem_of_mem_drop (List.mem_of_mem_take hc))
theorem mem_joinL : ∀ {parts : List (List Nat)} {c : Nat}, c ∈ TL.joinL [] parts → ∃ p ∈ parts, c ∈ p
  | [], _, h => nomatch h
  | [p], c, h => ⟨p, List.mem_cons_self, h⟩
  | p :: q :: r, c, h => by
    rcases List.mem_append.mp (show c ∈ p ++ ([] ++ TL.joinL [] (q :: r)) from h) with h | h
    · exact ⟨p, List.mem_cons_self, h⟩
    · obtain ⟨p', hp, hc⟩ := mem_joinL (parts := q :: r) h
      exact ⟨p', List.mem_cons_of_mem _ hp, hc⟩
theorem asc_join {ys : List Str} (a : ∀ y ∈ ys, Asc y) : Asc (Txt.join (Str.ofString "") ys) := fun c hc => by
  rw [TL.join_eq] at hc
  have e : (Str.join (Str.ofString "") ys).cps.toList = TL.joinL [] (ys.map TL.tl) := TL.tl_join (Str.ofString "") ys
  rw [e] at hc
  obtain ⟨p, hp, hc⟩ := mem_joinL hc
  obtain ⟨y, hy, rfl⟩ := List.mem_map.mp hp
  exact a y hy c hc
theorem asc_one {z : Str} (a : Asc z) {c : Nat} (h : c ∈ z.cps.toList) : Asc ⟨#[c]⟩ := fun x hx => by
  have e : x = c := by simpa using hx
  rw [e]
  exact a c h
/-- what the three judges are asked of -/
def Judged (H : Hp) : V → Prop
  | .int i => i.natAbs < 10 ^ 100
  | .str z => z.length ≤ 1000 ∧ Asc z
  | .non => True
  | .bl _ => True
  | .ref a => (∃ xs, H a = some (.lst xs)) ∨ (∃ xs, H a = some (.tup xs)) ∨ ∃ kvs, H a = some (.dK kvs)
  | _ => False
theorem Judged.same {H H' : Hp} (h : Same H H') : ∀ {v : V}, Judged H v → Judged H' v
  | .int _, j => j
  | .str _, j => j
  | .non, j => j
  | .bl _, j => j
  | .ref _, j => j.imp (fun ⟨xs, e⟩ => ⟨xs, h _ _ e⟩) fun j => j.imp (fun ⟨xs, e⟩ => ⟨xs, h _ _ e⟩) fun ⟨xs, e⟩ => ⟨xs, h _ _ e⟩
  | .byt _, j => j
  | .flt _, j => j
  | .ty _, j => j
theorem Past.judged {d : Addr} {H H' : Hp} (h : Past d H H') {v : V} (j : Judged H v) (n : v ≠ .ref d) : Judged H' v := by
  cases v with
  | ref a =>
    have ad : a ≠ d := fun e => n (by rw [e])
    exact j.imp (fun ⟨xs, e⟩ => ⟨xs, h.1 _ _ ad e⟩) fun j => j.imp (fun ⟨xs, e⟩ => ⟨xs, h.1 _ _ ad e⟩) fun ⟨xs, e⟩ => ⟨xs, h.1 _ _ ad e⟩
  | _ => exact j
theorem sum_ones : ∀ {l : List Str}, (∀ y ∈ l, y.length = 1) → (l.map (·.length)).sum = l.length
  | [], _ => rfl
  | y :: l, h => by
    rw [List.map_cons, List.sum_cons, sum_ones (l := l) (fun z hz => h z (List.mem_cons_of_mem _ hz)), h y List.mem_cons_self, List.length_cons]
    omega
theorem same_new {H : Hp} {p : Addr} {o : HO} (n : H p = none) : Same H (upd H p o) := fun b x e => by
  rw [upd_ne (ne_of_none e n)]
  exact e
theorem same_new2 {H : Hp} {p : Addr} {o o' : HO} (n : H p = none) : Same H (upd (upd H p o) p o') := by
  rw [upd_upd]
  exact same_new n
def low (c : Nat) : Bool := 97 ≤ c && c ≤ 122
def isNam : V → Bool
  | .str z => decide (1 ≤ z.length) && decide (z.length ≤ 8) && z.cps.toList.all low
  | _ => false
def isInt : V → Bool
  | .int i => decide (i.natAbs < 10 ^ 60)
  | _ => false
def notNeg : V → Bool
  | .int i => decide (0 ≤ i)
  | _ => false
def spOf (g : V → Bool) : Sp := fun vs H Q _ => ∃ v, vs = [v] ∧ Judged H v ∧ ∀ H', Same H H' → Q (.bl (g v)) H'
/-- the kinds of judged values -/
theorem kinds {K : PySem.W.Frag} {H : Hp} {v : V} (j : Judged H v) : (∃ i, v = .int i ∧ i.natAbs < 10 ^ 100) ∨ (∃ b, v = .bl b) ∨ (∃ z, v = .str z ∧ z.length ≤ 1000 ∧ Asc z) ∨
    (∃ T, TyX K H v (.type T) ∧ kitB T "int" = some false ∧ kitB T "bool" = some false ∧ kitB T "str" = some false ∧ isInt v = false ∧ notNeg v = false ∧ isNam v = false) := by
  cases v with
  | int i => exact .inl ⟨i, rfl, j⟩
  | bl b => exact .inr (.inl ⟨b, rfl⟩)
  | str z => exact .inr (.inr (.inl ⟨z, rfl, j⟩))
  | non => exact .inr (.inr (.inr ⟨"NoneType", .base .non, by decide +kernel, by decide +kernel, by decide +kernel, rfl, rfl, rfl⟩))
  | byt _ => exact False.elim j
  | flt _ => exact False.elim j
  | ty _ => exact False.elim j
  | ref a =>
    rcases j with ⟨xs, e⟩ | ⟨xs, e⟩ | ⟨xs, e⟩
    · exact .inr (.inr (.inr ⟨"list", .base (.lst e), by decide +kernel, by decide +kernel, by decide +kernel, rfl, rfl, rfl⟩))
    · exact .inr (.inr (.inr ⟨"tuple", .base (.tup e), by decide +kernel, by decide +kernel, by decide +kernel, rfl, rfl, rfl⟩))
    · exact .inr (.inr (.inr ⟨"dict", .base (.dK e), by decide +kernel, by decide +kernel, by decide +kernel, rfl, rfl, rfl⟩))
theorem ki_ii : kitB "int" "int" = some true := by decide +kernel
theorem ki_ib : kitB "int" "bool" = some false := by decide +kernel
theorem ki_is : kitB "int" "str" = some false := by decide +kernel
theorem ki_bi : kitB "bool" "int" = some true := by decide +kernel
theorem ki_bb : kitB "bool" "bool" = some true := by decide +kernel
theorem ki_bs : kitB "bool" "str" = some false := by decide +kernel
theorem ki_si : kitB "str" "int" = some false := by decide +kernel
theorem ki_sb : kitB "str" "bool" = some false := by decide +kernel
theorem ki_ss : kitB "str" "str" = some true := by decide +kernel
theorem digits_60 (n : Nat) (h : n < 10 ^ 100) : (decide ((Nat.toDigits 10 n).length ≤ 60)) = decide (n < 10 ^ 60) := by
  apply decide_eq_decide.mpr
  constructor
  · intro hl
    refine Classical.byContradiction fun hn => ?_
    have := digitsCore10_ge 60 (n + 1) n [] (by have : 60 < 10 ^ 60 := by decide +kernel
                                                omega) (by omega)
    have e : Nat.toDigits 10 n = Nat.toDigitsCore 10 (n + 1) n [] := rfl
    rw [e] at hl
    simp only [List.length_nil] at this
    omega
  · exact digits10_le (by decide)
theorem num_len (n : Nat) : (Str.ofString (toString ((n : Nat) : Int))).length = (Nat.toDigits 10 n).length := by
  have e := congrArg List.length (PySem.W.KIN.signs_num n)
  rw [List.length_map] at e
  rw [← e]
  simp [Str.length]
/-! ### plain signs -/
def upp (c : Nat) : Bool := 65 ≤ c && c ≤ 90
theorem cl_alpha : ∀ c, c < 128 → Unicode.isAlpha c = (upp c || low c) := by decide +kernel
theorem cl_lower : ∀ c, c < 128 → Unicode.isLower c = low c := by decide +kernel
theorem cl_upper : ∀ c, c < 128 → (Unicode.isUpper c || Unicode.isTitle c) = upp c := by decide +kernel
theorem cl_not : ∀ c, c < 128 → low c = false → upp c = true ∨ (upp c || low c) = false := by decide +kernel
theorem cl_both : ∀ c, c < 128 → low c = true → upp c = false := by decide +kernel
theorem name_signs {z : Str} (a : Asc z) (h : 1 ≤ z.length) : (Txt.isascii z && (Txt.isalpha z && Txt.islower z)) = z.cps.toList.all low := by
  have hl : z.cps.toList.length = z.length := by simp [Str.length]
  have e1 : Txt.isascii z = true := by
    unfold Txt.isascii
    rw [← Array.all_toList, List.all_eq_true]
    exact fun c hc => decide_eq_true (a c hc)
  have e2 : Txt.isalpha z = z.cps.toList.all Unicode.isAlpha := by
    unfold Txt.isalpha
    rw [decide_eq_true (show z.length > 0 by omega), Bool.true_and, ← Array.all_toList]
  have e3 : Txt.islower z = (z.cps.toList.any Unicode.isLower && !z.cps.toList.any fun c => Unicode.isUpper c || Unicode.isTitle c) := by
    unfold Txt.islower
    rw [← Array.any_toList, ← Array.any_toList]
  rw [e1, e2, e3, Bool.true_and]
  have a' : ∀ c ∈ z.cps.toList, c < 128 := a
  cases hL : z.cps.toList.all low with
  | true =>
    have hl' := List.all_eq_true.mp hL
    have k1 : z.cps.toList.all Unicode.isAlpha = true := List.all_eq_true.mpr fun c hc => by
      rw [cl_alpha c (a' c hc), hl' c hc, Bool.or_true]
    have k2 : z.cps.toList.any Unicode.isLower = true := by
      cases e : z.cps.toList with
      | nil =>
        rw [e] at hl
        simp at hl
        omega
      | cons c r =>
        have hc : c ∈ z.cps.toList := by rw [e]; exact List.mem_cons_self
        rw [List.any_cons, cl_lower c (a' c hc), hl' c hc, Bool.true_or]
    have k3 : (z.cps.toList.any fun c => Unicode.isUpper c || Unicode.isTitle c) = false := List.any_eq_false.mpr fun c hc => by
      rw [cl_upper c (a' c hc), cl_both c (a' c hc) (hl' c hc)]
      exact Bool.false_ne_true
    rw [k1, k2, k3]
    rfl
  | false =>
    obtain ⟨c, hc, hn⟩ := List.all_eq_false.mp hL
    have hn' : low c = false := by simpa using hn
    rcases cl_not c (a' c hc) hn' with u | u
    · have k3 : (z.cps.toList.any fun c => Unicode.isUpper c || Unicode.isTitle c) = true := List.any_eq_true.mpr ⟨c, hc, by rw [cl_upper c (a' c hc)]; exact u⟩
      rw [k3]
      simp
    · have k1 : z.cps.toList.all Unicode.isAlpha = false := List.all_eq_false.mpr ⟨c, hc, by rw [cl_alpha c (a' c hc), u]; exact Bool.false_ne_true⟩
      rw [k1]
      rfl
theorem one_lt (a b : Nat) : decide ([a] < [b]) = decide (a < b) := by
  apply decide_eq_decide.mpr
  constructor
  · intro h
    cases h with
    | rel h => exact h
    | cons h => exact nomatch h
  · exact fun h => .rel h
theorem isNam_str (z : Str) : isNam (.str z) = (decide (1 ≤ z.length) && decide (z.length ≤ 8) && z.cps.toList.all low) := rfl
/-- the signs that are no small letters, as texts -/
def odd1 (L : List Nat) : List V := (L.filter (fun c => !low c)).map fun c => V.str ⟨#[c]⟩
theorem odd1_snoc (L : List Nat) (c : Nat) : odd1 (L ++ [c]) = odd1 L ++ (if low c = true then [] else [V.str ⟨#[c]⟩]) := by
  unfold odd1
  rw [List.filter_append, List.map_append]
  congr 1
  cases h : low c <;> simp [h]
theorem odd1_nil (L : List Nat) : (odd1 L).isEmpty = L.all low := by
  unfold odd1
  induction L with
  | nil => rfl
  | cons c r ih =>
    cases h : low c with
    | true => simpa [h] using ih
    | false => simp [h]
theorem odd1_len (L : List Nat) : (odd1 L).length ≤ L.length := by
  unfold odd1
  rw [List.length_map]
  exact List.length_filter_le _ _
/-- such a list as data -/
theorem dp_strs {K : PySem.W.Frag} {H : Hp} : ∀ l : List Str, DpAll K H (l.map V.str) (l.map PyData.str)
  | [] => .nil
  | y :: l => .cons (.str y) (dp_strs l)
theorem lay_strs : ∀ l : List Str, (∀ y ∈ l, Asc y) → PyData.canLayAll0 (l.map PyData.str) = true ∧ PyData.depthAll (l.map PyData.str) = 0
  | [], _ => ⟨rfl, rfl⟩
  | y :: l, h => by
    obtain ⟨h1, h2⟩ := lay_strs l fun z hz => h z (List.mem_cons_of_mem _ hz)
    constructor
    · show (PyData.canLay0 (.str y) && PyData.canLayAll0 (l.map PyData.str)) = true
      rw [h1, Bool.and_true]
      show y.cps.all (· < 0x110000) = true
      rw [← Array.all_toList, List.all_eq_true]
      exact fun c hc => decide_eq_true (Nat.lt_trans (h y List.mem_cons_self c hc) (by decide))
    · show max (PyData.depth (.str y)) (PyData.depthAll (l.map PyData.str)) = 0
      rw [h2]
      rfl
theorem shaped_strs {l : List Str} (h : ∀ y ∈ l, Asc y) : SeqAt.shaped (.list (l.map PyData.str)) = true := by
  obtain ⟨h1, h2⟩ := lay_strs l h
  show (PyData.canLay0 (.list (l.map PyData.str)) && decide (PyData.depth (.list (l.map PyData.str)) ≤ 64)) = true
  rw [show PyData.canLay0 (.list (l.map PyData.str)) = true from h1, Bool.true_and]
  exact decide_eq_true (by show PyData.depthAll _ + 1 ≤ 64; rw [h2]; decide)
theorem small8000 {n : Nat} (h : n ≤ 1000000) : ((n : Int)).natAbs < 2 ^ 8000 := by
  have : (1000000 : Nat) < 2 ^ 8000 := by decide +kernel
  omega
theorem fits_million {n : Nat} (h : n ≤ 1000000) : n ≤ sizeLine := Nat.le_trans h (by decide)
theorem same_past {d : Addr} {o : HO} {H H' : Hp} (nd : H d = none) (p : Past d (upd H d o) H') : Same H H' := fun b x e => by
  have bd : b ≠ d := ne_of_none e nd
  exact p.1 b x bd (by rw [upd_ne bd]; exact e)
theorem asc_lit {z : Str} (h : z.cps.toList.all (· < 128) = true) : Asc z := fun c hc => of_decide_eq_true (List.all_eq_true.mp h c hc)
end Wd
set_option Elab.async false
set_option linter.all false
set_option autoImplicit false
set_option maxRecDepth 100000
set_option maxHeartbeats 4000000
namespace K03
open PySem PySem.Spec PyProof.Rows L2 Vb Wd
def topS (i : Nat) : Stmt := PySem.Challenge.pw_mendbooks_k03_forms.main.body.getD i (.Pass ⟨0, 0, 0, 0⟩)
abbrev s_is_integer : Stmt := topS 3
theorem sc_is_integer : FnScope ["value"] ["value"] (defScope s_is_integer) := ⟨rfl, rfl, rfl, by decide +kernel, rfl, by decide +kernel, by decide +kernel⟩
abbrev s_is_count : Stmt := topS 4
theorem sc_is_count : FnScope ["value"] ["value"] (defScope s_is_count) := ⟨rfl, rfl, rfl, by decide +kernel, rfl, by decide +kernel, by decide +kernel⟩
abbrev s_is_index : Stmt := topS 5
theorem sc_is_index : FnScope ["value", "many"] ["value", "many"] (defScope s_is_index) := ⟨rfl, rfl, rfl, by decide +kernel, rfl, by decide +kernel, by decide +kernel⟩
abbrev s_is_name : Stmt := topS 6
theorem sc_is_name : FnScope ["value"] ["value"] (defScope s_is_name) := ⟨rfl, rfl, rfl, by decide +kernel, rfl, by decide +kernel, by decide +kernel⟩
abbrev s_words_of : Stmt := topS 7
theorem sc_words_of : FnScope ["value"] ["value"] (defScope s_words_of) := ⟨rfl, rfl, rfl, by decide +kernel, rfl, by decide +kernel, by decide +kernel⟩
abbrev s_is_step : Stmt := topS 18
theorem sc_is_step : FnScope ["value"] ["value"] (defScope s_is_step) := ⟨rfl, rfl, rfl, by decide +kernel, rfl, by decide +kernel, by decide +kernel⟩
abbrev s_is_child : Stmt := topS 19
theorem sc_is_child : FnScope ["value"] ["value"] (defScope s_is_child) := ⟨rfl, rfl, rfl, by decide +kernel, rfl, by decide +kernel, by decide +kernel⟩
abbrev s_is_children : Stmt := topS 20
theorem sc_is_children : FnScope ["value", "child"] ["value"] (defScope s_is_children) := ⟨rfl, rfl, rfl, by decide +kernel, rfl, by decide +kernel, by decide +kernel⟩
abbrev s_is_form_line : Stmt := topS 21
theorem sc_is_form_line : FnScope ["words", "word"] ["words"] (defScope s_is_form_line) := ⟨rfl, rfl, rfl, by decide +kernel, rfl, by decide +kernel, by decide +kernel⟩
abbrev s_is_child_word : Stmt := topS 22
theorem sc_is_child_word : FnScope ["word"] ["word"] (defScope s_is_child_word) := ⟨rfl, rfl, rfl, by decide +kernel, rfl, by decide +kernel, by decide +kernel⟩
abbrev s_l_dice : Stmt := topS 24
theorem sc_l_dice : FnScope ["_law_script", "_law_spot", "_law_cell", "_law_great", "_law_seed"] ["_law_script", "_law_spot"] (defScope s_l_dice) := ⟨rfl, rfl, rfl, by decide +kernel, rfl, by decide +kernel, by decide +kernel⟩
abbrev s_l_roll : Stmt := topS 25
theorem sc_l_roll : FnScope ["_law_dice_here", "_law_total", "_law_found", "_law_one", "_law_two"] ["_law_dice_here", "_law_total"] (defScope s_l_roll) := ⟨rfl, rfl, rfl, by decide +kernel, rfl, by decide +kernel, by decide +kernel⟩
abbrev s_l_pick : Stmt := topS 26
theorem sc_l_pick : FnScope ["_law_dice_here", "_law_items"] ["_law_dice_here", "_law_items"] (defScope s_l_pick) := ⟨rfl, rfl, rfl, by decide +kernel, rfl, by decide +kernel, by decide +kernel⟩
abbrev s_l_name : Stmt := topS 27
theorem sc_l_name : FnScope ["_law_dice_here", "_law_much", "_law_turn"] ["_law_dice_here"] (defScope s_l_name) := ⟨rfl, rfl, rfl, by decide +kernel, rfl, by decide +kernel, by decide +kernel⟩
abbrev s_l_is_name : Stmt := topS 28
theorem sc_l_is_name : FnScope ["_law_word", "_law_sign"] ["_law_word"] (defScope s_l_is_name) := ⟨rfl, rfl, rfl, by decide +kernel, rfl, by decide +kernel, by decide +kernel⟩
/-- dice(script, spot): new dice -/
def spDice (K : PySem.W.Frag) : Sp := fun vs H Q _ => ∃ (a : Addr) (ns : List Int) (i : Int), vs = [.ref a, .int i] ∧ SqL K H a (ns.map V.int) ∧ 0 ≤ i ∧ ∀ d g s, H d = none → Q (.ref d) (upd H d (dz g s 0))
/-- roll(dice, total): an int from 0 on and below total -/
def spRoll : Sp := fun vs H Q _ => ∃ (d : Addr) (n : Int), vs = [.ref d, .int n] ∧ Dice H d ∧ 0 < n ∧ n.natAbs < 2 ^ 8000 ∧ ∀ r H', Past d H H' → 0 ≤ r → r < n → Q (.int r) H'
section
variable {P : Program} {w : World} {K : PySem.W.Frag} {mg : Str → Option Value} {base : Heap}
theorem ok_roll (D : Df K mg "_law_roll" s_l_roll ["_law_dice_here", "_law_total"]) (z_int : mg "int" = none) : Cg P w K mg base 1 "_law_roll" spRoll := by
  refine D.ok sc_l_roll (fun vs H Q E h => ?_) (fun cdv A outer s H vs Q E f hc hr h => ?_)
  · obtain ⟨d, n, rfl, _⟩ := h
    rfl
  · obtain ⟨d, n, rfl, ⟨g, s, c, hd⟩, n0, nz, q⟩ := h
    refine ⟨_, (pss_cons (ps_if (pt_cmpR op_gt (pe_ix ix_list (pv 0) pe_int (fun _ _ => rfl)) pe_int (nomark _))
      (pss_cons (ps_set (i := 2) sc_l_roll.nd rfl (Or.inl rfl) (pe_op op_mod (pe_callTy call_int1 (by rfl) z_int (by decide +kernel) (pa_cons (pe_ix ix_list (pv 0) pe_int (fun _ _ => rfl)) pa_nil)) (pv 1)))
      (pss_cons (ps_asg (pe_op op_fdivW (pe_ix ix_list (pv 0) pe_int (fun _ _ => rfl)) (pv 1)) (pg_sub (pv 0) pe_int set_list))
      (pss_one (ps_ret (pv 2)))))
      pss_nil)
      (pss_cons (ps_asg (pe_op op_add (pe_ix ix_list (pv 0) pe_int (fun _ _ => rfl)) pe_int) (pg_sub (pv 0) pe_int set_list))
      (pss_cons (ps_set (i := 3) sc_l_roll.nd rfl (Or.inl rfl) (pe_op op_mod (pe_callTy call_int1 (by rfl) z_int (by decide +kernel) (pa_cons (pe_op op_add (pe_ix ix_list (pv 0) pe_int (fun _ _ => rfl)) (pe_op op_mul pe_int (pe_ix ix_list (pv 0) pe_int (fun _ _ => rfl)))) pa_nil)) pe_int))
      (pss_cons (ps_set (i := 4) sc_l_roll.nd rfl (Or.inl rfl) (pe_op op_add (pe_op op_mul (pe_op op_mod (pe_callTy call_int1 (by rfl) z_int (by decide +kernel) (pa_cons (pe_op op_mul (pv 3) (pv 3)) pa_nil)) pe_int) (pv 3)) (pe_op op_mul pe_int (pe_ix ix_list (pv 0) pe_int (fun _ _ => rfl)))))
      (pss_one (ps_ret (pe_op op_mod (pe_callTy call_int1 (by rfl) z_int (by decide +kernel) (pa_cons (pe_op op_fdiv (pe_op op_mod (pe_callTy call_int1 (by rfl) z_int (by decide +kernel) (pa_cons (pe_op op_add (pv 4) (pe_op op_mul pe_int (pe_ix ix_list (pv 0) pe_int (fun _ _ => rfl)))) pa_nil)) pe_int) pe_int) pa_nil)) (pv 1)))))))), ?_⟩
    have a0 : ∀ x y z : Int, atI [V.int x, V.int y, V.int z] 0 = some (V.int x) := fun _ _ _ => rfl
    have a1 : ∀ x y z : Int, atI [V.int x, V.int y, V.int z] 1 = some (V.int y) := fun _ _ _ => rfl
    have a2 : ∀ x y z : Int, atI [V.int x, V.int y, V.int z] 2 = some (V.int z) := fun _ _ _ => rfl
    have hS : SqL K H d [.int g, .int s, .int c] := .inl (.inl hd)
    refine ⟨_, rfl, d, _, 0, .int g, rfl, rfl, hS, a0 _ _ _, _, _, rfl, rfl, _, rfl, ite2 (fun _ => ?_) (fun _ => ?_)⟩
    · refine ⟨_, rfl, d, _, 0, .int g, rfl, rfl, hS, a0 _ _ _, .inl ⟨_, rfl, _, rfl, _, _, rfl, rfl, n0, ?_⟩⟩
      refine ⟨_, rfl, d, _, 0, .int g, rfl, rfl, hS, a0 _ _ _, _, rfl, _, _, rfl, rfl, wide_div n0 nz (by decide) (by decide), ?_⟩
      refine ⟨_, rfl, d, _, 0, 0, rfl, rfl, hd, rfl, ?_⟩
      refine ⟨_, rfl, ?_⟩
      exact q _ _ (Past.upd (g / n) s c) (Int.emod_nonneg _ (by omega)) (Int.emod_lt_of_pos _ n0)
    · refine ⟨_, rfl, d, _, 2, .int c, rfl, rfl, hS, a2 _ _ _, _, _, rfl, rfl, ?_⟩
      refine ⟨_, rfl, d, _, 2, 2, rfl, rfl, hd, rfl, ?_⟩
      have hT : SqL K (upd H d (dz g s (c + 1))) d [.int g, .int s, .int (c + 1)] := .inl (.inl upd_same)
      have m0 : ∀ x y : Int, 0 < y → 0 ≤ x % y ∧ x % y < y := fun x y h => ⟨Int.emod_nonneg _ (by omega), Int.emod_lt_of_pos _ h⟩
      have hone := m0 (s + 715827883 * (c + 1)) 2305843009213693951 (by decide)
      refine ⟨_, rfl, d, _, 1, .int s, rfl, rfl, hT, a1 _ _ _, _, rfl, d, _, 2, .int (c + 1), rfl, rfl, hT, a2 _ _ _, _, _, rfl, rfl, by constructor <;> decide, _, _, rfl, rfl, .inl ⟨_, rfl, _, _, rfl, rfl, (by show (0 : Int) < _; decide), ?_⟩⟩
      generalize (s + 715827883 * (c + 1)) % 2305843009213693951 = one at hone ⊢
      refine ⟨_, rfl, _, rfl, _, _, rfl, rfl, (.inl ⟨by omega, by omega⟩), .inl ⟨_, rfl, _, _, rfl, rfl, (by show (0 : Int) < _; decide), ?_⟩⟩
      have htwo := m0 (one * one) 1152921504606846869 (by decide)
      generalize one * one % 1152921504606846869 = two at htwo ⊢
      refine ⟨_, rfl, _, _, rfl, rfl, (.inl ⟨by omega, by omega⟩), _, rfl, d, _, 2, .int (c + 1), rfl, rfl, hT, a2 _ _ _, _, _, rfl, rfl, by constructor <;> decide, _, _, rfl, rfl, ?_⟩
      refine ⟨_, rfl, _, rfl, d, _, 1, .int s, rfl, rfl, hT, a1 _ _ _, _, _, rfl, rfl, by constructor <;> decide, _, _, rfl, rfl, .inl ⟨_, rfl, _, _, rfl, rfl, (by show (0 : Int) < _; decide), _, _, rfl, rfl, ⟨by decide, by decide⟩, .inl ⟨_, rfl, _, rfl, _, _, rfl, rfl, n0, ?_⟩⟩⟩
      exact q _ _ (Past.upd g s (c + 1)) (m0 _ n n0).1 (m0 _ n n0).2

theorem pow_10_58 : CPowW 10 58 := ⟨by decide, by decide +kernel⟩
theorem pow_10_580 : CPowW ((10 : Int) ^ (58 : Int).toNat) 10 := ⟨by decide, by decide +kernel⟩
theorem pos_10_580 : (0 : Int) < ((10 : Int) ^ (58 : Int).toNat) ^ (10 : Int).toNat := by decide +kernel
theorem pow_10_18 : CPowW 10 18 := ⟨by decide, by decide +kernel⟩
theorem ok_dice (D : Df K mg "_law_dice" s_l_dice ["_law_script", "_law_spot"]) (z_int : mg "int" = none) (z_len : mg "len" = none) (z_abs : mg "abs" = none) (z_max : mg "max" = none) : Cg P w K mg base 1 "_law_dice" (spDice K) := by
  refine D.ok sc_l_dice (fun vs H Q E h => ?_) (fun cdv A outer s H vs Q E f hc hr h => ?_)
  · obtain ⟨a, ns, i, rfl, _⟩ := h
    rfl
  · obtain ⟨a, ns, i, rfl, hS, i0, q⟩ := h
    refine ⟨_, (pss_cons (ps_set (i := 2) sc_l_dice.nd rfl (Or.inl rfl) (pe_ifExp (pt_cmpR op_lt (pv 1) (pe_callB call_len_seq (by rfl) z_len PySem.boot_len (pa_cons (pv 0) pa_nil)) (nomark _)) (pe_ix ix_list (pv 0) (pv 1) (fun _ _ => rfl)) (pe_op op_add (pe_op op_mul pe_int (pv 1)) pe_int)))
      (pss_cons (ps_set (i := 3) sc_l_dice.nd rfl (Or.inl rfl) (pe_op op_mod (pe_callTy call_int1 (by rfl) z_int (by decide +kernel) (pa_cons (pe_callB call_abs (by rfl) z_abs (by decide +kernel) (pa_cons (pv 2) pa_nil)) pa_nil)) (pe_op op_powW (pe_op op_powW pe_int pe_int) pe_int)))
      (pss_cons (ps_set (i := 4) sc_l_dice.nd rfl (Or.inl rfl) (pe_op op_add (pe_op op_add (pe_op op_add (pe_op op_mul (pe_op op_mod (pe_callTy call_int1 (by rfl) z_int (by decide +kernel) (pa_cons (pv 3) pa_nil)) pe_int) pe_int) (pe_op op_mul pe_int (pv 1))) (pe_op op_mul pe_int (pe_callTy call_int1 (by rfl) z_int (by decide +kernel) (pa_cons (pe_cmpR op_lt (pv 2) pe_int (nomark _)) pa_nil)))) pe_int))
      (pss_one (ps_ret (pe_lst (pa_cons (pe_callB (call_max2 rfl) (by rfl) z_max (by decide +kernel) (pa_cons pe_int (pa_cons (pe_op op_sub (pv 3) (pe_op op_powW pe_int pe_int)) pa_nil))) (pa_cons (pe_op op_mod (pe_callTy call_int1 (by rfl) z_int (by decide +kernel) (pa_cons (pv 4) pa_nil)) pe_int) (pa_cons pe_int pa_nil))))))))), ?_⟩
    refine ⟨_, rfl, _, rfl, a, ns.map V.int, rfl, .inl hS, _, _, rfl, rfl, _, rfl, ite2 (fun e => ?_) (fun _ => ?_)⟩
    case' refine_2.refine_1 =>
      have lt : i < ((ns.map V.int).length : Int) := of_decide_eq_true e
      have il : i.toNat < ns.length := by
        rw [List.length_map] at lt
        omega
      have at_i : atI (ns.map V.int) i = some (.int ns[i.toNat]) := by
        refine at_of (j := i.toNat) (by omega) ?_
        rw [List.getElem?_map, List.getElem?_eq_getElem il]
        rfl
      refine ⟨_, rfl, _, rfl, a, _, i, _, rfl, rfl, hS, at_i, ?_⟩
      generalize ns[i.toNat] = cell
    case' refine_2.refine_2 =>
      refine ⟨_, rfl, _, _, rfl, rfl, by constructor <;> decide, _, _, rfl, rfl, ?_⟩
      generalize 71 * i + 37 = cell
    all_goals
      refine ⟨_, rfl, _, rfl, .inl ⟨_, rfl, _, _, rfl, rfl, pow_10_58, _, _, rfl, rfl, pow_10_580, _, _, rfl, rfl, pos_10_580, ?_⟩⟩
      refine ⟨_, rfl, .inl ⟨_, rfl, _, _, rfl, rfl, (by show (0 : Int) < _; decide), _, _, rfl, rfl, .inr (by constructor <;> decide), _, rfl, _, _, rfl, rfl, by constructor <;> decide, _, _, rfl, rfl, _, rfl, _, _, rfl, rfl, .inr ⟨_, rfl, ?_⟩⟩⟩
      refine ⟨_, _, rfl, rfl, by constructor <;> decide, _, _, rfl, rfl, _, _, rfl, rfl, ?_⟩
      refine ⟨_, rfl, _, _, rfl, rfl, pow_10_18, _, _, rfl, rfl, _, _, rfl, _, rfl, .inl ⟨_, rfl, _, _, rfl, rfl, (by show (0 : Int) < _; decide), ?_⟩⟩
      exact ⟨by show 3 ≤ sizeLine; decide, fun p hp => q p _ _ hp⟩

end
theorem at_of' {α : Type} {xs : List α} {z : Int} {j : Nat} {v : α} (e : z = (j : Int)) (h : xs[j]? = some v) : atI xs z = some v := by
  rw [e]
  exact atI_nat h
/-- what pick draws from: a list, a tuple or a text that is not empty; what may come of it -/
def Some1 (K : PySem.W.Frag) (H : Hp) (d : Addr) : V → (V → Prop) → Prop := fun x p =>
  (∃ l xs, x = .ref l ∧ l ≠ d ∧ (SqL K H l xs ∨ SqT K H l xs) ∧ xs ≠ [] ∧ xs.length ≤ 1000000 ∧ ∀ v ∈ xs, p v) ∨
  (∃ z : Str, x = .str z ∧ 0 < z.length ∧ z.length ≤ 1000000 ∧ ∀ c ∈ z.cps.toList, p (.str ⟨#[c]⟩))
/-- pick(dice, items): one of them -/
def spPick (K : PySem.W.Frag) : Sp := fun vs H Q _ => ∃ (d : Addr) (x : V) (p : V → Prop), vs = [.ref d, x] ∧ Dice H d ∧ Some1 K H d x p ∧ ∀ v H', Past d H H' → p v → Q v H'
theorem tup_past {K : PySem.W.Frag} {d a : Addr} {xs : List V} {H H' : Hp} (h : Past d H H') (n : a ≠ d) (s : SqT K H a xs) : SqT K H' a xs := by
  rcases s with (s | ⟨o, s⟩) | s
  · exact .inl (.inl (h.1 _ _ n s))
  · exact .inl (.inr ⟨o, h.1 _ _ n s⟩)
  · exact .inr s
section
variable {P : Program} {w : World} {K : PySem.W.Frag} {mg : Str → Option Value} {base : Heap}
theorem ok_pick (D : Df K mg "_law_pick" s_l_pick ["_law_dice_here", "_law_items"]) (G_l_roll : Cg P w K mg base 1 "_law_roll" spRoll) (z_len : mg "len" = none) : Cg P w K mg base 2 "_law_pick" (spPick K) := by
  refine D.ok sc_l_pick (fun vs H Q E h => ?_) (fun cdv A outer s H vs Q E f hc hr h => ?_)
  · obtain ⟨d, x, p, rfl, _⟩ := h
    rfl
  · obtain ⟨d, x, p, rfl, hd, hx, q⟩ := h
    refine ⟨_, (pss_one (ps_ret (pe_ix ix_seq (pv 1) (pe_cg G_l_roll hc hr (by rfl) (pa_cons (pv 0) (pa_cons (pe_callB call_len (by rfl) z_len (by decide +kernel) (pa_cons (pv 1) pa_nil)) pa_nil))) (fun _ _ => rfl)))), ?_⟩
    rcases hx with ⟨l, xs, rfl, ld, hs, ne, hl, hp⟩ | ⟨z, rfl, z0, hl, hp⟩
    · have x0 : 0 < xs.length := List.length_pos_iff.mpr ne
      refine ⟨_, rfl, _, rfl, _, rfl, _, xs.length, rfl, ?_, d, _, rfl, hd, by omega, small8000 hl, fun r H' pa r0 rn => ?_⟩
      · exact hs.elim (fun h => .inl ⟨_, h, rfl⟩) (fun h => .inr ⟨_, h, rfl⟩)
      · have rl : r.toNat < xs.length := by omega
        have at_r : atI xs r = some xs[r.toNat] := at_of (j := r.toNat) (by omega) (List.getElem?_eq_getElem rl)
        rcases hs with hs | hs
        · exact .inl ⟨l, xs, r, _, rfl, rfl, pa.seq ld hs, at_r, q _ _ pa (hp _ (List.getElem_mem rl))⟩
        · exact .inr (.inl ⟨l, xs, r, _, rfl, rfl, tup_past pa ld hs, at_r, q _ _ pa (hp _ (List.getElem_mem rl))⟩)
    · refine ⟨_, rfl, _, rfl, _, rfl, _, z.length, rfl, ⟨fits_million hl, rfl⟩, d, _, rfl, hd, by omega, small8000 hl, fun r H' pa r0 rn => ?_⟩
      have el : z.cps.toList.length = z.length := by simp [Str.length]
      have rl : r.toNat < z.cps.toList.length := by omega
      exact .inr (.inr ⟨z, r, _, rfl, rfl, fits_million hl, at_of' (j := r.toNat) (by omega) (List.getElem?_eq_getElem rl), q _ _ pa (hp _ (List.getElem_mem rl))⟩)

theorem ok_is_integer {t : Tok} (D : Df K mg "is_integer" s_is_integer ["value"]) (z_isinstance : mg "isinstance" = none) (z_int : mg "int" = none) (z_bool : mg "bool" = none) (z_abs : mg "abs" = none) (c_TOO_LONG : mg "_TOO_LONG" = some (.int (10 ^ 60) t)) :
    Cg P w K mg base 1 "is_integer" (spOf isInt) := by
  refine D.ok sc_is_integer (fun vs H Q E h => ?_) (fun cdv A outer s H vs Q E f hc hr h => ?_)
  · obtain ⟨v, rfl, _⟩ := h
    rfl
  · obtain ⟨v, rfl, j, q⟩ := h
    refine ⟨_, (pss_one (ps_ret (pe_and (pe_callB call_isi (by rfl) z_isinstance (by decide +kernel) (pa_cons (pv 0) (pa_cons (pe_bltn (v := .ty "int") (by rfl) z_int (by decide +kernel) rfl) pa_nil))) (pe_and (pe_not (pe_callB call_isi (by rfl) z_isinstance (by decide +kernel) (pa_cons (pv 0) (pa_cons (pe_bltn (v := .ty "bool") (by rfl) z_bool (by decide +kernel) rfl) pa_nil)))) (pe_one (pe_cmpR op_lt (pe_callB call_abs (by rfl) z_abs (by decide +kernel) (pa_cons (pv 0) pa_nil)) (pe_glob (v := .int (10 ^ 60)) rfl c_TOO_LONG ⟨_, rfl⟩) (nomark _))))))), ?_⟩
    have q' := q H (Same.refl H)
    rcases kinds (K := K) j with ⟨i, rfl, hi⟩ | ⟨b, rfl⟩ | ⟨z, rfl, hz⟩ | ⟨T, ty, k1, k2, k3, e1, e2, e3⟩
    · refine ⟨_, rfl, _, _, _, _, true, rfl, .ty _, .base (.int i), kit_ty ki_ii, _, rfl, iteT ?_⟩
      refine ⟨_, rfl, _, _, _, _, false, rfl, .ty _, .base (.int i), kit_ty ki_ib, _, rfl, _, rfl, iteT ?_⟩
      refine ⟨_, rfl, _, rfl, _, _, rfl, rfl, ?_⟩
      have e : decide ((if i < 0 then -i else i) < 10 ^ 60) = decide (i.natAbs < 10 ^ 60) := by
        apply decide_eq_decide.mpr
        split <;> omega
      show Q (V.bl (decide ((if i < 0 then -i else i) < 10 ^ 60))) H
      rw [e]
      exact q'
    · exact ⟨_, rfl, _, _, _, _, true, rfl, .ty _, .base (.bl b), kit_ty ki_bi, _, rfl, iteT ⟨_, rfl, _, _, _, _, true, rfl, .ty _, .base (.bl b), kit_ty ki_bb, _, rfl, _, rfl, iteF q'⟩⟩
    · exact ⟨_, rfl, _, _, _, _, false, rfl, .ty _, .base (.str z), kit_ty ki_si, _, rfl, iteF q'⟩
    · rw [e1] at q'
      exact ⟨_, rfl, _, _, _, _, false, rfl, .ty _, ty, kit_ty k1, _, rfl, iteF q'⟩
theorem ok_is_count (D : Df K mg "is_count" s_is_count ["value"]) (G_is_integer : Cg P w K mg base 1 "is_integer" (spOf isInt)) : Cg P w K mg base 2 "is_count" (spOf fun v => isInt v && notNeg v) := by
  refine D.ok sc_is_count (fun vs H Q E h => ?_) (fun cdv A outer s H vs Q E f hc hr h => ?_)
  · obtain ⟨v, rfl, _⟩ := h
    rfl
  · obtain ⟨v, rfl, j, q⟩ := h
    refine ⟨_, (pss_one (ps_ret (pe_and (pe_cg G_is_integer hc hr (by rfl) (pa_cons (pv 0) pa_nil)) (pe_one (pe_cmpR op_ge (pv 0) pe_int (nomark _)))))), ?_⟩
    refine ⟨_, rfl, v, rfl, j, fun H1 s1 => ⟨_, rfl, ?_⟩⟩
    have q' : Q (V.bl (isInt v && notNeg v)) H1 := q H1 s1
    cases e : isInt v with
    | false =>
      rw [e, Bool.false_and] at q'
      exact iteF q'
    | true =>
      cases v with
      | int i =>
        rw [e, Bool.true_and] at q'
        exact iteT ⟨_, rfl, _, _, rfl, rfl, q'⟩
      | _ => cases e

theorem ok_is_name {t : Tok} (D : Df K mg "is_name" s_is_name ["value"]) (z_isinstance : mg "isinstance" = none) (z_str : mg "str" = none) (z_len : mg "len" = none) (c_MAX_LETTERS : mg "MAX_LETTERS" = some (.int 8 t)) :
    Cg P w K mg base 1 "is_name" (spOf isNam) := by
  refine D.ok sc_is_name (fun vs H Q E h => ?_) (fun cdv A outer s H vs Q E f hc hr h => ?_)
  · obtain ⟨v, rfl, _⟩ := h
    rfl
  · obtain ⟨v, rfl, j, q⟩ := h
    refine ⟨_, (pss_cons (ps_if (PW.pt (pw_or (pt_not (pt_val (pe_callB call_isi (by rfl) z_isinstance (by decide +kernel) (pa_cons (pv 0) (pa_cons (pe_bltn (v := .ty "str") (by rfl) z_str (by decide +kernel) rfl) pa_nil))))) (pw_or1 (pt_not (pt_chain op_le op_le pe_int (pe_callB call_len (by rfl) z_len (by decide +kernel) (pa_cons (pv 0) pa_nil)) (pe_glob (v := .int 8) rfl c_MAX_LETTERS ⟨_, rfl⟩))))))
      (pss_one (ps_ret pe_bl))
      pss_nil)
      (pss_one (ps_ret (pe_and (pe_bm0 PySem.F.plainAttrs_str PySem.F.slot_str_isascii PySem.F.type_str_isascii mt_isascii (pv 0)) (pe_and (pe_bm0 PySem.F.plainAttrs_str PySem.F.slot_str_isalpha PySem.F.type_str_isalpha mt_isalpha (pv 0)) (pe_one (pe_bm0 PySem.F.plainAttrs_str PySem.F.slot_str_islower PySem.F.type_str_islower mt_islower (pv 0)))))))), ?_⟩
    have q' := q H (Same.refl H)
    rcases kinds (K := K) j with ⟨i, rfl, hi⟩ | ⟨b, rfl⟩ | ⟨z, rfl, hz, az⟩ | ⟨T, ty, k1, k2, k3, e1, e2, e3⟩
    · exact ⟨_, rfl, _, _, _, _, false, rfl, .ty _, .base (.int i), kit_ty ki_is, _, rfl, iteT q'⟩
    · exact ⟨_, rfl, _, _, _, _, false, rfl, .ty _, .base (.bl b), kit_ty ki_bs, _, rfl, iteT q'⟩
    · rw [isNam_str] at q'
      refine ⟨_, rfl, _, _, _, _, true, rfl, .ty _, .base (.str z), kit_ty ki_ss, _, rfl, iteF ⟨_, rfl, _, z.length, rfl, ⟨fits_million (by omega), rfl⟩, _, _, rfl, rfl, _, rfl, ?_⟩⟩
      by_cases h1 : 1 ≤ z.length
      · rw [decide_eq_true h1, Bool.true_and] at q'
        refine ite2 (fun _ => ⟨_, _, rfl, rfl, _, rfl, ?_⟩) (fun n => absurd (decide_eq_true (by omega)) n)
        by_cases h8 : z.length ≤ 8
        · rw [decide_eq_true h8, Bool.true_and, ← name_signs az h1] at q'
          refine ite2 (fun n => ?_) (fun _ => ?_)
          · rw [decide_eq_true (by omega)] at n
            cases n
          · refine ⟨_, rfl, rfl, z, rfl, rfl, trivial, _, rfl, ?_⟩
            cases ea : Txt.isascii z with
            | false =>
              rw [ea, Bool.false_and] at q'
              exact iteF q'
            | true =>
              refine iteT ⟨_, rfl, rfl, z, rfl, rfl, trivial, _, rfl, ?_⟩
              rw [ea, Bool.true_and] at q'
              cases eb : Txt.isalpha z with
              | false =>
                rw [eb, Bool.false_and] at q'
                exact iteF q'
              | true =>
                rw [eb, Bool.true_and] at q'
                exact iteT ⟨_, rfl, rfl, z, rfl, rfl, trivial, q'⟩
        · rw [decide_eq_false h8, Bool.false_and] at q'
          refine ite2 (fun _ => q') (fun n => ?_)
          rw [decide_eq_false (by omega)] at n
          exact absurd rfl n
      · rw [decide_eq_false h1, Bool.false_and, Bool.false_and] at q'
        refine ite2 (fun n => ?_) (fun _ => ⟨_, rfl, iteT q'⟩)
        have := of_decide_eq_true n
        omega
    · rw [e3] at q'
      exact ⟨_, rfl, _, _, _, _, false, rfl, .ty _, ty, kit_ty k3, _, rfl, iteT q'⟩

def spNam : Sp := fun vs H Q _ => ∃ z, vs = [.str z] ∧ z.length ≤ 1000 ∧ Asc z ∧ ∀ H', Same H H' → Q (.bl (isNam (.str z))) H'

theorem ok_is_index (D : Df K mg "is_index" s_is_index ["value", "many"]) (G_is_count : Cg P w K mg base 2 "is_count" (spOf fun v => isInt v && notNeg v)) : Cg P w K mg base 3 "is_index" (fun vs H Q _ => ∃ (v : V) (n : Int), vs = [v, .int n] ∧ Judged H v ∧ ∀ H', Same H H' → Q (.bl (match v with | .int i => (isInt v && notNeg v) && decide (i < n) | _ => false)) H') := by
  refine D.ok sc_is_index (fun vs H Q E h => ?_) (fun cdv A outer s H vs Q E f hc hr h => ?_)
  · obtain ⟨v, n, rfl, _⟩ := h
    rfl
  · obtain ⟨v, n, rfl, j, q⟩ := h
    refine ⟨_, (pss_one (ps_ret (pe_and (pe_cg G_is_count hc hr (by rfl) (pa_cons (pv 0) pa_nil)) (pe_one (pe_cmpR op_lt (pv 0) (pv 1) (nomark _)))))), ?_⟩
    refine ⟨_, rfl, v, rfl, j, fun H1 s1 => ⟨_, rfl, ?_⟩⟩
    cases v with
    | int i =>
      have q2 : Q (.bl ((isInt (.int i) && notNeg (.int i)) && decide (i < n))) H1 := q H1 s1
      show if (isInt (.int i) && notNeg (.int i)) = true then _ else _
      cases e : isInt (.int i) && notNeg (.int i) with
      | true =>
        rw [e, Bool.true_and] at q2
        exact iteT ⟨_, rfl, _, rfl, _, _, rfl, rfl, q2⟩
      | false =>
        rw [e, Bool.false_and] at q2
        exact iteF q2
    | _ => exact iteF (q H1 s1)
end
end K03
set_option Elab.async false
set_option linter.all false
set_option autoImplicit false
set_option maxRecDepth 100000
set_option maxHeartbeats 4000000
namespace K03
open PySem PySem.Spec PyProof.Rows L2 Vb Wd

theorem same_put {H H' : Hp} {D : Addr} {o : HO} (nD : H D = none) (s : Same H H') : Same H (upd H' D o) := fun b x e => by
  rw [upd_ne (ne_of_none e nD)]
  exact s b x e
/-- a child: a name and a step -/
structure Kid (H : Hp) (t : Addr) (n : Str) (s : Int) : Prop where
  at_ : H t = some (.tup [.str n, .int s])
  nam : isNam (.str n) = true
  plain : n.length ≤ 1000 ∧ Asc n
  lo : 0 ≤ s
  hi : s ≤ 3
theorem Kid.same {H H' : Hp} {t : Addr} {n : Str} {s : Int} (k : Kid H t n s) (h : Same H H') : Kid H' t n s := ⟨h _ _ k.at_, k.nam, k.plain, k.lo, k.hi⟩
/-- children: a tuple of two to four -/
structure Kids (H : Hp) (a : Addr) (ts : List Addr) (cs : List (Str × Int)) : Prop where
  at_ : H a = some (.tup (ts.map V.ref))
  len : ts.length = cs.length
  lo : 2 ≤ ts.length
  hi : ts.length ≤ 4
  kid : ∀ (i : Nat) (t : Addr) (c : Str × Int), ts[i]? = some t → cs[i]? = some c → Kid H t c.1 c.2
theorem Kids.same {H H' : Hp} {a : Addr} {ts : List Addr} {cs : List (Str × Int)} (k : Kids H a ts cs) (h : Same H H') : Kids H' a ts cs := ⟨h _ _ k.at_, k.len, k.lo, k.hi, fun i t c h1 h2 => (k.kid i t c h1 h2).same h⟩
def spStep : Sp := fun vs H Q _ => ∃ s : Int, vs = [.int s] ∧ 0 ≤ s ∧ s ≤ 3 ∧ ∀ H', Same H H' → Q (.bl true) H'
def spChild : Sp := fun vs H Q _ => ∃ t n s, vs = [.ref t] ∧ Kid H t n s ∧ ∀ H', Same H H' → Q (.bl true) H'
def spChildren : Sp := fun vs H Q _ => ∃ a ts cs, vs = [.ref a] ∧ Kids H a ts cs ∧ ∀ H', Same H H' → Q (.bl true) H'
section
variable {P : Program} {w : World} {K : PySem.W.Frag} {mg : Str → Option Value} {base : Heap}
theorem ok_is_step {t : Tok} (D : Df K mg "_is_step" s_is_step ["value"]) (G_is_count : Cg P w K mg base 2 "is_count" (spOf fun v => isInt v && notNeg v)) (c_MAX_STEP : mg "MAX_STEP" = some (.int 3 t)) : Cg P w K mg base 3 "_is_step" spStep := by
  refine D.ok sc_is_step (fun vs H Q E h => ?_) (fun cdv A outer s H vs Q E f hc hr h => ?_)
  · obtain ⟨s, rfl, _⟩ := h
    rfl
  · obtain ⟨n, rfl, lo, hi, q⟩ := h
    refine ⟨_, (pss_one (ps_ret (pe_and (pe_cg G_is_count hc hr (by rfl) (pa_cons (pv 0) pa_nil)) (pe_one (pe_cmpR op_le (pv 0) (pe_glob (v := .int 3) rfl c_MAX_STEP ⟨_, rfl⟩) (nomark _)))))), ?_⟩
    refine ⟨_, rfl, .int n, rfl, (by show n.natAbs < 10 ^ 100; exact Nat.lt_of_le_of_lt (show n.natAbs ≤ 3 by omega) (by decide)), fun H1 s1 => ⟨_, rfl, ?_⟩⟩
    have e : (isInt (.int n) && notNeg (.int n)) = true := by
      have e1 : isInt (.int n) = true := decide_eq_true (Nat.lt_of_le_of_lt (show n.natAbs ≤ 3 by omega) (by decide))
      have e2 : notNeg (.int n) = true := decide_eq_true lo
      rw [e1, e2]
      rfl
    show if (isInt (.int n) && notNeg (.int n)) = true then _ else _
    rw [if_pos e]
    refine ⟨_, rfl, _, _, rfl, rfl, ?_⟩
    show Q (.bl (decide (n ≤ 3))) H1
    rw [decide_eq_true hi]
    exact q H1 s1
theorem ok_is_child (D : Df K mg "_is_child" s_is_child ["value"]) (G_is_name : Cg P w K mg base 1 "is_name" (spOf isNam)) (G_is_step : Cg P w K mg base 3 "_is_step" spStep) (z_isinstance : mg "isinstance" = none) (z_tuple : mg "tuple" = none) (z_len : mg "len" = none) : Cg P w K mg base 4 "_is_child" spChild := by
  refine D.ok sc_is_child (fun vs H Q E h => ?_) (fun cdv A outer s H vs Q E f hc hr h => ?_)
  · obtain ⟨t, n, s, rfl, _⟩ := h
    rfl
  · obtain ⟨t, n, i, rfl, k, q⟩ := h
    refine ⟨_, (pss_one (ps_ret (pe_and (pe_callB call_isi (by rfl) z_isinstance (by decide +kernel) (pa_cons (pv 0) (pa_cons (pe_bltn (v := .ty "tuple") (by rfl) z_tuple (by decide +kernel) rfl) pa_nil))) (pe_and (pe_cmpR op_eq (pe_callB call_len_seq (by rfl) z_len PySem.boot_len (pa_cons (pv 0) pa_nil)) pe_int (nomark _)) (pe_and (pe_cg G_is_name hc hr (by rfl) (pa_cons (pe_ix (ix_tup : IxR _ (rIxT K)) (pv 0) pe_int (fun _ _ => rfl)) pa_nil)) (pe_one (pe_cg G_is_step hc hr (by rfl) (pa_cons (pe_ix (ix_tup : IxR _ (rIxT K)) (pv 0) pe_int (fun _ _ => rfl)) pa_nil)))))))), ?_⟩
    refine ⟨_, rfl, _, _, _, _, true, rfl, .ty _, .base (.tup k.at_), kit_ty (by decide +kernel), _, rfl, iteT ⟨_, rfl, t, _, rfl, .inr (.inl (.inl k.at_)), rfl, _, rfl, iteT ⟨_, rfl, t, _, _, _, rfl, rfl, .inl (.inl k.at_), rfl, .str n, rfl, k.plain, fun H1 s1 => ⟨_, rfl, ?_⟩⟩⟩⟩
    rw [k.nam]
    refine iteT ⟨_, rfl, t, _, _, _, rfl, rfl, .inl (.inl (s1 _ _ k.at_)), rfl, i, rfl, k.lo, k.hi, fun H2 s2 => q H2 (s1.trans s2)⟩
theorem ok_is_children {tk : Tok} (D : Df K mg "_is_children" s_is_children ["value"]) (G_is_child : Cg P w K mg base 4 "_is_child" spChild) (z_isinstance : mg "isinstance" = none) (z_tuple : mg "tuple" = none) (z_len : mg "len" = none) (z_all : mg "all" = none) (c_MAX_CHILDREN : mg "MAX_CHILDREN" = some (.int 4 tk)) : Cg P w K mg base 5 "_is_children" spChildren := by
  refine D.ok sc_is_children (fun vs H Q E h => ?_) (fun cdv A outer s H vs Q E f hc hr h => ?_)
  · obtain ⟨a, ts, cs, rfl, _⟩ := h
    rfl
  · obtain ⟨a, ts, cs, rfl, k, q⟩ := h
    refine ⟨_, (pss_cons (ps_if (PW.pt (pw_or (pt_not (pt_val (pe_callB call_isi (by rfl) z_isinstance (by decide +kernel) (pa_cons (pv 0) (pa_cons (pe_bltn (v := .ty "tuple") (by rfl) z_tuple (by decide +kernel) rfl) pa_nil))))) (pw_or1 (pt_not (pt_chain op_le op_le pe_int (pe_callB call_len_seq (by rfl) z_len PySem.boot_len (pa_cons (pv 0) pa_nil)) (pe_glob (v := .int 4) rfl c_MAX_CHILDREN ⟨_, rfl⟩))))))
      (pss_one (ps_ret pe_bl))
      pss_nil)
      (pss_one (ps_ret (pe_callB (cr_all rfl) (by rfl) z_all (by decide +kernel) (pa_cons (pe_lc (own := [("child", 1)]) (g := gName 1) (by rfl) sc_is_children.nd (pi_tup (pv 0)) (blkOk_by (own := [("child", 1)]) (N := ["value", "child"]) (sc := defScope s_is_children) (by decide +kernel)) (fun _ _ _ _ _ => pg_name (i := 1) sc_is_children.nd rfl (Or.inl rfl)) (fun _ _ _ _ _ => pts_nil) (fun _ _ _ _ _ => (pe_cg G_is_child hc hr (by rfl) (pa_cons (pv 1) pa_nil)))) pa_nil))))), ?_⟩
    have hT : ∀ {H' : Hp}, Same H H' → SqT K H' a (ts.map V.ref) := fun s => .inl (.inl (s _ _ k.at_))
    have tl := k.len
    refine ⟨_, rfl, _, _, _, _, true, rfl, .ty _, .base (.tup k.at_), kit_ty (by decide +kernel), _, rfl, iteF ⟨_, rfl, a, _, rfl, .inr (hT (Same.refl H)), ?_⟩⟩
    have len : (ts.map V.ref).length = ts.length := List.length_map ..
    have l2 := k.lo
    have l4 := k.hi
    refine ⟨_, _, rfl, rfl, _, rfl, ite2 (fun _ => ⟨_, _, rfl, rfl, _, rfl, ite2 (fun n => ?_) (fun _ => ?_)⟩) (fun n => absurd (decide_eq_true (show (2 : Int) ≤ ((ts.map V.ref).length : Int) by rw [len]; omega)) n)⟩
    · have e : decide (((ts.map V.ref).length : Int) ≤ 4) = true := decide_eq_true (by rw [len]; omega)
      rw [e] at n
      cases n
    refine ⟨_, rfl, a, rfl, ⟨_, hT (Same.refl H)⟩, fun D nD => lc_tup (K := K) (a := a) (xs := ts.map V.ref) (fun i H' => Same H H' ∧ H' D = some (.lst ((List.replicate i true).map V.bl))) ⟨same_put nD (Same.refl H), upd_same⟩ (fun i H' _ h => hT h.1) (fun i x H1 hx h => ?_) (fun H1 h => ?_)⟩
    · obtain ⟨s1, e1⟩ := h
      rw [List.getElem?_map] at hx
      obtain ⟨t, ht, rfl⟩ := Option.map_eq_some_iff.mp hx
      have il : i < cs.length := by rw [← tl]; exact (List.getElem?_eq_some_iff.mp ht).1
      refine ⟨rfl, _, rfl, t, _, _, rfl, (k.kid i t cs[i] ht (List.getElem?_eq_getElem il)).same s1, fun H2 s2 => ⟨_, s2 _ _ e1, ?_, same_put nD (s1.trans s2), ?_⟩⟩
      · rw [List.length_map, List.length_replicate]
        exact Nat.lt_of_lt_of_le (show i < 5 by omega) (by decide)
      · rw [upd_same, List.replicate_succ', List.map_append]
        rfl
    · obtain ⟨s1, e1⟩ := h
      refine ⟨D, _, rfl, .inl (.inl e1), ?_⟩
      have ea : (List.replicate (ts.map V.ref).length true).all id = true := by
        rw [List.all_eq_true]
        intro b hb
        rw [(List.mem_replicate.mp hb).2]
        rfl
      rw [ea]
      exact q H1 s1
end
end K03
set_option Elab.async false
set_option linter.all false
set_option autoImplicit false
set_option maxRecDepth 100000
set_option maxHeartbeats 4000000
/-! Xk: own errors with an __init__ of their own over any built-in error, KeyError too: KeyError has no __new__ of its own, so what makes is named after its base. -/
namespace Xk
open PySem PySem.F PySem.PX Builtin Builtin.ObjectAttr
abbrev keTail : List Value := [.type "KeyError", .type "LookupError", .type "Exception", .type "BaseException", .type "object"]
theorem storeKE : StoreFacts "KeyError" keTail "object.__setattr__" "object" := by
  constructor
  case mro => kernel_rfl
  case slot =>
    refine .of (owner := "object") (n := "__setattr__") ?_ ?_ ?_ ?_ ?_ ?_
    · rw [typeLookup_type, builtinLookup_eq_fast]; kernel_rfl
    · decide +kernel
    · decide +kernel
    · decide +kernel
    · first
      | exact .inl (by decide +kernel)
      | exact .inr (by decide +kernel)
    · rw [isSubtype_type]; kernel_rfl
  case entry => exact entry_object_sa
  case kind => decide +kernel
  case split => decide +kernel
  case hasOwner => decide +kernel
  case args => intro a b c; unfold argsOk; kernel_rfl
  case passes => intro self; kernel_rfl
/-- what of the mro the making asks -/
structure Over (bm : List Value) (B : String) : Prop where
  base : bm.contains (.type B) = true
  attr : bm.contains (.type "AttributeError") = false
  name : bm.contains (.type "NameError") = false
section
variable {prog : Program} {w : World} {A : Around} {E : Value → Shared → Prop} {R : Result → Shared → Prop} {h : Heap} {g : Array GenState} {d : Drawn} {t : Nat} {os : OsState}
variable {nm q : Str} {C N : Addr} {bs bm bmB : List Value} {hdct : Bool} {sn : List Str} {sub : List Value} {ab : Bool} {col : Option Bool} {dd : Option Addr} {k0 k1 k2 k3 k5 : Option Value} {B newId initId : String}
theorem asks_new {M : Model} (F : ExcBaseFacts B newId initId bmB) (O : Over bm B) {us : List Value} {Q : Unit → Shared → Prop}
    (at_C : h.get? C = some (excClassObj nm q C N bs bm hdct sn sub ab col dd k0 k1 k2 k3 k5 newId)) (k : Q () ⟨h, g, d, t, os⟩) : wpAny M A (checkBuiltinCall newId ⟨.ref C :: us, []⟩) Q E ⟨h, g, d, t, os⟩ := by
  have inB : (Value.ref C :: bm).contains (.type B) = true := by rw [List.contains_cons, O.base, Bool.or_true]
  have st := F.noStar
  simp only [checkBuiltinCall, F.newKind, F.newSplit, F.newRow]
  repeat
    first
    | refine wpAny_loadPart_at at_C ?_
    | refine wpAny_isSubtype_exc at_C ?_; rw [inB]
    | refine wpAny_staticBase_exc at_C ?_
    | refine wpAny_madeBy_exc at_C ?_
    | simp only [bne_self_eq_false, Bool.false_eq_true, if_false]
    | wp_step
  exact k
theorem makes_new (F : ExcBaseFacts B newId initId bmB) (O : Over bm B) {us : List Value} (at_C : h.get? C = some (excClassObj nm q C N bs bm hdct sn sub ab col dd k0 k1 k2 k3 k5 newId)) (few : us.length ≤ sizeLine)
    (k : R (.ok (.ret (.ref (h.objs.size + 1)))) ⟨(h.push (W.kdv_tup us)).push (excO C h.objs.size), g, d, t, os⟩) : codeAny (model prog w) A (.builtin newId ⟨.ref C :: us, []⟩) R ⟨h, g, d, t, os⟩ := by
  have ends := F.ends
  have inB : (Value.ref C :: bm).contains (.type B) = true := by rw [List.contains_cons, O.base, Bool.or_true]
  have inA : (Value.ref C :: bm).contains (.type "AttributeError") = false := by rw [List.contains_cons, O.attr]; rfl
  have inN : (Value.ref C :: bm).contains (.type "NameError") = false := by rw [List.contains_cons, O.name]; rfl
  refine codeAny_builtinAt F.entry ?_
  unfold Builtin.«BaseException.__new__»
  refine wpAt_bind ?_
  show wpAt _ _ _ (stack >>= _) _ _ _
  refine wpAt_bind (wpAt_stack fun p below => wpAt_of_wpAny ?_)
  wp_walk
  refine wpAt_of_wpAny ?_
  rw [F.owner]
  repeat
    first
    | with_reducible refine wpAny_madeHere_exc F.canon at_C ?_
    | with_reducible refine wpAny_loadPart_at at_C ?_
    | (with_reducible refine wpAny_isSubtype_exc at_C ?_; first | rw [inB] | rw [inA] | rw [inN])
    | wp_step
  show R _ _
  rw [Heap.size_push]
  exact k
theorem type_makes (F : ExcBaseFacts B newId initId bmB) (O : Over bm B) {us : List Value} {fI : Addr} {Q : Fin → Shared → Prop} (at_C : h.get? C = some (excClassObj nm q C N bs bm hdct sn sub ab col dd k0 k1 k2 k3 k5 newId))
    (ini : W.Looks (model prog w) h (typeLookup (.ref C) "__init__") (some (.ref fI))) (bnd : ∀ x, W.Looks (model prog w) h (bindSpecial (.ref fI) x) (.ref fI, [x])) (few : us.length ≤ sizeLine)
    (k : codeAny (model prog w) A (.call (.ref fI) ⟨.ref (h.objs.size + 1) :: us, []⟩)
      (fun r s' => match r with
        | .ok (.ret v) => v = .none ∧ Q (.done (.ret (.ref (h.objs.size + 1)))) s'
        | .ok _ => False
        | .error e => E e s')
      ⟨(h.push (W.kdv_tup us)).push (excO C h.objs.size), g, d, t, os⟩) : wpAny (model prog w) A (Builtin.«type.__call__» ⟨.ref C :: us, []⟩) Q E ⟨h, g, d, t, os⟩ := by
  repeat
    first
    | with_reducible refine wpAny_loadPart_at at_C ?_
    | with_reducible refine wpAny_madeBy_exc at_C ?_
    | wp_step
  refine codeAny_call_builtin_code (Code.quiet_builtin _ F.quiet) (asks_new F O at_C ?_)
  refine makes_new F O at_C few ?_
  show wpAny _ _ _ _ _ _
  have keeps : ∀ b o, h.get? b = some o → ((h.push (W.kdv_tup us)).push (excO C h.objs.size)).get? b = some o := fun b o e =>
    Heap.get?_push_of_some _ (Heap.get?_push_of_some _ e)
  have at_C' := keeps _ _ at_C
  have at_x : ((h.push (W.kdv_tup us)).push (excO C h.objs.size)).get? (h.objs.size + 1) = some (excO C h.objs.size) := by heap_get
  have inC : (Value.ref C :: bm).contains (.ref C) = true := by simp
  have ini' := ini.keeps keeps
  have bnd' := (bnd (.ref (h.objs.size + 1))).keeps keeps
  unfold isInstance
  repeat
    first
    | with_reducible refine wpAny_loadPart_at at_x ?_
    | (with_reducible refine wpAny_isSubtype_exc at_C' ?_; rw [inC])
    | wp_step
  show wpAny _ _ (typeLookup (.ref C) _) _ _ _
  refine ini'.at (wpAny_holding (wpAny_bind (bnd'.at (wpAny_bind (wpAny_call (codeAny_mono k fun r s' z => ?_))))))
  rcases r with e | fl
  · exact z
  · cases fl
    case ret v =>
      obtain ⟨rfl, y⟩ := z
      first
      | exact wpAny_pure (wpAny_pure y)
      | (wp_walk; exact y)
    all_goals exact z.elim
theorem calls_own (F : ExcBaseFacts B newId initId bmB) (O : Over bm B) {us : List Value} {fI : Addr} (at_C : h.get? C = some (excClassObj nm q C N bs bm hdct sn sub ab col dd k0 k1 k2 k3 k5 newId))
    (ini : W.Looks (model prog w) h (typeLookup (.ref C) "__init__") (some (.ref fI))) (bnd : ∀ x, W.Looks (model prog w) h (bindSpecial (.ref fI) x) (.ref fI, [x])) (few : us.length ≤ sizeLine)
    (k : codeAny (model prog w) (A.under (.builtin "type.__call__" ⟨.ref C :: us, []⟩)) (.call (.ref fI) ⟨.ref (h.objs.size + 1) :: us, []⟩) (W.InitBack (h.objs.size + 1) R) ⟨(h.push (W.kdv_tup us)).push (excO C h.objs.size), g, d, t, os⟩) :
    codeAny (model prog w) A (.call (.ref C) ⟨us, []⟩) R ⟨h, g, d, t, os⟩ := by
  have l1 := tc_lookup
  have l2 := tc_bind (.ref C)
  have ty : (⟨h, g, d, t, os⟩ : Shared).TypeIs (.ref C) "type" := ⟨_, at_C, rfl⟩
  refine codeAny_of_tree ?_
  show wpAny _ _ (callAny (.ref C) _) _ _ _
  repeat
    any_goals
      first
      | assumption
      | with_reducible refine wpAny_loadPart_at at_C ?_
      | wp_step
  refine ⟨rfl, ?_⟩
  refine codeAny_call_builtin_at (Code.quiet_builtin _ (by decide +kernel)) entry_typeCall (wpAny_check_type_call_sub at_C (type_makes F O at_C ini bnd few ?_))
  refine codeAny_mono k fun r s' z => ?_
  rcases r with e | (v | _ | _ | _) <;> exact z
end
end Xk
set_option Elab.async false
set_option linter.all false
set_option autoImplicit false
set_option maxRecDepth 100000
set_option maxHeartbeats 4000000
/-! Xe: own errors as values: made, with an __init__ of their own or without, asked by isinstance, their fields read. -/
namespace Xe
open PySem PySem.Spec PyProof.Rows L2 Vb Wd
/-- what an own error class tells of its instances -/
structure EC (K : PySem.W.Frag) (C : Addr) : Prop where
  ga : PySem.W.findIn K (.ref C) "__getattribute__" = some (some (.builtin "BaseException.__getattribute__"))
  gt : PySem.W.findIn K (.ref C) "__getattr__" = some none
  sub : PySem.W.subIn K (.ref C) (.type "BaseException") = some true
  ca : PySem.W.findIn K (.ref C) "__class__" = some (some (.builtin "object.__class__"))
  sp : PySem.W.specialIn K (.builtin "object.__class__") "__get__" = some (some (.builtin "getset_descriptor.__get__"))
  tk : PySem.W.takesIn K (.builtin "object.__class__") = some true
  mo : PySem.W.mroIn K C (.type "object") = some true
  hd : PySem.W.hasDictIn K C = true
/-- the same as one question to the written part -/
def ecB (K : PySem.W.Frag) (C : Addr) : Bool :=
  decide (PySem.W.findIn K (.ref C) "__getattribute__" = some (some (.builtin "BaseException.__getattribute__"))) &&
  (decide (PySem.W.findIn K (.ref C) "__getattr__" = some none) &&
  (decide (PySem.W.subIn K (.ref C) (.type "BaseException") = some true) &&
  (decide (PySem.W.findIn K (.ref C) "__class__" = some (some (.builtin "object.__class__"))) &&
  (decide (PySem.W.specialIn K (.builtin "object.__class__") "__get__" = some (some (.builtin "getset_descriptor.__get__"))) &&
  (decide (PySem.W.takesIn K (.builtin "object.__class__") = some true) &&
  (decide (PySem.W.mroIn K C (.type "object") = some true) && PySem.W.hasDictIn K C))))))
theorem ec_of {K : PySem.W.Frag} {C : Addr} (h : ecB K C = true) : EC K C := by
  unfold ecB at h
  simp only [Bool.and_eq_true, decide_eq_true_eq] at h
  obtain ⟨h1, h2, h3, h4, h5, h6, h7, h8⟩ := h
  exact ⟨h1, h2, h3, h4, h5, h6, h7, h8⟩
/-- an own error of the class at C stands at a -/
def ErrAt (H : Hp) (a C : Addr) : Prop := H a = some (ExO (.ref C) a) ∨ ∃ d fs, H a = some (exo a C (some d)) ∧ H d = some (exd d fs)
theorem ErrAt.same {H H' : Hp} {a C : Addr} (s : Same H H') : ErrAt H a C → ErrAt H' a C
  | .inl e => .inl (s _ _ e)
  | .inr ⟨d, fs, e1, e2⟩ => .inr ⟨d, fs, s _ _ e1, s _ _ e2⟩
section
variable {X : Cx} {pins : List (Addr × Obj)} {σ : L2.St} {H : Hp} {s : Shared}
theorem err_inst {a C : Addr} (I : Inv X pins σ H s) (h : ErrAt H a C) : ∃ (oe : Obj) (od : Option Obj), PySem.W.InstAt s.heap a oe C od := by
  rcases h with h | ⟨d, fs, e1, e2⟩
  · obtain ⟨⟨oe, vs, ho, hz, hd, _⟩, _, _⟩ := I.hok a _ h
    exact ⟨oe, none, ho, hz.1, by unfold PySem.W.notCls; rw [hd], by rw [hz.2]; trivial⟩
  · obtain ⟨t1, ho⟩ := exo_at I.hok e1
    obtain ⟨mA, hns, _⟩ := exd_at I.hok e2
    obtain ⟨od, hod, _⟩ := lookIn_ns hns
    exact ⟨_, some od, ho, rfl, rfl, hod⟩
/-- isinstance(e, c), e an own error -/
def rIsE (K : PySem.W.Frag) : List V → Hp → VK → Prop := fun xs H Q => ∃ (a C : Addr) (c : V) (u : Value) (b : Bool), xs = [.ref a, c] ∧ ClsV c u ∧ EC K C ∧ ErrAt H a C ∧ PySem.W.kitOne K (.ref C) u = some b ∧ Q (.bl b) H
theorem cr_isE : CallR X (.builtin "isinstance") (rIsE X.K) := by
  intro pins s σ H xs us Q I r h
  obtain ⟨a, C, c, u, b, rfl, k, T, at_, e, q⟩ := h
  obtain ⟨u1, u2, rfl, r1, r2⟩ := vals2 r
  cases (show u1 = Value.ref a from r1)
  have e2 := k.eq r2
  subst e2
  obtain ⟨oe, od, J⟩ := err_inst I at_
  obtain ⟨cd, hc, _⟩ := PySem.W.any_some T.hd
  exact PySem.W.kia_one (PySem.W.kitx_exc (by rw [hc]; rfl) T.ga T.gt T.sub T.ca T.sp T.tk T.mo) I.kIn J e (fun z => nomatch z) fun tk => ⟨.bl b, H, I.tok tk, rfl, q⟩
/-- e.f, e an own error that bears f -/
def tEf (K : PySem.W.Frag) (f : Str) (te : TE) : TE := fun σ H Q => te σ H fun x H1 => ∃ (a C d : Addr) (fs : List (Str × V)) (v : V), x = .ref a ∧ EC K C ∧ PySem.W.findIn K (.ref C) f = some none ∧
  H1 a = some (exo a C (some d)) ∧ H1 d = some (exd d fs) ∧ fs.lookup f = some v ∧ Q v H1
theorem pe_ef {e : Expr} {te : TE} {pos : Pos} {f : Str} (he : PE X e te) (hb : attributeBase e f X.env (eval e X.env) = eval e X.env := by rfl) : PE X (.Attribute e f pos) (tEf X.K f te) := by
  refine ⟨fun pins s σ H Q I h => ?_⟩
  refine attr_of hb (thn (he.run pins s σ H _ I h) fun u s1 hh => ?_)
  obtain ⟨x, H1, I1, rx, a, C, d, fs, v, ex, T, no, e1, e2, l, q⟩ := hh
  subst ex
  obtain rfl : u = Value.ref a := rx
  obtain ⟨t1, ho⟩ := exo_at I1.hok e1
  obtain ⟨mA, hns, hr⟩ := exd_at I1.hok e2
  obtain ⟨od, hod, hl⟩ := lookIn_ns hns
  obtain ⟨u, hu, ru⟩ := RelO.some_of (v := v) (o := mA f) (by rw [← l]; exact hr f)
  exact HandSPX.exc_get I1.kIn ⟨ho, rfl, rfl, hod⟩ T.ga T.gt T.sub (PySem.W.findObj_own T.hd no rfl (by rw [hl, hu])) (handed_of ru) ⟨v, H1, I1.tok _, ru, q⟩
end
end Xe
set_option Elab.async false
set_option linter.all false
set_option autoImplicit false
set_option maxRecDepth 100000
set_option maxHeartbeats 4000000
/-! Xi: own errors whose __init__ keeps one field: the store, the making. -/
namespace Xi
open PySem PySem.Spec PyProof.Rows L2 Vb Wd Xe Xk Builtin Builtin.ObjectAttr
/-- an own error class at C with an __init__ of its own, the function at fI -/
structure EI (K : PySem.W.Frag) (C fI : Addr) : Prop extends EC K C where
  sa : PySem.W.findIn K (.ref C) "__setattr__" = some (some (.builtin "object.__setattr__"))
  iC : PySem.W.findIn K (.ref C) "__init__" = some (some (.ref fI))
  tI : PySem.W.typeIn K (.ref fI) = some (.type "function")
  kC : PySem.W.keepIn K (.ref C) = true
  ty : PySem.W.typeIn K (.ref C) = some (.type "type")
  st : ∃ (B : String) (bm : List Value), StoreFacts B bm "object.__setattr__" "object" ∧ PySem.W.excOver K C bm = true
  mak : ∃ (B newId initId : String) (bmB bm : List Value), ExcBaseFacts B newId initId bmB ∧ PySem.W.excInitIn K C bm newId = true ∧ Over bm B
def eiB (K : PySem.W.Frag) (C fI : Addr) (bm : List Value) (newId : String) : Bool :=
  ecB K C && (decide (PySem.W.findIn K (.ref C) "__setattr__" = some (some (.builtin "object.__setattr__"))) && (decide (PySem.W.findIn K (.ref C) "__init__" = some (some (.ref fI))) &&
  (decide (PySem.W.typeIn K (.ref fI) = some (.type "function")) && (PySem.W.keepIn K (.ref C) && (decide (PySem.W.typeIn K (.ref C) = some (.type "type")) && (PySem.W.excOver K C bm && PySem.W.excInitIn K C bm newId))))))
theorem ei_of {K : PySem.W.Frag} {C fI : Addr} {bm bmB : List Value} {B B' newId initId : String} (S : StoreFacts B' bm "object.__setattr__" "object") (F : ExcBaseFacts B newId initId bmB) (O : Over bm B) (h : eiB K C fI bm newId = true) : EI K C fI := by
  unfold eiB at h
  simp only [Bool.and_eq_true, decide_eq_true_eq] at h
  obtain ⟨h1, h2, h3, h4, h5, h8, h6, h7⟩ := h
  exact { toEC := ec_of h1, sa := h2, iC := h3, tI := h4, kC := h5, ty := h8, st := ⟨_, _, S, h6⟩, mak := ⟨_, _, _, _, _, F, h7, O⟩ }
section
variable {X : Cx} {pins : List (Addr × Obj)} {σ : L2.St} {H : Hp} {s : Shared} {a C fI : Addr} {f : Str} {y : V} {u : Value}
theorem store_first {A : Around} {Q : Unit → Shared → Prop} {E : Value → Shared → Prop} (T : EI X.K C fI) (no : PySem.W.findIn X.K (.ref C) f = some none) (I : Inv X pins σ H s) (e : H a = some (exo a C none)) (ry : RelV y u)
    (k : ∀ d s', H d = none → d ≠ a → Inv X pins σ (upd (upd H a (exo a C (some d))) d (exd d [(f, y)])) s' → Q () s') : wpAny (model X.prog X.w) A (setAttr (.ref a) f u) Q E s := by
  obtain ⟨t1, ho⟩ := exo_at I.hok e
  obtain ⟨B, bm, S, ov⟩ := T.st
  obtain ⟨cd, hc, hd⟩ := PySem.W.any_some T.hd
  obtain ⟨hp, g, dr, t, os⟩ := s
  have tkr : PySem.W.takerIn X.K C f = some none := by
    unfold PySem.W.takerIn
    rw [no]
    rfl
  have J : PySem.W.InstAt hp a { cls := .ref C, dict := none, data := .fields #[.ref t1, .none, .none, .none, .bool false, .none] } C none := ⟨ho, rfl, rfl, trivial⟩
  refine PySem.W.set_plain I.kIn J T.sa (PySem.W.osa_openX (s := ⟨hp, g, dr, t + 1, os⟩) S I.kIn J ov tkr fun b => ?_)
  refine wpAny_bind (wpAny_pure (wpAny_bind (PySem.W.instanceDict_exc ho (PySem.W.looks_clsIn I.kIn hc) hd ?_)))
  show wpAny _ _ (storeInDict hp.objs.size (.str f t) f u) _ _ _
  have ane : a ≠ hp.objs.size := Nat.ne_of_lt (Heap.lt_size ho)
  have nd : H hp.objs.size = none := I.hok.fresh (Nat.le_refl _)
  refine PX.store_in_new ?_ fun h' tk' hn' hs => ?_
  · exact ⟨_, #[], _, (Heap.get?_update_ne _ _ _ _ ane.symm).trans (Heap.get?_push_at rfl rfl), rfl, fun e he => absurd he (by simp), fun _ => rfl⟩
  -- the object with its dict's address
  have at_a : (hp.update a fun o => { o with dict := some hp.objs.size }).get? a = some { cls := .ref C, dict := some hp.objs.size, data := .fields #[.ref t1, .none, .none, .none, .bool false, .none] } := Heap.get?_update_self _ ho rfl
  have I1 := I.write (t' := t) (x := a) (e := a) (o := exo a C (some hp.objs.size)) (h' := hp.update a fun o => { o with dict := some hp.objs.size }) (by rw [e]; exact True.intro) (.inl rfl)
    (fun b o nb q => (Heap.get?_update_ne _ _ _ _ nb).trans q) ⟨_, at_a⟩ (exo_ok at_a)
  refine k hp.objs.size _ nd ane.symm (I1.laid (t' := tk') (h' := h') (fun b o q => ?_) (by rw [Heap.size_update]; exact Nat.le_refl _) (exd_ok hn' (relO_put (fs := []) ry fun _ => True.intro)))
  have lt : b ≠ hp.objs.size := by
    have l := Heap.lt_size q
    rw [Heap.size_update] at l
    exact Nat.ne_of_lt l
  refine (hs.2 b lt).trans ?_
  by_cases eb : b = a
  · subst eb
    rw [at_a] at q
    cases q
    exact Heap.get?_update_self _ (Heap.get?_push_of_some _ ho) rfl
  · rw [Heap.get?_update_ne _ _ _ _ eb] at q ⊢
    exact Heap.get?_push_of_some _ q
end
end Xi
set_option Elab.async false
set_option linter.all false
set_option autoImplicit false
set_option maxRecDepth 100000
set_option maxHeartbeats 4000000
/-! Xm: self.f = e in such an __init__, and the call of the class. -/
namespace Xm
open PySem PySem.Spec PyProof.Rows L2 Vb Wd Xe Xk Xi
/-- what the one-field __init__ of the class at C promises -/
def spSet (K : PySem.W.Frag) (C fI : Addr) (f : Str) : Sp := fun vs H Q _ => ∃ (a : Addr) (y : V), vs = [.ref a, y] ∧ EI K C fI ∧ PySem.W.findIn K (.ref C) f = some none ∧ H a = some (exo a C none) ∧
  ∀ d, H d = none → d ≠ a → Q .non (upd (upd H a (exo a C (some d))) d (exd d [(f, y)]))
/-- self.f = e -/
def tSetE (K : PySem.W.Frag) (f : Str) (to te : TE) : TS := fun D σ H => te σ H fun y H1 => to σ H1 fun x H2 => ∃ a C fI : Addr, x = .ref a ∧ EI K C fI ∧ PySem.W.findIn K (.ref C) f = some none ∧ H2 a = some (exo a C none) ∧
  ∀ d, H2 d = none → d ≠ a → D.nx σ (upd (upd H2 a (exo a C (some d))) d (exd d [(f, y)]))
/-- C(e): a new error that bears its one field -/
def tMkE (C : Addr) (f : Str) (ta : TA) : TE := fun σ H Q => ta σ H fun vs H1 => ∃ y, vs = [y] ∧ ∀ a d, H1 a = none → H1 d = none → d ≠ a → Q (.ref a) (upd (upd H1 a (exo a C (some d))) d (exd d [(f, y)]))
section
variable {X : Cx} {o e : Expr} {to te : TE} {ta : TA} {f : Str} {p p' pos : Pos}
theorem ps_setE (ho : PE X o to) (he : PE X e te) (hs : swapsWith e (some (.Attribute o f p')) pos.line X.env = pure false := by rfl) : PS X (.Assign [.Attribute o f p'] e pos) (tSetE X.K f to te) := by
  refine ⟨fun pins s σ H D I h => ?_⟩
  refine plainObj_wpAny_Assign_Attribute (thn (he.run pins s σ H _ I h) fun v s1 ⟨y, H1, I1, r1, q1⟩ => ?_) hs
  refine thn (ho.run pins s1 σ H1 _ I1 q1) fun u s2 ⟨x, H2, I2, r2, a, C, fI, ex, T, no, ea, q⟩ => ?_
  subst ex
  obtain rfl : u = Value.ref a := r2
  exact store_first T no I2 ea r1 fun d s' nd ne J => ⟨σ, _, J, q d nd ne⟩
theorem pe_mkE {x : Str} {C fI : Addr} {k : Nat} {fd : FuncData} {ps : List Str} (T : EI X.K C fI) (no : PySem.W.findIn X.K (.ref C) f = some none) (F1 : FnG X.prog X.w X.K X.mg X.base k fI fd ps (spSet X.K C fI f)) (hc : Calm X.A) (hr : Room (k + 1) X.A) (hb : Binds X.K fd ps [])
    (hg : Gl X x) (hm : X.mg x = some (.ref C)) (ha : PA X [e] ta) (hdb : (x == ("__debug__" : Str)) = false := by decide) (he : starEach [e] X.env = (false, eval e X.env) :: starEach [] X.env := by rfl) (hpl : (backTo pos (starEach ([] : List Expr) X.env)).any (·.1) = false := by rfl) :
    PE X (.Call (.Name x p) [e] [] pos) (tMkE C f ta) := by
  refine ⟨fun pins s σ H Q I h => ?_⟩
  obtain ⟨B, newId, initId, bmB, bm, FB, ini, O⟩ := T.mak
  refine wpAny_Call_Name_kw (ld_glob I hg hm ?_ hdb)
  refine PySem.W.callWith_K (h₀ := X.base) I.ok.mod.kin T.kC (thn (ha.run pos pins s σ H _ I h) fun us s1 ⟨vs, H1, I1, r1, y, ev, q1⟩ => ⟨I1.kIn, ?_⟩) he hpl
  subst ev
  show wpAny _ _ (call (.ref C) us) _ _ _
  obtain ⟨v, rfl, r2⟩ := vals1 r1
  obtain ⟨nm, N, qn, bs, bm', hdct, sn, sub, ab, col, dd, k0, k1, k2, k3, k5, hC, same⟩ := PySem.W.excInit_of I1.kIn ini
  have O' : Over bm' B := ⟨(same B).trans O.base, (same _).trans O.attr, (same _).trans O.name⟩
  obtain ⟨hp, g, dr, tk, os⟩ := s1
  have sz : hp.objs.size ≤ hp.objs.size + 1 := Nat.le_succ _
  have n1 : H1 (hp.objs.size + 1) = none := I1.hok.fresh sz
  have keeps : ∀ b o, hp.get? b = some o → ((hp.push (PySem.W.kdv_tup [v])).push (PX.excO C hp.objs.size)).get? b = some o := fun b o e => Heap.get?_push_of_some _ (Heap.get?_push_of_some _ e)
  have at_x : ((hp.push (PySem.W.kdv_tup [v])).push (PX.excO C hp.objs.size)).get? (hp.objs.size + 1) = some (PX.excO C hp.objs.size) := by heap_get
  have I2 : Inv X pins σ (upd H1 (hp.objs.size + 1) (exo (hp.objs.size + 1) C none)) ⟨(hp.push (PySem.W.kdv_tup [v])).push (PX.excO C hp.objs.size), g, dr, tk, os⟩ :=
    I1.laid (t' := tk) (a := hp.objs.size + 1) (h' := (hp.push (PySem.W.kdv_tup [v])).push (PX.excO C hp.objs.size)) keeps sz (exo_ok at_x)
  have r3 : Vals [V.ref (hp.objs.size + 1), y] ([Value.ref (hp.objs.size + 1), v]) := .cons rfl (.cons r2 .nil)
  have pr : spSet X.K C fI f [V.ref (hp.objs.size + 1), y] (upd H1 (hp.objs.size + 1) (exo (hp.objs.size + 1) C none)) (fun z H2 => z = .non ∧ Q (.ref (hp.objs.size + 1)) H2) (fun _ _ _ => False) := by
    refine ⟨_, y, rfl, T, no, upd_same, fun d nd ne => ⟨rfl, ?_⟩⟩
    rw [upd_upd]
    rw [upd_ne ne] at nd
    exact q1 _ d n1 nd ne
  have len : [Value.ref (hp.objs.size + 1), v].length = ps.length := F1.count _ _ _ _ pr
  refine wpAny_call (calls_own FB O' hC (PySem.W.looks_findIn I1.kIn T.iC) (fun self => PySem.W.bind_fn I1.kIn self T.tI) (by show 1 ≤ sizeLine; decide) ?_)
  refine codeAny_mono (F1.goes _ X.stack _ _ ⟨[Value.ref (hp.objs.size + 1), v], []⟩ [Value.ref (hp.objs.size + 1), v] _ _ (fun _ _ _ => False) hc (hr.make C [v] []) (I2.env0.make C [v] []) (by simpa using hb _ [Value.ref (hp.objs.size + 1), v] I2.kIn (by simpa using len)) r3 pr) fun r s' hq => ?_
  match r, hq with
  | .error er, hq => exact pass0 pins σ _ _ er s' I2 hq
  | .ok (.ret u), hq =>
    obtain ⟨z, H2, os2, bare2, un2, hok2, rz, ez, q2⟩ := hq
    subst ez
    have e0 : u = Value.none := rz
    subst e0
    have J := I2.after (Q := fun z H2 => z = V.non ∧ Q (.ref (hp.objs.size + 1)) H2) ⟨.non, H2, os2, bare2, un2, hok2, rz, rfl, q2⟩
    obtain ⟨z', H3, J3, _, _, q3⟩ := J
    exact ⟨rfl, .ref (hp.objs.size + 1), H3, J3, rfl, q3⟩
  | .ok .next, hq => exact hq.elim
  | .ok .brk, hq => exact hq.elim
  | .ok .cont, hq => exact hq.elim
end
end Xm
set_option Elab.async false
set_option linter.all false
set_option autoImplicit false
set_option maxRecDepth 100000
set_option maxHeartbeats 4000000
/-! Xr: such an error raised. -/
namespace Xr
open PySem PySem.Spec PyProof.Rows L2 Vb Wd Xe Xk Xi Xm
def tRaE (C : Addr) (f : Str) (ta : TA) : L2.St → Hp → XK → Prop := fun σ H Q => ta σ H fun vs H1 => ∃ y, vs = [y] ∧ ∀ d, H1 d = none → Q (.ref C) (some d) (upd H1 d (.xd [(f, y)]))
section
variable {X : Cx} {e : Expr} {ta : TA} {f : Str} {p pos : Pos}
theorem pmk_E {x : Str} {C fI : Addr} {k : Nat} {fd : FuncData} {ps : List Str} (T : EI X.K C fI) (no : PySem.W.findIn X.K (.ref C) f = some none) (F1 : FnG X.prog X.w X.K X.mg X.base k fI fd ps (spSet X.K C fI f)) (hc : Calm X.A) (hr : Room (k + 1) X.A) (hb : Binds X.K fd ps [])
    (hg : Gl X x) (hm : X.mg x = some (.ref C)) (ha : PA X [e] ta) (hdb : (x == ("__debug__" : Str)) = false := by decide) (he : starEach [e] X.env = (false, eval e X.env) :: starEach [] X.env := by rfl) (hpl : (backTo pos (starEach ([] : List Expr) X.env)).any (·.1) = false := by rfl) :
    L2.PMk X (.Call (.Name x p) [e] [] pos) (tRaE C f ta) := by
  intro pins s σ H Q I h
  obtain ⟨B, newId, initId, bmB, bm, FB, ini, O⟩ := T.mak
  refine wpAny_Call_Name_kw (ld_glob I hg hm ?_ hdb)
  refine PySem.W.callWith_K (h₀ := X.base) I.ok.mod.kin T.kC (thn (ha.run pos pins s σ H _ I h) fun us s1 ⟨vs, H1, I1, r1, y, ev, q1⟩ => ⟨I1.kIn, ?_⟩) he hpl
  subst ev
  show wpAny _ _ (call (.ref C) us) _ _ _
  obtain ⟨v, rfl, r2⟩ := vals1 r1
  obtain ⟨nm, N, qn, bs, bm', hdct, sn, sub, ab, col, dd, k0, k1, k2, k3, k5, hC, same⟩ := PySem.W.excInit_of I1.kIn ini
  have O' : Over bm' B := ⟨(same B).trans O.base, (same _).trans O.attr, (same _).trans O.name⟩
  obtain ⟨hp, g, dr, tk, os⟩ := s1
  have sz : hp.objs.size ≤ hp.objs.size + 1 := Nat.le_succ _
  have n1 : H1 (hp.objs.size + 1) = none := I1.hok.fresh sz
  have keeps : ∀ b o, hp.get? b = some o → ((hp.push (PySem.W.kdv_tup [v])).push (PX.excO C hp.objs.size)).get? b = some o := fun b o e => Heap.get?_push_of_some _ (Heap.get?_push_of_some _ e)
  have at_x : ((hp.push (PySem.W.kdv_tup [v])).push (PX.excO C hp.objs.size)).get? (hp.objs.size + 1) = some (PX.excO C hp.objs.size) := by heap_get
  have I2 : Inv X pins σ (upd H1 (hp.objs.size + 1) (exo (hp.objs.size + 1) C none)) ⟨(hp.push (PySem.W.kdv_tup [v])).push (PX.excO C hp.objs.size), g, dr, tk, os⟩ :=
    I1.laid (t' := tk) (a := hp.objs.size + 1) (h' := (hp.push (PySem.W.kdv_tup [v])).push (PX.excO C hp.objs.size)) keeps sz (exo_ok at_x)
  have r3 : Vals [V.ref (hp.objs.size + 1), y] ([Value.ref (hp.objs.size + 1), v]) := .cons rfl (.cons r2 .nil)
  have pr : spSet X.K C fI f [V.ref (hp.objs.size + 1), y] (upd H1 (hp.objs.size + 1) (exo (hp.objs.size + 1) C none))
      (fun z H2 => z = .non ∧ ∃ d, H2 = upd (upd H1 (hp.objs.size + 1) (exo (hp.objs.size + 1) C (some d))) d (exd d [(f, y)]) ∧ H1 d = none ∧ d ≠ hp.objs.size + 1) (fun _ _ _ => False) := by
    refine ⟨_, y, rfl, T, no, upd_same, fun d nd ne => ⟨rfl, d, by rw [upd_upd], ?_, ne⟩⟩
    rw [upd_ne ne] at nd
    exact nd
  have len : [Value.ref (hp.objs.size + 1), v].length = ps.length := F1.count _ _ _ _ pr
  refine wpAny_call (calls_own FB O' hC (PySem.W.looks_findIn I1.kIn T.iC) (fun self => PySem.W.bind_fn I1.kIn self T.tI) (by show 1 ≤ sizeLine; decide) ?_)
  refine codeAny_mono (F1.goes _ X.stack _ _ ⟨[Value.ref (hp.objs.size + 1), v], []⟩ [Value.ref (hp.objs.size + 1), v] _ _ (fun _ _ _ => False) hc (hr.make C [v] []) (I2.env0.make C [v] []) (by simpa using hb _ [Value.ref (hp.objs.size + 1), v] I2.kIn (by simpa using len)) r3 pr) fun r s' hq => ?_
  match r, hq with
  | .error er, hq => exact pass0 pins σ _ _ er s' I2 hq
  | .ok (.ret u), hq =>
    obtain ⟨z, H2, os2, bare2, un2, hok2, rz, ez, d, e2, nd, ne⟩ := hq
    subst ez
    have e0 : u = Value.none := rz
    subst e0
    have ea : H2 (hp.objs.size + 1) = some (exo (hp.objs.size + 1) C (some d)) := by rw [e2, upd_ne ne.symm, upd_same]
    have ed : H2 d = some (exd d [(f, y)]) := by rw [e2, upd_same]
    have eq : upd (L2.del H2 (hp.objs.size + 1)) d (.xd [(f, y)]) = upd H1 d (.xd [(f, y)]) := by
      funext b
      by_cases h1 : b = d
      · subst h1
        rw [upd_same, upd_same]
      · rw [upd_ne h1, upd_ne h1]
        by_cases h2 : b = hp.objs.size + 1
        · subst h2
          rw [L2.del_same, n1]
        · rw [L2.del_ne h2, e2, upd_ne h1, upd_ne h2]
    obtain ⟨h2, g2, d2, t2, os'⟩ := s'
    exact ⟨rfl, mk_end (raises_own T.sub T.ty) I1 sz keeps un2 hok2 os2 bare2 ea ed nd (eq ▸ q1 d nd)⟩
  | .ok .next, hq => exact hq.elim
  | .ok .brk, hq => exact hq.elim
  | .ok .cont, hq => exact hq.elim
end
end Xr
set_option Elab.async false
set_option linter.all false
set_option autoImplicit false
set_option maxRecDepth 100000
set_option maxHeartbeats 4000000
/-! Xt: try: .. except C1 as n1: .. except C2 as n2: .. -/
namespace Xt
open PySem PySem.Spec PyProof.Rows L2 Vb
/-- one clause: its class, its name's place, what its suite reads -/
structure Cl where
  cls : Value
  at_ : Nat
  ts : Addr → Value → Option Addr → TS
/-- behind a suite its name is gone -/
def gone (i : Nat) (D : Ends) : Ends := { nx := fun σ H => D.nx (σ.set i none) H, rt := D.rt, bk := fun σ H => D.bk (σ.set i none) H, ct := fun σ H => D.ct (σ.set i none) H }
/-- what the clauses wish of what the body raised -/
def wCl (K : PySem.W.Frag) (out : WX) (D : Ends) : List Cl → WX
  | [] => out
  | c :: r => fun cls d σ H => ∃ b, PySem.W.exmOne K cls c.cls = some b ∧ (b = true → ∀ a, H a = none → c.ts a cls d (gone c.at_ D) (σ.set c.at_ (some (.ref a))) H) ∧ (b = false → wCl K out D r cls d σ H)
inductive Cls (X : Cx) : List ExceptHandler → List Cl → Prop
  | nil : Cls X [] []
  | cons {x n : Str} {c : Value} {i : Nat} {ts : Addr → Value → Option Addr → TS} {b₀ : Stmt} {suite : List Stmt} {p1 p2 : Pos} {hs : List ExceptHandler} {l : List Cl} (nc : Names X x c) (ni : X.N[i]? = some n) (ln : X.env.kindOf n = some .local)
      (su : ∀ (a : Addr) (oe : Obj) (cls : Value) (d : Option Addr) (pn : List (Addr × Obj)), Zc cls d oe → (∃ vs, oe.data = .fields vs) → PSs (X.suite a ((a, oe) :: pn)) (b₀ :: suite) (ts a cls d)) (r : Cls X hs l) :
      Cls X (.ExceptHandler (some (.Name x p1)) (some n) (b₀ :: suite) p2 :: hs) (⟨c, i, ts⟩ :: l)
section
variable {X : Cx} {body : List Stmt} {h0 : ExceptHandler} {hds : List ExceptHandler} {l : List Cl} {pos : Pos} {tb : WX → TS} {out : WX}
theorem ps_tries (hs : X.stack = X.env :: X.outer) (hf : X.env.frame = some X.env.locals) (hN : X.N.Nodup) (tk : Takes X out)
    (hb : ∀ (W : WX) (pn : List (Addr × Obj)) (xe : Value → Shared → Prop), Takes (X.tr pn xe) W → PassesOwn (model X.prog X.w) X.A X.env xe → PSs (X.tr pn xe) body (tb W)) (cl : Cls X (h0 :: hds) l) :
    PS X (.Try body (h0 :: hds) [] [] pos) (fun D σ H => tb (wCl X.K out D l) D σ H) := by
  refine ⟨fun pins s σ H D I h => ?_⟩
  have ok := I.ok
  have frames : X.A.frames = some (X.env :: X.outer) := by rw [ok.frames, hs]
  let caught : Value → Shared → Prop := fun e s₁ => wpAny (model X.prog X.w) X.A (noteFrame e X.env)
    (fun _ s₂ => wpAny (model X.prog X.w) X.A (setFlight e none) (fun _ s₃ => wpAny (model X.prog X.w) X.A (handleBy e X.env (h0 :: hds)) (SP X pins D) X.xe s₃) X.xe s₂) X.xe s₁
  refine wpAny_Try_except (wpAny_mono ((hb (wCl X.K out D l) (X.pn ++ pins) caught (fun u s' xx => ?_) PassesOwn.looking).run [] s σ H D (I.toTry _) h) (fun f s1 hsp => ?_) (fun e s1 he => he))
  · obtain ⟨a, B, sI, pins', σ', H', cls, d, rfl, J', nb, up, sky, na, os, ag, w⟩ := xx
    have J : Inv X pins σ' H' sI := J'.ofTry ok
    have sky' : Sky B (X.env :: X.outer) a (Zc cls d) X.env.locals s'.heap := hs ▸ sky
    show wpAny (model X.prog X.w) X.A (noteFrame (.ref a) X.env) _ _ _
    refine Sky.land Zc.steady frames hf sky' fun h3 fl3 up3 => ?_
    have J3 : Inv X pins σ' H' { s' with heap := h3 } := J.landed nb fl3.1 (up.trans up3) os ag
    obtain ⟨oe3, vs3, he3, hz3, hd3⟩ := fl3.there
    have off : a ∉ frs (X.env :: X.outer) := fun hm => by
      obtain ⟨_, o', e', hnf⟩ := fl3.2.2.1.mem hm
      rw [he3] at e'
      cases e'
      exact hnf _ hd3
    have nL : a ≠ X.env.locals := fun z => off (List.mem_filterMap.mpr ⟨X.env, List.mem_cons_self, by rw [hf, z]⟩)
    have nF : a ∉ X.fs := fun hm => by
      obtain ⟨e, he, q⟩ := List.mem_filterMap.mp hm
      exact off (List.mem_filterMap.mpr ⟨e, List.mem_cons_of_mem _ he, q⟩)
    have S3 := J3.suite he3 hd3 na nL nF
    have go : ∀ {hds' : List ExceptHandler} {l' : List Cl}, Cls X hds' l' → wCl X.K out D l' cls d σ' H' → wpAny (model X.prog X.w) X.A (handleBy (.ref a) X.env hds') (SP X pins D) X.xe { s' with heap := h3 } := by
      intro hds' l' hk
      induction hk with
      | nil =>
        intro w
        obtain ⟨k1, k2, k3, oe, vs, T, oT, ts', he, hz, hd, h1, hr⟩ := id fl3
        refine wpAny_handleBy_nil ?_
        unfold PySem.passOn
        refine wpAny_bind (wpAny_field he hd h1 ?_)
        rw [if_neg (by simp : ¬ ((Value.ref T == Value.none) = true))]
        have fin : wpAny (model X.prog X.w) X.A (setFlight (.ref a) X.env.frame) (fun _ s4 => wpAny (model X.prog X.w) X.A (throw (.ref a) : Sem Flow) (SP X pins D) X.xe s4) X.xe { s' with heap := h3 } := by
          rw [hf]
          refine HandSPX.setFlight_upZ fl3 fun h4 hh4 up4 => wpAny_throw (tk _ _ ?_)
          exact ⟨a, B, sI, pins, σ', H', cls, d, rfl, J, nb, (up.trans up3).trans up4, .inr (.inr (hs.symm ▸ hh4)), na, os, ag, w⟩
        first
        | exact wpAny_bind (wpAny_pure (wpAny_bind fin))
        | exact wpAny_bind fin
      | @cons x n c i ts b₀ suite p1 p2 hds2 l2 nc ni ln su r ih =>
        intro w
        obtain ⟨b, hb1, yes, no⟩ := w
        refine wpAny_handleBy_cons (codeAny_handlers_test ?_) (by intro q; cases q)
        have tyA : PySem.W.Looks (model X.prog X.w) h3 (typeOf (.ref a)) cls := fun A Q E s k q => wpAny_typeOf_ref (k _ _ he3) (by rw [hz3.1]; exact q)
        have mt := PySem.W.exm_one (M := model X.prog X.w) J3.kIn tyA hb1
        have test : ∀ {Q : Value → Shared → Prop} {E : Value → Shared → Prop}, Q c { s' with heap := h3 } → wpAny (model X.prog X.w) (X.A.mark (some (.ref a))) (eval (.Name x p1) X.env) Q E { s' with heap := h3 } := fun {Q E} q => by
          obtain ⟨hg, hdbg, hm | ⟨hm, hv, hnn⟩⟩ := nc
          · exact ld_glob (X := X.suite a ((a, oe3) :: (X.pn ++ pins))) S3 hg hm q hdbg
          · exact ld_blt (X := X.suite a ((a, oe3) :: (X.pn ++ pins))) S3 hg hm hv q hnn hdbg
        refine test (mt.here ?_)
        cases b with
        | false =>
          show wpAny _ X.A (handleBy (.ref a) X.env hds2) _ _ _
          exact ih (no rfl)
        | true =>
          refine codeAny_handlers_suite_as (HandSPX.lands_againZ fl3 fun h4 fl4 up4 => ?_)
          have J4 : Inv X pins σ' H' { s' with heap := h4 } := J.landed nb fl4.1 ((up.trans up3).trans up4) os ag
          obtain ⟨oe4, vs4, he4, hz4, hd4⟩ := fl4.there
          have S4 := J4.suite he4 hd4 na nL nF
          refine store_ok (X := X.suite a ((a, oe4) :: (X.pn ++ pins))) (v := .ref a) S4 hN ni (.inl ln) rfl (fun s5 S5 => ?_) (.inr ln)
          refine wpAny_mono ((su a oe4 cls d (X.pn ++ pins) hz4 ⟨_, hd4⟩).run [] s5 _ H' _ S5 (yes rfl a na)) (fun f s6 hsp => ?_) (fun _ _ z => z.elim)
          have away : ∀ {σ6 : L2.St} {H6 : Hp} {Q : Shared → Prop}, Inv (X.suite a ((a, oe4) :: (X.pn ++ pins))) [] σ6 H6 s6 → (∀ s7, Inv X pins (σ6.set i none) H6 s7 → Q s7) →
              wpAny (model X.prog X.w) X.A (do bindName X.env n .none; unbindBehindTheSuite X.env n p2) (fun _ s7 => Q s7) X.xe s6 := fun {σ6 H6 Q} S6 hq => gone_ok (S6.unsuite ok) hN ni ln hq
          cases f with
          | ret u =>
            obtain ⟨v6, σ6, H6, S6, r6, q6⟩ := hsp
            exact away S6 fun s7 J7 => ⟨_, _, _, J7, r6, q6⟩
          | next =>
            obtain ⟨σ6, H6, S6, q6⟩ := hsp
            exact away S6 fun s7 J7 => ⟨_, _, J7, q6⟩
          | brk =>
            obtain ⟨σ6, H6, S6, q6⟩ := hsp
            exact away S6 fun s7 J7 => ⟨_, _, J7, q6⟩
          | cont =>
            obtain ⟨σ6, H6, S6, q6⟩ := hsp
            exact away S6 fun s7 J7 => ⟨_, _, J7, q6⟩
    exact go cl w
  · cases f with
    | ret u =>
      obtain ⟨v, σ', H', J', r, q⟩ := hsp
      exact ⟨v, σ', H', J'.ofTry ok, r, q⟩
    | next =>
      obtain ⟨σ', H', J', q⟩ := hsp
      exact wpAny_execs_nil ⟨σ', H', J'.ofTry ok, q⟩
    | brk =>
      obtain ⟨σ', H', J', q⟩ := hsp
      exact ⟨σ', H', J'.ofTry ok, q⟩
    | cont =>
      obtain ⟨σ', H', J', q⟩ := hsp
      exact ⟨σ', H', J'.ofTry ok, q⟩
end
end Xt
set_option Elab.async false
set_option linter.all false
set_option autoImplicit false
set_option maxRecDepth 100000
set_option maxHeartbeats 4000000
/-! Xp: defs that are asked of the error in hand, within an except suite. -/
namespace Xp
open PySem PySem.Spec PyProof.Rows L2 Vb Xe L2H
/-- a promise about the error in hand -/
structure FnP (P : Program) (w : World) (K : PySem.W.Frag) (mg : Str → Option Value) (base : Heap) (k : Nat) (f : Addr) (fd : FuncData) (ps : List Str) (sp : Addr × Obj → Sp) : Prop where
  count : ∀ p vs H Q E, sp p vs H Q E → vs.length = ps.length
  goes : ∀ (A : Around) (outer : List Env) (s : Shared) (H : Hp) (args : Args) (us : List Value) (vs : List V) (Q : VK) (E : XK) (p : Addr × Obj), Calm A → RoomH k A → PinOk outer H s p → Env0 P w K mg base A outer s H → BindsTo s fd args (ps.zip us) →
    Vals vs us → sp p vs H Q E → codeAny (model P w) A (.call (.ref f) args) (CR CX0 outer P w H s Q E) s
section
variable {P : Program} {w : World} {K : PySem.W.Frag} {mg : Str → Option Value} {base : Heap}
theorem goes_hot {x qual : Str} {st : Stmt} {f : Addr} {fd : FuncData} {N ps : List Str} {k : Nat} {sp : Addr × Obj → Sp} (F : Fun K x qual st f fd) (S : FnScope N ps (defScope st)) (len : ∀ p vs H Q E, sp p vs H Q E → vs.length = ps.length)
    (body : ∀ (cdv : Value) (A : Around) (outer : List Env) (s : Shared) (H : Hp) (vs : List V) (Q : VK) (E : XK) (p : Addr × Obj), Calm (A.deeper (envOfC qual (defScope st) s.heap.objs.size f cdv)) → RoomH k (A.deeper (envOfC qual (defScope st) s.heap.objs.size f cdv)) → sp p vs H Q E →
      ∃ t, PSs (cxH CX0 P w K mg base N qual (defScope st) f cdv A outer s H E p).nox (defBody st) t ∧ t { nx := fun _ H' => Q .non H', rt := Q } (start N vs) H) : FnP P w K mg base (k + 1) f fd ps sp := by
  obtain ⟨oc, od, kV, doc, pm, an, cdv, ct, osl, rfl, lk, hcd⟩ := F.ex
  refine ⟨len, fun A outer s H args us vs Q E p hc hr hp e0 hb r hsp => ?_⟩
  have hl := len _ _ _ _ _ hsp
  have KX : K.In s.heap := e0.mod.kin.keeps fun b o e => (e0.bs b o e).1
  have lim : s.heap.NoLimit := e0.mod.nolimit.keeps fun b o e => (e0.bs b o e).1
  have kinds : ∀ y ∈ ps.zip us, (defScope st).names.lookup y.1 = some .local ∨ ((defScope st).names.lookup y.1 = some .cell ∧ ((cellsFrom (s.heap.objs.size + 1) (defScope st).names []).lookup y.1).isSome = true) := by
    intro y hy
    obtain ⟨n, v⟩ := y
    exact (S.par n (List.of_mem_zip hy).1).imp id fun q => ⟨q, PySem.W.cellsFrom_some _ _ _ (Or.inl q)⟩
  refine codeAny_call_function hr.depth (KX _ _ lk) rfl S.co S.gen rfl (PySem.W.codeRec_of KX hcd) (hb _ _ _ _ ?_)
  refine wpAny_newFunctionEnv_cells S.kind kinds fun env he s1 x => ?_
  cases he
  refine ⟨lim.keeps x.toInCall.keep, codeAny_func ?_⟩
  obtain ⟨t, ht, hq⟩ := body cdv A outer s H vs Q E p (hc.deep _) (hr.deeper _) hsp
  have I := inv_startH (CX := CX0) (E := E) S hp e0 hl r x
  refine wpAny_mono (ht.nox.run [] s1 (start N vs) H _ I hq) (fun fl s' hs => ?_) (fun _ _ z => z)
  cases fl with
  | brk => exact hs.elim fun _ z => z.elim fun _ z => z.2.elim
  | cont => exact hs.elim fun _ z => z.elim fun _ z => z.2.elim
  | ret u =>
    obtain ⟨v, σ', H', J, rv, q⟩ := hs
    exact ⟨v, H', J.os, J.bare, J.base, J.hok, rv, q⟩
  | next =>
    obtain ⟨σ', H', J, q⟩ := hs
    exact ⟨V.non, H', J.os, J.bare, J.base, J.hok, rfl, q⟩
end
section
variable {X : Cx} {k : Nat} {f : Addr} {fd : FuncData} {ps : List Str} {sp : Addr × Obj → Sp} {x : Str} {p pos : Pos} {e : Expr} {es : List Expr} {t : TA} {h : Addr × Obj}
/-- f(e, ..) of the error in hand -/
theorem pe_callP (F : FnP X.prog X.w X.K X.mg X.base k f fd ps sp) (hh : h ∈ X.pn) (hc : Calm X.A) (hr : RoomH k X.A) (hg : Gl X x) (hm : X.mg x = some (.ref f)) (hk : PySem.W.keepIn X.K (.ref f) = true) (hb : Binds X.K fd ps []) (ha : PA X (e :: es) t)
    (hdb : (x == ("__debug__" : Str)) = false := by decide) (he : starEach (e :: es) X.env = (false, eval e X.env) :: starEach es X.env := by rfl) (hpl : (backTo pos (starEach es X.env)).any (·.1) = false := by rfl) :
    PE X (.Call (.Name x p) (e :: es) [] pos) (tCall (sp h) [] E0 t) := by
  refine ⟨fun pins s σ H Q I hw => wpAny_Call_Name_kw (ld_glob I hg hm ?_ hdb)⟩
  refine PySem.W.callWith_K (h₀ := X.base) I.ok.mod.kin hk (thn (ha.run pos pins s σ H _ I hw) fun us s1 ⟨vs, H1, I1, r, q⟩ => ⟨I1.kIn, ?_⟩) he hpl
  have q : sp h vs H1 Q E0 := by
    have q' : sp h (vs ++ []) H1 Q E0 := q
    rw [List.append_nil] at q'
    exact q'
  have hl : us.length = ps.length := r.length ▸ F.count _ _ _ _ _ q
  have b := hb s1 us I1.kIn (by rw [List.append_nil]; exact hl)
  rw [List.append_nil] at b
  have P1 := I1.pin h (List.mem_append_left _ hh)
  have pin : PinOk X.stack H1 s1 h := ⟨P1.1, P1.2.1, fun hm => (List.mem_cons.mp (I1.stkSub h.1 hm)).elim P1.2.2.1 P1.2.2.2.1, P1.2.2.2.2⟩
  refine wpAny_call (codeAny_mono (F.goes X.A X.stack s1 H1 ⟨us, []⟩ us vs Q E0 h hc hr pin I1.env0 b r q) fun r s' hq => ?_)
  match r, hq with
  | .error er, hq => exact pass0 pins σ H1 s1 er s' I1 hq
  | .ok (.ret u), hq => exact I1.after hq
  | .ok .next, hq => exact hq.elim
  | .ok .brk, hq => exact hq.elim
  | .ok .cont, hq => exact hq.elim
/-- isinstance(e, c), e the error in hand -/
def rIsP (K : PySem.W.Frag) (h : Addr × Obj) (d : Option Addr) : List V → Hp → VK → Prop := fun xs H Q => ∃ (C : Addr) (c : V) (u : Value) (b : Bool), xs = [.ref h.1, c] ∧ ClsV c u ∧ EC K C ∧ Zc (.ref C) d h.2 ∧ (∀ dd, d = some dd → ∃ fs, H dd = some (.xd fs)) ∧
  PySem.W.kitOne K (.ref C) u = some b ∧ Q (.bl b) H
theorem cr_isP {d : Option Addr} (hh : h ∈ X.pn) (hf : ∃ vs, h.2.data = .fields vs) : CallR X (.builtin "isinstance") (rIsP X.K h d) := by
  intro pins s σ H xs us Q I r hw
  obtain ⟨C, c, u, b, rfl, k, T, hz, hd, e, q⟩ := hw
  obtain ⟨u1, u2, rfl, r1, r2⟩ := vals2 r
  cases (show u1 = Value.ref h.1 from r1)
  have e2 := k.eq r2
  subst e2
  obtain ⟨cd, hcl, _⟩ := PySem.W.any_some T.hd
  obtain ⟨at_, _⟩ := I.pin h (List.mem_append_left _ hh)
  obtain ⟨vs, hv⟩ := hf
  have J : ∃ od, PySem.W.InstAt s.heap h.1 h.2 C od := by
    have no : PySem.W.notCls h.2 = true := by unfold PySem.W.notCls; rw [hv]
    cases d with
    | none => exact ⟨none, at_, hz.1, no, by rw [hz.2]; trivial⟩
    | some dd =>
      obtain ⟨fs, ea⟩ := hd dd rfl
      obtain ⟨mA, hns, _⟩ := (show ObjOk X.prog X.w H s.heap dd (.xd fs) from I.hok dd _ ea)
      obtain ⟨od, ho, _⟩ := lookIn_ns hns
      exact ⟨some od, at_, hz.1, no, by rw [hz.2]; exact ho⟩
  obtain ⟨od, J⟩ := J
  exact PySem.W.kia_one (PySem.W.kitx_exc (by rw [hcl]; rfl) T.ga T.gt T.sub T.ca T.sp T.tk T.mo) I.kIn J e (fun z => nomatch z) fun tk => ⟨.bl b, H, I.tok tk, rfl, q⟩
end
end Xp
set_option Elab.async false
set_option linter.all false
set_option autoImplicit false
set_option maxRecDepth 100000
set_option maxHeartbeats 4000000
/-! Xd: defs that may let an error out, entered in calm room. -/
namespace Xd
open PySem PySem.Spec PyProof.Rows L2 Vb
structure FnE (P : Program) (w : World) (K : PySem.W.Frag) (mg : Str → Option Value) (base : Heap) (k : Nat) (f : Addr) (fd : FuncData) (ps : List Str) (sp : Sp) : Prop where
  count : ∀ vs H Q E, sp vs H Q E → vs.length = ps.length
  goes : ∀ (A : Around) (outer : List Env) (s : Shared) (H : Hp) (args : Args) (us : List Value) (vs : List V) (Q : VK) (E : XK), Calm A → Room k A → Env0 P w K mg base A outer s H → BindsTo s fd args (ps.zip us) → Vals vs us → sp vs H Q E →
    codeAny (model P w) A (.call (.ref f) args) (CR (L2.CX P w) outer P w H s Q E) s
section
variable {P : Program} {w : World} {K : PySem.W.Frag} {mg : Str → Option Value} {base : Heap}
theorem FnE.mono {j k : Nat} {f : Addr} {fd : FuncData} {ps : List Str} {sp : Sp} (F : FnE P w K mg base j f fd ps sp) (h : j ≤ k) : FnE P w K mg base k f fd ps sp :=
  ⟨F.count, fun A outer s H args us vs Q E hc hr => F.goes A outer s H args us vs Q E hc (hr.mono h)⟩
theorem goes_exc {x qual : Str} {st : Stmt} {f : Addr} {fd : FuncData} {N ps : List Str} {k : Nat} {sp : Sp} (F : Fun K x qual st f fd) (S : FnScope N ps (defScope st)) (len : ∀ vs H Q E, sp vs H Q E → vs.length = ps.length)
    (body : ∀ (cdv : Value) (A : Around) (outer : List Env) (s : Shared) (H : Hp) (vs : List V) (Q : VK) (E : XK), Calm (A.deeper (envOfC qual (defScope st) s.heap.objs.size f cdv)) → Room k (A.deeper (envOfC qual (defScope st) s.heap.objs.size f cdv)) →
      Takes (cxOf (L2.CX P w) P w K mg base N qual (defScope st) f cdv A outer s H E) (fun cls d _ H' => E cls d H') → sp vs H Q E →
      ∃ t, PSs (cxOf (L2.CX P w) P w K mg base N qual (defScope st) f cdv A outer s H E) (defBody st) t ∧ t { nx := fun _ H' => Q .non H', rt := Q } (start N vs) H) : FnE P w K mg base (k + 1) f fd ps sp := by
  obtain ⟨oc, od, kV, doc, pm, an, cdv, ct, osl, rfl, lk, hcd⟩ := F.ex
  refine ⟨len, fun A outer s H args us vs Q E hc hr e0 hb r hsp => ?_⟩
  have hl := len _ _ _ _ hsp
  have KX : K.In s.heap := e0.mod.kin.keeps fun b o e => (e0.bs b o e).1
  have lim : s.heap.NoLimit := e0.mod.nolimit.keeps fun b o e => (e0.bs b o e).1
  have kinds : ∀ y ∈ ps.zip us, (defScope st).names.lookup y.1 = some .local ∨ ((defScope st).names.lookup y.1 = some .cell ∧ ((cellsFrom (s.heap.objs.size + 1) (defScope st).names []).lookup y.1).isSome = true) := by
    intro y hy
    obtain ⟨n, v⟩ := y
    exact (S.par n (List.of_mem_zip hy).1).imp id fun q => ⟨q, PySem.W.cellsFrom_some _ _ _ (Or.inl q)⟩
  refine codeAny_call_function hr.depth (KX _ _ lk) rfl S.co S.gen rfl (PySem.W.codeRec_of KX hcd) (hb _ _ _ _ ?_)
  refine wpAny_newFunctionEnv_cells S.kind kinds fun env he s1 x => ?_
  cases he
  refine ⟨lim.keeps x.toInCall.keep, codeAny_func ?_⟩
  obtain ⟨t, ht, hq⟩ := body cdv A outer s H vs Q E (hc.deep _) (hr.deeper _) (takes_of rfl rfl rfl rfl) hsp
  have I := inv_start (CX := L2.CX P w) (E := E) S hr.hd e0 hl r x
  refine wpAny_mono (ht.run [] s1 (start N vs) H _ I hq) (fun fl s' hs => ?_) (fun _ _ z => z)
  cases fl with
  | brk => exact hs.elim fun _ z => z.elim fun _ z => z.2.elim
  | cont => exact hs.elim fun _ z => z.elim fun _ z => z.2.elim
  | ret u =>
    obtain ⟨v, σ', H', J, rv, q⟩ := hs
    exact ⟨v, H', J.os, J.bare, J.base, J.hok, rv, q⟩
  | next =>
    obtain ⟨σ', H', J, q⟩ := hs
    exact ⟨V.non, H', J.os, J.bare, J.base, J.hok, rfl, q⟩
/-- what lets nothing out may be taken for what may -/
theorem FnE.of {k : Nat} {f : Addr} {fd : FuncData} {ps : List Str} {sp : Sp} (F : FnG P w K mg base k f fd ps sp) : FnE P w K mg base k f fd ps sp := by
  refine ⟨F.count, fun A outer s H args us vs Q E hc hr e0 hb r h => codeAny_mono (F.goes A outer s H args us vs Q E hc hr e0 hb r h) fun x s' hx => ?_⟩
  match x, hx with
  | .error e, hx => exact False.elim hx
  | .ok (.ret u), hx => exact hx
  | .ok .next, hx => exact hx
  | .ok .brk, hx => exact hx
  | .ok .cont, hx => exact hx
end
section
variable {X : Cx} {k : Nat} {f : Addr} {fd : FuncData} {ps : List Str} {sp : Sp} {W : WX} {E : XK} {x : Str} {p pos : Pos} {e : Expr} {es : List Expr} {t : TA}
theorem goes_inE {pins : List (Addr × Obj)} {σ : L2.St} {H : Hp} {s : Shared} {Q : VK} {us : List Value} {vs : List V} (F : FnE X.prog X.w X.K X.mg X.base k f fd ps sp) (hc : Calm X.A) (hr : Room k X.A) (hb : Binds X.K fd ps []) (tk : Takes X W) (hW : ∀ cls d σ H, E cls d H → W cls d σ H)
    (I : Inv X pins σ H s) (r : Vals vs us) (h : sp vs H Q E) : wpAny (model X.prog X.w) X.A (call (.ref f) us) (EP X pins σ Q) X.xe s := by
  have hl : us.length = ps.length := r.length ▸ F.count _ _ _ _ h
  have b := hb s us I.kIn (by rw [List.append_nil]; exact hl)
  rw [List.append_nil] at b
  refine wpAny_call (codeAny_mono (F.goes X.A X.stack s H ⟨us, []⟩ us vs Q E hc hr I.env0 b r h) fun y s' hq => ?_)
  match y, hq with
  | .error er, hq => exact passes_call tk hW pins σ H s er s' I hq
  | .ok (.ret u), hq => exact I.after hq
  | .ok .next, hq => exact hq.elim
  | .ok .brk, hq => exact hq.elim
  | .ok .cont, hq => exact hq.elim
/-- f(e, ..), what it lets out is taken -/
theorem pe_callE (F : FnE X.prog X.w X.K X.mg X.base k f fd ps sp) (hc : Calm X.A) (hr : Room k X.A) (hg : Gl X x) (hm : X.mg x = some (.ref f)) (hk : PySem.W.keepIn X.K (.ref f) = true) (hb : Binds X.K fd ps []) (tk : Takes X W) (hW : ∀ cls d σ H, E cls d H → W cls d σ H) (ha : PA X (e :: es) t)
    (hdb : (x == ("__debug__" : Str)) = false := by decide) (he : starEach (e :: es) X.env = (false, eval e X.env) :: starEach es X.env := by rfl) (hpl : (backTo pos (starEach es X.env)).any (·.1) = false := by rfl) :
    PE X (.Call (.Name x p) (e :: es) [] pos) (fun σ H Q => t σ H fun vs H1 => sp vs H1 Q E) :=
  ⟨fun pins s σ H Q I h => wpAny_Call_Name_kw (ld_glob I hg hm
    (PySem.W.callWith_K (h₀ := X.base) I.ok.mod.kin hk (thn (ha.run pos pins s σ H _ I h) fun us s1 ⟨vs, H1, I1, r, q⟩ => ⟨I1.kIn, goes_inE F hc hr hb tk hW I1 r q⟩) he hpl) hdb)⟩
end
end Xd
set_option Elab.async false
set_option linter.all false
set_option autoImplicit false
set_option maxRecDepth 100000
set_option maxHeartbeats 4000000
/-! Xo: objects of own classes in calm room: made, their methods called, their properties read. -/
namespace Xo
open PySem PySem.Spec PyProof.Rows L2 Vb Xd
section
variable {X : Cx} {k : Nat} {f C p g : Addr} {fd : FuncData} {ps : List Str} {sp : Sp} {W : WX} {E : XK} {x m : Str} {q pos apos : Pos} {o e : Expr} {es : List Expr} {ta : TE} {t : TA}
/-- o.m(e, ..) -/
def tMeE (C : Addr) (m : Str) (sp : Sp) (E : XK) (ta : TE) (t : TA) : TE := fun σ H Q => ta σ H fun x H1 => ∃ a dx fs, x = .ref a ∧ H1 a = some (.ins C dx fs) ∧ fs.lookup m = none ∧ t σ H1 fun vs H2 => sp (x :: vs) H2 Q E
theorem pe_methE {pl : Sem Bool} (he : PE X o ta) (c : Cls X.K C) (hm : Meth X.K C m f) (F : FnE X.prog X.w X.K X.mg X.base k f fd ps sp) (hc : Calm X.A) (hr : Room k X.A) (hb : Binds X.K fd ps []) (tk : Takes X W) (hW : ∀ cls d σ H, E cls d H → W cls d σ H) (ha : PA X (e :: es) t)
    (hst : starEach (e :: es) X.env = (false, eval e X.env) :: starEach es X.env := by rfl) (hpl : (backTo pos (starEach es X.env)).any (·.1) = false := by rfl)
    (ht : eval (.Call (.Attribute o m apos) (e :: es) [] pos) X.env = (do let ov ← eval o X.env; standAt apos.atName; let (f, first) ← holding [ov] (getMethod ov m pl); callWith pos f first (backTo pos (starEach (e :: es) X.env)) (backToKw pos (keywordEach [] X.env))) := by rfl) :
    PE X (.Call (.Attribute o m apos) (e :: es) [] pos) (tMeE C m sp E ta t) := by
  refine ⟨fun pins s σ H Q I h => PySem.W.methodCall_KW (pl := pl) (thn (he.run pins s σ H _ I h) fun u s1 ⟨x, H1, I1, rx, a, dx, fs, ex, ea, l, q⟩ => ?_) ht⟩
  subst ex
  obtain rfl : u = Value.ref a := rx
  refine getmeth_ok I1 ea c hm l (PySem.W.callWith_K (first := [.ref a]) (h₀ := X.base) I.ok.mod.kin hm.kp (thn (ha.run pos pins s1 σ H1 _ I1 q) fun us s2 ⟨vs, H2, I2, r, q2⟩ => ⟨I2.kIn, ?_⟩) hst hpl)
  exact goes_inE (us := .ref a :: us) (vs := .ref a :: vs) F hc hr hb tk hW I2 (.cons rfl r) q2
theorem pe_methE0 {pl : Sem Bool} (he : PE X o ta) (c : Cls X.K C) (hm : Meth X.K C m f) (F : FnE X.prog X.w X.K X.mg X.base k f fd ps sp) (hc : Calm X.A) (hr : Room k X.A) (hb : Binds X.K fd ps []) (tk : Takes X W) (hW : ∀ cls d σ H, E cls d H → W cls d σ H)
    (ht : eval (.Call (.Attribute o m apos) [] [] pos) X.env = (do let ov ← eval o X.env; standAt apos.atName; let (f, first) ← holding [ov] (getMethod ov m pl); callWith pos f first (backTo pos (starEach [] X.env)) (backToKw pos (keywordEach [] X.env))) := by rfl) :
    PE X (.Call (.Attribute o m apos) [] [] pos) (tMeE C m sp E ta tNil) := by
  refine ⟨fun pins s σ H Q I h => PySem.W.methodCall_KW (pl := pl) (thn (he.run pins s σ H _ I h) fun u s1 ⟨x, H1, I1, rx, a, dx, fs, ex, ea, l, q⟩ => ?_) ht⟩
  subst ex
  obtain rfl : u = Value.ref a := rx
  exact getmeth_ok I1 ea c hm l (PySem.W.callWith_K0 (first := [.ref a]) I1.kIn hm.kp (goes_inE (us := [.ref a]) (vs := [.ref a]) F hc hr hb tk hW I1 (.cons rfl .nil) q))
/-- C(e, ..) -/
def tMaE (C : Addr) (sp : Sp) (E : XK) (t : TA) : TE := fun σ H Q => t σ H fun vs H1 => ∀ x dx, H1 x = none → H1 dx = none → dx ≠ x → sp (.ref x :: vs) (upd (upd H1 dx (.own x)) x (.ins C dx [])) (fun v H2 => v = .non ∧ Q (.ref x) H2) E
theorem makes_inE {pins : List (Addr × Obj)} {σ : L2.St} {H : Hp} {s : Shared} {Q : VK} {us : List Value} {vs : List V} (M : L2.Mk X.K C f) (F : FnE X.prog X.w X.K X.mg X.base k f fd ps sp) (hc : Calm X.A) (hr : Room (k + 1) X.A) (hb : Binds X.K fd ps []) (tk : Takes X W) (hW : ∀ cls d σ H, E cls d H → W cls d σ H)
    (I : Inv X pins σ H s) (r : Vals vs us) (h : ∀ x dx, H x = none → H dx = none → dx ≠ x → sp (.ref x :: vs) (upd (upd H dx (.own x)) x (.ins C dx [])) (fun v H2 => v = .non ∧ Q (.ref x) H2) E) : wpAny (model X.prog X.w) X.A (call (.ref C) us) (EP X pins σ Q) X.xe s := by
  have hq := h (s.heap.objs.size + 1) s.heap.objs.size (I.hok.fresh (Nat.le_succ _)) (I.hok.fresh (Nat.le_refl _)) (Nat.ne_of_lt (Nat.lt_succ_self _))
  have I2 := Inv.made (C := C) I
  have r2 : Vals (V.ref (s.heap.objs.size + 1) :: vs) (Value.ref (s.heap.objs.size + 1) :: us) := .cons rfl r
  have hl : (Value.ref (s.heap.objs.size + 1) :: us).length = ps.length := r2.length ▸ F.count _ _ _ _ hq
  have b := hb _ (Value.ref (s.heap.objs.size + 1) :: us) I2.kIn (by rw [List.append_nil]; exact hl)
  rw [List.append_nil] at b
  refine wpAny_call (make_map (f := f) I.kIn M.makes M.init (beq_iff_eq.mp M.fn) (codeAny_mono (F.goes _ X.stack _ _ ⟨Value.ref (s.heap.objs.size + 1) :: us, []⟩ _ _ _ E hc (hr.make C us []) (I2.env0.make C us []) b r2 hq) fun y s' hq' => ?_))
  match y, hq' with
  | .error er, hq' => exact passes_call tk hW pins σ _ _ er s' I2 hq'
  | .ok (.ret u), hq' =>
    obtain ⟨v, H', I3, rv, ev, q3⟩ := I2.after hq'
    subst ev
    exact ⟨rv, ⟨V.ref (s.heap.objs.size + 1), H', I3, rfl, q3⟩⟩
  | .ok .next, hq' => exact hq'.elim
  | .ok .brk, hq' => exact hq'.elim
  | .ok .cont, hq' => exact hq'.elim
theorem pe_makeE (M : L2.Mk X.K C f) (F : FnE X.prog X.w X.K X.mg X.base k f fd ps sp) (hc : Calm X.A) (hr : Room (k + 1) X.A) (hg : Gl X x) (hm : X.mg x = some (.ref C)) (hb : Binds X.K fd ps []) (tk : Takes X W) (hW : ∀ cls d σ H, E cls d H → W cls d σ H) (ha : PA X (e :: es) t)
    (hdb : (x == ("__debug__" : Str)) = false := by decide) (he : starEach (e :: es) X.env = (false, eval e X.env) :: starEach es X.env := by rfl) (hpl : (backTo pos (starEach es X.env)).any (·.1) = false := by rfl) : PE X (.Call (.Name x q) (e :: es) [] pos) (tMaE C sp E t) :=
  ⟨fun pins s σ H Q I h => wpAny_Call_Name_kw (ld_glob I hg hm (PySem.W.callWith_K (h₀ := X.base) I.ok.mod.kin M.kp (thn (ha.run pos pins s σ H _ I h) fun us s1 ⟨vs, H1, I1, r, q⟩ => ⟨I1.kIn, makes_inE M F hc hr hb tk hW I1 r q⟩) he hpl) hdb)⟩
/-- e.f, a property whose getter lets nothing out -/
def tPrE (C : Addr) (sp : Sp) (ta : TE) : TE := fun σ H Q => ta σ H fun x H1 => ∃ a dx fs, x = .ref a ∧ H1 a = some (.ins C dx fs) ∧ sp [.ref a] H1 Q E0
theorem pe_propG {n : Str} (he : PE X e ta) (c : Cls X.K C) (hp : PropOf X.K C n p g) (F : FnG X.prog X.w X.K X.mg X.base k g fd ps sp) (hc : Calm X.A) (hr : Room (k + 1) X.A) (hb : Binds X.K fd ps []) (hab : attributeBase e n X.env (eval e X.env) = eval e X.env := by rfl) : PE X (.Attribute e n pos) (tPrE C sp ta) := by
  refine ⟨fun pins s σ H Q I h => attr_of hab (thn (he.run pins s σ H _ I h) fun u s1 ⟨x, H1, I1, rx, a, dx, fs, ex, ea, q⟩ => ?_)⟩
  subst ex
  obtain rfl : u = Value.ref a := rx
  obtain ⟨mA, O, _, _, _, _⟩ := ins_get I1.hok ea
  obtain ⟨od, J, _⟩ := O.look
  obtain ⟨rest, hrec⟩ := hp.rec_
  obtain ⟨cd, hcl, _⟩ := PySem.W.any_some c.hd
  have I2 := I1.tok (s1.toks + 1)
  have hl : [Value.ref a].length = ps.length := F.count _ _ _ _ q
  have b := hb { s1 with toks := s1.toks + 1 } [.ref a] I2.kIn (by rw [List.append_nil]; exact hl)
  rw [List.append_nil] at b
  refine PySem.W.get_bind I1.kIn J (PySem.W.plainGet_of (c.get n)).1 (PySem.W.findObj_data (by rw [hcl]; rfl) hp.at_ hp.get hp.tak) (PySem.W.plainGet_of (c.get n)).2 (wpAny_call (PySem.W.prop_get (s := { s1 with toks := s1.toks + 1 }) I1.kIn hrec ?_))
  refine codeAny_mono (F.goes X.A.in1 X.stack { s1 with toks := s1.toks + 1 } H1 ⟨[.ref a], []⟩ [.ref a] [.ref a] Q E0 hc hr.in1 I2.env0.in1 b (.cons rfl .nil) q) fun y s' hq => ?_
  match y, hq with
  | .error er, hq => exact False.elim hq
  | .ok (.ret u), hq =>
    obtain ⟨v, H', I3, rv, q3⟩ := I2.after hq
    show wpAny _ _ (handedOut u) _ _ _
    rw [PySem.W.handedOut_of (handed_of rv)]
    exact wpAny_pure ⟨v, H', I3, rv, q3⟩
  | .ok .next, hq => exact hq.elim
  | .ok .brk, hq => exact hq.elim
  | .ok .cont, hq => exact hq.elim
end
end Xo
set_option Elab.async false
set_option linter.all false
set_option autoImplicit false
set_option maxRecDepth 100000
set_option maxHeartbeats 4000000
namespace K03
open PySem PySem.Spec PyProof.Rows L2 Vb Wd Xd Xo
/-- the i-th statement of a class -/
def inB (st : Stmt) (i : Nat) : Stmt := match st with
  | .ClassDef _ _ _ b _ _ _ _ _ _ _ => b.getD i (.Pass ⟨0, 0, 0, 0⟩)
  | _ => .Pass ⟨0, 0, 0, 0⟩
abbrev s_init : Stmt := inB (topS 17) 0
theorem sc_init : FnScope ["self", "called", "sort", "children"] ["self", "called", "sort", "children"] (defScope s_init) := ⟨rfl, rfl, rfl, by decide +kernel, rfl, by decide +kernel, by decide +kernel⟩
abbrev s_called : Stmt := inB (topS 17) 2
theorem sc_called : FnScope ["self"] ["self"] (defScope s_called) := ⟨rfl, rfl, rfl, by decide +kernel, rfl, by decide +kernel, by decide +kernel⟩
abbrev s_sort_name : Stmt := inB (topS 17) 3
theorem sc_sort_name : FnScope ["self"] ["self"] (defScope s_sort_name) := ⟨rfl, rfl, rfl, by decide +kernel, rfl, by decide +kernel, by decide +kernel⟩
abbrev s_children : Stmt := inB (topS 17) 4
theorem sc_children : FnScope ["self"] ["self"] (defScope s_children) := ⟨rfl, rfl, rfl, by decide +kernel, rfl, by decide +kernel, by decide +kernel⟩
def flds (n so : Str) (ch : Addr) : List (Str × V) := [("_called", .str n), ("_sort_name", .str so), ("_children", .ref ch)]
/-- what the written part tells of the class Form -/
structure FormC (K : PySem.W.Frag) (C : Addr) : Prop where
  c : Cls K C
  n1 : NoAttr K C "_called"
  n2 : NoAttr K C "_sort_name"
  n3 : NoAttr K C "_children"
def spInit (K : PySem.W.Frag) (C : Addr) : Sp := fun vs H Q _ => ∃ (a dx ch : Addr) (n so : Str) (ts : List Addr) (cs : List (Str × Int)), vs = [.ref a, .str n, .str so, .ref ch] ∧ H a = some (.ins C dx []) ∧ (isNam (.str n) = true ∧ n.length ≤ 1000 ∧ Asc n) ∧ (isNam (.str so) = true ∧ so.length ≤ 1000 ∧ Asc so) ∧ Kids H ch ts cs ∧
  ∀ H', Same H H' → Q .non (upd H' a (.ins C dx (flds n so ch)))
/-- a form -/
structure FormAt (H : Hp) (C a ch : Addr) (n so : Str) (ts : List Addr) (cs : List (Str × Int)) : Prop where
  at_ : ∃ dx, H a = some (.ins C dx (flds n so ch))
  kids : Kids H ch ts cs
def spGet (C : Addr) (f : Str) : Sp := fun vs H Q _ => ∃ (a ch dx : Addr) (n so : Str) (v : V), vs = [.ref a] ∧ H a = some (.ins C dx (flds n so ch)) ∧ (flds n so ch).lookup f = some v ∧ Q v H
section
variable {P : Program} {w : World} {K : PySem.W.Frag} {mg : Str → Option Value} {base : Heap} {C : Addr}
theorem ok_init {f : Addr} {fd : FuncData} (F : Fun K "__init__" "Form.__init__" s_init f fd) (T : FormC K C) (G_is_name : Cg P w K mg base 1 "is_name" (spOf isNam)) (G_is_children : Cg P w K mg base 5 "_is_children" spChildren) : FnG P w K mg base 6 f fd ["self", "called", "sort", "children"] (spInit K C) := by
  refine goes_by F sc_init (fun vs H Q E h => ?_) (fun cdv A outer s H vs Q E hc hr h => ?_)
  · obtain ⟨a, dx, ch, n, so, ts, cs, rfl, _⟩ := h
    rfl
  · obtain ⟨a, dx, ch, n, so, ts, cs, rfl, ha, ⟨e1, p1⟩, ⟨e2, p2⟩, k, q⟩ := h
    refine ⟨_, (pss_cons (ps_if (pt_not (pt_val (pe_cg G_is_name hc hr (by rfl) (pa_cons (pv 1) pa_nil)))) pss_never pss_nil)
      (pss_cons (ps_if (pt_not (pt_val (pe_cg G_is_name hc hr (by rfl) (pa_cons (pv 2) pa_nil)))) pss_never pss_nil)
      (pss_cons (ps_if (pt_not (pt_val (pe_cg G_is_children hc hr (by rfl) (pa_cons (pv 3) pa_nil)))) pss_never pss_nil)
      (pss_cons (ps_fld (f := "_called") (pv 0) (pv 1) (by rfl))
      (pss_cons (ps_fld (f := "_sort_name") (pv 0) (pv 2) (by rfl))
      (pss_one (ps_fld (f := "_children") (pv 0) (pv 3) (by rfl)))))))), ?_⟩
    refine ⟨_, rfl, .str n, rfl, p1, fun H1 s1 => ⟨_, rfl, ?_⟩⟩
    rw [e1]
    refine iteF ⟨_, rfl, .str so, rfl, p2, fun H2 s2 => ⟨_, rfl, ?_⟩⟩
    rw [e2]
    refine iteF ⟨_, rfl, ch, ts, cs, rfl, k.same (s1.trans s2), fun H3 s3 => ⟨_, rfl, iteF ?_⟩⟩
    have s13 := (s1.trans s2).trans s3
    refine ⟨_, rfl, _, rfl, a, C, dx, _, rfl, s13 _ _ ha, T.c, T.n1, by decide, _, rfl, _, rfl, a, C, dx, _, rfl, upd_same, T.c, T.n2, by show 1 < 1000; decide, _, rfl, _, rfl, a, C, dx, _, rfl, upd_same, T.c, T.n3, by show 2 < 1000; decide, ?_⟩
    rw [upd_upd, upd_upd]
    exact q H3 s13
theorem ok_called {f : Addr} {fd : FuncData} (F : Fun K "called" "Form.called" s_called f fd) (T : FormC K C) : FnG P w K mg base 1 f fd ["self"] (spGet C "_called") := by
  refine goes_by F sc_called (fun vs H Q E h => ?_) (fun cdv A outer s H vs Q E hc hr h => ?_)
  · obtain ⟨a, ch, dx, n, so, v, rfl, _⟩ := h
    rfl
  · obtain ⟨a, ch, dx, n, so, v, rfl, ha, l, q⟩ := h
    exact ⟨_, pss_one (ps_ret (pe_fld (f := "_called") (pv 0) (by rfl))), _, rfl, a, C, dx, _, v, rfl, ha, T.c, T.n1, l, q⟩
theorem ok_sort_name {f : Addr} {fd : FuncData} (F : Fun K "sort_name" "Form.sort_name" s_sort_name f fd) (T : FormC K C) : FnG P w K mg base 1 f fd ["self"] (spGet C "_sort_name") := by
  refine goes_by F sc_sort_name (fun vs H Q E h => ?_) (fun cdv A outer s H vs Q E hc hr h => ?_)
  · obtain ⟨a, ch, dx, n, so, v, rfl, _⟩ := h
    rfl
  · obtain ⟨a, ch, dx, n, so, v, rfl, ha, l, q⟩ := h
    exact ⟨_, pss_one (ps_ret (pe_fld (f := "_sort_name") (pv 0) (by rfl))), _, rfl, a, C, dx, _, v, rfl, ha, T.c, T.n2, l, q⟩
theorem ok_children {f : Addr} {fd : FuncData} (F : Fun K "children" "Form.children" s_children f fd) (T : FormC K C) : FnG P w K mg base 1 f fd ["self"] (spGet C "_children") := by
  refine goes_by F sc_children (fun vs H Q E h => ?_) (fun cdv A outer s H vs Q E hc hr h => ?_)
  · obtain ⟨a, ch, dx, n, so, v, rfl, _⟩ := h
    rfl
  · obtain ⟨a, ch, dx, n, so, v, rfl, ha, l, q⟩ := h
    exact ⟨_, pss_one (ps_ret (pe_fld (f := "_children") (pv 0) (by rfl))), _, rfl, a, C, dx, _, v, rfl, ha, T.c, T.n3, l, q⟩
end
end K03
set_option Elab.async false
set_option linter.all false
set_option autoImplicit false
set_option maxRecDepth 100000
set_option maxHeartbeats 4000000
namespace K03
open PySem PySem.Spec PyProof.Rows L2 Vb Wd Xd Xo Xi Xm Xr
abbrev s_len : Stmt := inB (topS 17) 5
theorem sc_len : FnScope ["self"] ["self"] (defScope s_len) := ⟨rfl, rfl, rfl, by decide +kernel, rfl, by decide +kernel, by decide +kernel⟩
abbrev s_getitem : Stmt := inB (topS 17) 7
theorem sc_getitem : FnScope ["self", "index"] ["self", "index"] (defScope s_getitem) := ⟨rfl, rfl, rfl, by decide +kernel, rfl, by decide +kernel, by decide +kernel⟩
def spLenF (C : Addr) : Sp := fun vs H Q _ => ∃ (a ch : Addr) (n so : Str) (ts : List Addr) (cs : List (Str × Int)), vs = [.ref a] ∧ FormAt H C a ch n so ts cs ∧ Q (.int ts.length) H
def isIdx (v : V) (n : Int) : Bool := match v with
  | .int i => (isInt v && notNeg v) && decide (i < n)
  | _ => false
/-- form[i]: the child, or InvalidNumber(i) -/
def spItem (C CN : Addr) : Sp := fun vs H Q E => ∃ (a ch : Addr) (n so : Str) (ts : List Addr) (cs : List (Str × Int)) (v : V), vs = [.ref a, v] ∧ FormAt H C a ch n so ts cs ∧ Judged H v ∧
  (isIdx v ts.length = true → ∀ (i : Nat) (t : Addr), v = .int i → ts[i]? = some t → ∀ H', Same H H' → Q (.ref t) H') ∧
  (isIdx v ts.length = false → ∀ H' d, Same H H' → H' d = none → E (.ref CN) (some d) (upd H' d (.xd [("value", v)])))
section
variable {P : Program} {w : World} {K : PySem.W.Frag} {mg : Str → Option Value} {base : Heap} {C CN : Addr}
theorem ok_len {f : Addr} {fd : FuncData} (F : Fun K "__len__" "Form.__len__" s_len f fd) (T : FormC K C) (z_len : mg "len" = none) : FnG P w K mg base 1 f fd ["self"] (spLenF C) := by
  refine goes_by F sc_len (fun vs H Q E h => ?_) (fun cdv A outer s H vs Q E hc hr h => ?_)
  · obtain ⟨a, ch, n, so, ts, cs, rfl, _⟩ := h
    rfl
  · obtain ⟨a, ch, n, so, ts, cs, rfl, ⟨⟨dx, ha⟩, k⟩, q⟩ := h
    refine ⟨_, pss_one (ps_ret (pe_callB call_len_seq (by rfl) z_len PySem.boot_len (pa_cons (pe_fld (f := "_children") (pv 0) (by rfl)) pa_nil))), ?_⟩
    refine ⟨_, rfl, a, C, dx, _, .ref ch, rfl, ha, T.c, T.n3, by rfl, ch, _, rfl, .inr (.inl (.inl k.at_)), ?_⟩
    rw [List.length_map]
    exact q
theorem ok_getitem {f fI : Addr} {fd fdI : FuncData} {psI : List Str} (F : Fun K "__getitem__" "Form.__getitem__" s_getitem f fd) (T : FormC K C) (TI : EI K CN fI) (no : PySem.W.findIn K (.ref CN) "value" = some none) (FI : FnG P w K mg base 1 fI fdI psI (spSet K CN fI "value")) (bI : Binds K fdI psI []) (gN : mg "InvalidNumber" = some (.ref CN))
    (G_is_index : Cg P w K mg base 3 "is_index" (fun vs H Q _ => ∃ (v : V) (n : Int), vs = [v, .int n] ∧ Judged H v ∧ ∀ H', Same H H' → Q (.bl (isIdx v n)) H')) (z_len : mg "len" = none) : FnE P w K mg base 4 f fd ["self", "index"] (spItem C CN) := by
  refine goes_exc F sc_getitem (fun vs H Q E h => ?_) (fun cdv A outer s H vs Q E hc hr tk h => ?_)
  · obtain ⟨a, ch, n, so, ts, cs, v, rfl, _⟩ := h
    rfl
  · obtain ⟨a, ch, n, so, ts, cs, v, rfl, ⟨⟨dx, ha⟩, k⟩, j, q1, q2⟩ := h
    refine ⟨_, (pss_cons (ps_if (pt_not (pt_val (pe_cg G_is_index hc hr (by rfl) (pa_cons (pv 1) (pa_cons (pe_callB call_len_seq (by rfl) z_len PySem.boot_len (pa_cons (pe_fld (f := "_children") (pv 0) (by rfl)) pa_nil)) pa_nil)))))
        (pss_one (ps_raise (by rfl) tk (pmk_E (f := "value") TI no FI hc (hr.mono (by decide)) bI (by rfl) gN (pa_cons (pv 1) pa_nil)))) pss_nil)
      (pss_one (ps_ret (pe_ix (ix_tup : IxR _ (rIxT K)) (pe_fld (f := "_children") (pv 0) (by rfl)) (pv 1) (fun _ _ => rfl))))), ?_⟩
    refine ⟨_, rfl, _, rfl, a, C, dx, _, .ref ch, rfl, ha, T.c, T.n3, by rfl, ch, _, rfl, .inr (.inl (.inl k.at_)), v, _, rfl, j, fun H1 s1 => ⟨_, rfl, ?_⟩⟩
    rw [List.length_map]
    cases e : isIdx v ts.length with
    | false => exact iteT ⟨_, rfl, v, rfl, fun d nd => q2 e H1 d s1 nd⟩
    | true =>
      cases v with
      | int i =>
        have e' : ((isInt (.int i) && notNeg (.int i)) && decide (i < (ts.length : Int))) = true := e
        simp only [Bool.and_eq_true] at e'
        obtain ⟨⟨_, i0⟩, i1⟩ := e'
        have j0 : 0 ≤ i := of_decide_eq_true i0
        have j1 : i < (ts.length : Int) := of_decide_eq_true i1
        have lt : i.toNat < ts.length := by omega
        have eq : i = ((i.toNat : Nat) : Int) := by omega
        have get := List.getElem?_eq_getElem lt
        have at_ : atI (ts.map V.ref) i = some (.ref ts[i.toNat]) := at_of (j := i.toNat) eq (by rw [List.getElem?_map, get]; rfl)
        exact iteF ⟨_, rfl, a, C, dx, _, .ref ch, rfl, s1 _ _ ha, T.c, T.n3, by rfl, _, rfl, ch, _, _, _, rfl, rfl, .inl (.inl (s1 _ _ k.at_)), at_, q1 e i.toNat ts[i.toNat] (congrArg V.int eq) get H1 s1⟩
      | _ => cases e
end
end K03
set_option Elab.async false
set_option linter.all false
set_option autoImplicit false
set_option maxRecDepth 100000
set_option maxHeartbeats 4000000
/-! Gd: expressions that yield data: none, bools, ints, texts, lists, tuples of such. -/
namespace Gd
open PySem PySem.Spec PyProof.Rows L2 Vb Wd
variable {K : PySem.W.Frag}
theorem seqL_same {H H' : Hp} {a : Addr} {xs : List V} (s : Same H H') (h : SqL K H a xs) : SqL K H' a xs := s.seq h
theorem seqT_same {H H' : Hp} {a : Addr} {xs : List V} (s : Same H H') (h : SqT K H a xs) : SqT K H' a xs := by
  rcases h with (h | h) | h
  · exact .inl (.inl (s _ _ h))
  · obtain ⟨o, e⟩ := h
    exact .inl (.inr ⟨o, s _ _ e⟩)
  · exact .inr h
mutual
theorem Dp.same {H H' : Hp} (s : Same H H') : ∀ (d : PyData) (v : V), Dp K H v d → Dp K H' v d
  | .none, _, h => by cases h; exact .non
  | .bool b, _, h => by cases h; exact .bl b
  | .int i, _, h => by cases h; exact .int i
  | .str x, _, h => by cases h; exact .str x
  | .list ds, _, h => by
    cases h with
    | lst a b => exact .lst (seqL_same s a) (Dp.sameAll s ds _ b)
  | .tuple ds, _, h => by
    cases h with
    | tup a b => exact .tup (seqT_same s a) (Dp.sameAll s ds _ b)
  | .dict kvs, _, h => by cases h
theorem Dp.sameAll {H H' : Hp} (s : Same H H') : ∀ (ds : List PyData) (vs : List V), DpAll K H vs ds → DpAll K H' vs ds
  | [], _, h => by cases h; exact .nil
  | d :: ds, _, h => by
    cases h with
    | cons a b => exact .cons (Dp.same s d _ a) (Dp.sameAll s ds _ b)
end
theorem dpAll_app {H : Hp} : ∀ {xs : List V} {ds : List PyData} {ys : List V} {es : List PyData}, DpAll K H xs ds → DpAll K H ys es → DpAll K H (xs ++ ys) (ds ++ es)
  | _, _, _, _, .nil, b => b
  | _, _, _, _, .cons a r, b => .cons a (dpAll_app r b)
theorem dpAll_len {H : Hp} : ∀ {xs : List V} {ds : List PyData}, DpAll K H xs ds → xs.length = ds.length
  | _, _, .nil => rfl
  | _, _, .cons _ r => by rw [List.length_cons, List.length_cons, dpAll_len r]
theorem dpAll_strs {H : Hp} : ∀ l : List Str, DpAll K H (l.map V.str) (l.map PyData.str)
  | [] => .nil
  | y :: l => .cons (.str y) (dpAll_strs l)
/-- the expression yields data that reads d, now and later; all that is tracked stays -/
def GivesD (K : PySem.W.Frag) (t : TE) (σ : L2.St) (H : Hp) (d : PyData) : Prop := ∀ H1 Q, Same H H1 → (∀ v H', Same H1 H' → Dp K H' v d → Q v H') → t σ H1 Q
/-- .. a new list -/
def GivesN (K : PySem.W.Frag) (t : TE) (σ : L2.St) (H : Hp) (ds : List PyData) : Prop := ∀ H1 Q, Same H H1 → (∀ p Hb xs, Same H1 Hb → Hb p = none → DpAll K Hb xs ds → Q (.ref p) (upd Hb p (.lst xs))) → t σ H1 Q
/-- .. several values -/
def GivesA (K : PySem.W.Frag) (t : TA) (σ : L2.St) (H : Hp) (ds : List PyData) : Prop := ∀ H1 Q, Same H H1 → (∀ vs H', Same H1 H' → DpAll K H' vs ds → Q vs H') → t σ H1 Q
section
variable {σ : L2.St} {H : Hp}
theorem GivesD.mono {t : TE} {d : PyData} {H0 : Hp} (g : GivesD K t σ H0 d) (s : Same H0 H) : GivesD K t σ H d := fun H1 Q s1 k => g H1 Q (s.trans s1) k
theorem gd_nil : GivesA K tNil σ H [] := fun H1 Q s k => k [] H1 (Same.refl _) .nil
theorem gd_cons {t : TE} {ts : TA} {d : PyData} {ds : List PyData} (a : GivesD K t σ H d) (b : GivesA K ts σ H ds) : GivesA K (tCons t ts) σ H (d :: ds) := fun H1 Q s k =>
  a H1 _ s fun v H2 s2 h2 => b H2 _ (s.trans s2) fun vs H3 s3 h3 => k (v :: vs) H3 (s2.trans s3) (.cons (Dp.same s3 d v h2) h3)
theorem gd_str {x : Str} : GivesD K (tC (.str x)) σ H (.str x) := fun H1 Q s k => k _ H1 (Same.refl _) (.str x)
theorem gd_int {i : Int} : GivesD K (tC (.int i)) σ H (.int i) := fun H1 Q s k => k _ H1 (Same.refl _) (.int i)
theorem gd_non : GivesD K (tC .non) σ H .none := fun H1 Q s k => k _ H1 (Same.refl _) .non
theorem gd_bl {b : Bool} : GivesD K (tC (.bl b)) σ H (.bool b) := fun H1 Q s k => k _ H1 (Same.refl _) (.bl b)
theorem gd_var {i : Nat} {v : V} {d : PyData} (h : σ[i]? = some (some v)) (r : Dp K H v d) : GivesD K (tVar i) σ H d := fun H1 Q s k => ⟨v, h, k v H1 (Same.refl _) (Dp.same s d v r)⟩
theorem gd_lst {t : TA} {ds : List PyData} (g : GivesA K t σ H ds) (few : ds.length ≤ sizeLine) : GivesN K (tLst t) σ H ds := fun H1 Q s k =>
  g H1 _ s fun vs H2 s2 h2 => ⟨by rw [dpAll_len h2]; exact few, fun p np => k p H2 vs s2 np h2⟩
theorem gd_tup {t : TA} {ds : List PyData} (g : GivesA K t σ H ds) (few : ds.length ≤ sizeLine) : GivesD K (tTup t) σ H (.tuple ds) := fun H1 Q s k =>
  g H1 _ s fun vs H2 s2 h2 => ⟨by rw [dpAll_len h2]; exact few, fun p np => k (.ref p) _ (s2.trans (same_new np)) (.tup (.inl (.inl upd_same)) (Dp.sameAll (same_new np) ds vs h2))⟩
theorem GivesN.data {t : TE} {ds : List PyData} (g : GivesN K t σ H ds) : GivesD K t σ H (.list ds) := fun H1 Q s k =>
  g H1 _ s fun p Hb xs s2 np h => k (.ref p) _ (s2.trans (same_new np)) (.lst (.inl (.inl upd_same)) (Dp.sameAll (same_new np) ds xs h))
theorem gd_cat {t u : TE} {ds es : List PyData} (a : GivesN K t σ H ds) (b : GivesN K u σ H es) (few : ds.length + es.length ≤ sizeLine) : GivesN K (tOp rCat t u) σ H (ds ++ es) := fun H1 Q s k =>
  a H1 _ s fun p Hb xs s2 np h => b _ _ (s.trans (s2.trans (same_new np))) fun q Hc ys s3 nq h' => by
    have sq := same_new (o := .lst ys) nq
    have sp := same_new (o := .lst xs) np
    refine ⟨p, q, xs, ys, rfl, rfl, sq _ _ (s3 _ _ upd_same), upd_same, by rw [dpAll_len h, dpAll_len h']; exact few, fun r nr => k r _ _ (((s2.trans sp).trans s3).trans sq) nr (dpAll_app (Dp.sameAll ((sp.trans s3).trans sq) ds xs h) (Dp.sameAll sq es ys h'))⟩
theorem gd_catV {i : Nat} {p : Addr} {xs : List V} {u : TE} {ds es : List PyData} (h : σ[i]? = some (some (.ref p))) (e : H p = some (.lst xs)) (r : DpAll K H xs ds) (b : GivesN K u σ H es) (few : ds.length + es.length ≤ sizeLine) : GivesN K (tOp rCat (tVar i) u) σ H (ds ++ es) := fun H1 Q s k =>
  ⟨.ref p, h, b _ _ s fun q Hc ys s3 nq h' => by
    have sq := same_new (o := .lst ys) nq
    exact ⟨p, q, xs, ys, rfl, rfl, sq _ _ (s3 _ _ (s _ _ e)), upd_same, by rw [dpAll_len r, dpAll_len h']; exact few, fun z nz => k z _ _ (s3.trans sq) nz (dpAll_app (Dp.sameAll ((s.trans s3).trans sq) ds xs r) (Dp.sameAll sq es ys h'))⟩⟩
theorem asg_new {te : TE} {g : TG} {rest : TS} {D : Ends} {ds : List PyData} (G : GivesN K te σ H ds) (k : ∀ p Hb xs, Same H Hb → Hb p = none → DpAll K Hb xs ds → g (.ref p) σ (upd Hb p (.lst xs)) (fun σ2 H2 => rest D σ2 H2)) : tSeq (tAsg te g) rest D σ H := G H _ (Same.refl _) k
theorem ret_new {te : TE} {D : Ends} {ds : List PyData} (G : GivesN K te σ H ds) (k : ∀ p Hb xs, Same H Hb → Hb p = none → DpAll K Hb xs ds → D.rt (.ref p) (upd Hb p (.lst xs))) : tRet te D σ H := G H _ (Same.refl _) k
theorem ret_data {te : TE} {D : Ends} {d : PyData} (G : GivesD K te σ H d) (k : ∀ v H', Same H H' → Dp K H' v d → D.rt v H') : tRet te D σ H := G H _ (Same.refl _) k
end
end Gd
set_option Elab.async false
set_option linter.all false
set_option autoImplicit false
set_option maxRecDepth 100000
set_option maxHeartbeats 4000000
namespace K03
open Gd PySem PySem.Spec PyProof.Rows L2 Vb Wd Xd Xo
abbrev s_eq : Stmt := inB (topS 17) 8
theorem sc_eq : FnScope ["self", "other"] ["self", "other"] (defScope s_eq) := ⟨rfl, rfl, rfl, by decide +kernel, rfl, by decide +kernel, by decide +kernel⟩
def kidD (c : Str × Int) : PyData := .tuple [.str c.1, .int c.2]
theorem Kids.dpAll {K : PySem.W.Frag} {H : Hp} : ∀ (ts : List Addr) (cs : List (Str × Int)), ts.length = cs.length → (∀ (i : Nat) (t : Addr) (c : Str × Int), ts[i]? = some t → cs[i]? = some c → Kid H t c.1 c.2) → DpAll K H (ts.map V.ref) (cs.map kidD)
  | [], [], _, _ => .nil
  | t :: ts, c :: cs, l, h => .cons (.tup (.inl (.inl (h 0 t c rfl rfl).at_)) (.cons (.str _) (.cons (.int _) .nil))) (Kids.dpAll ts cs (by simpa using l) fun i t' c' h1 h2 => h (i + 1) t' c' h1 h2)
theorem Kids.dp {K : PySem.W.Frag} {H : Hp} {a : Addr} {ts : List Addr} {cs : List (Str × Int)} (k : Kids H a ts cs) : Dp K H (.ref a) (.tuple (cs.map kidD)) := .tup (.inl (.inl k.at_)) (Kids.dpAll ts cs k.len k.kid)
theorem eqv_kids : ∀ cs ds : List (Str × Int), PyData.eqvAll (cs.map kidD) (ds.map kidD) = decide (cs = ds)
  | [], [] => rfl
  | [], d :: ds => by simp [PyData.eqvAll]
  | c :: cs, [] => by simp [PyData.eqvAll]
  | (n, s) :: cs, (m, t) :: ds => by
    show (PyData.eqv (.tuple [.str n, .int s]) (.tuple [.str m, .int t]) && PyData.eqvAll (cs.map kidD) (ds.map kidD)) = _
    rw [eqv_kids cs ds]
    by_cases e1 : n = m <;> by_cases e2 : s = t <;> by_cases e3 : cs = ds <;> simp [PyData.eqv, PyData.eqvAll, e1, e2, e3]
theorem kids_shaped {H : Hp} {a : Addr} {ts : List Addr} {cs : List (Str × Int)} (k : Kids H a ts cs) : SeqAt.shaped (.tuple (cs.map kidD)) = true := by
  have all : ∀ c ∈ cs, Asc c.1 := fun c hc => by
    obtain ⟨i, hi, e⟩ := List.mem_iff_getElem.mp hc
    have ti : i < ts.length := by rw [k.len]; exact hi
    exact (k.kid i ts[i] c (List.getElem?_eq_getElem ti) (by rw [List.getElem?_eq_getElem hi, e])).plain.2
  have go : ∀ l : List (Str × Int), (∀ c ∈ l, Asc c.1) → PyData.canLayAll0 (l.map kidD) = true ∧ PyData.depthAll (l.map kidD) ≤ 1 := fun l => by
    induction l with
    | nil => exact fun _ => ⟨rfl, Nat.zero_le _⟩
    | cons c l ih =>
      intro h
      obtain ⟨h1, h2⟩ := ih fun z hz => h z (List.mem_cons_of_mem _ hz)
      constructor
      · show (PyData.canLay0 (kidD c) && PyData.canLayAll0 (l.map kidD)) = true
        rw [h1, Bool.and_true]
        show (PyData.canLay0 (.str c.1) && (true && true)) = true
        rw [show PyData.canLay0 (.str c.1) = true from by
          show c.1.cps.all (· < 0x110000) = true
          rw [← Array.all_toList, List.all_eq_true]
          exact fun x hx => decide_eq_true (Nat.lt_trans (h c List.mem_cons_self x hx) (by decide))]
        rfl
      · show max (PyData.depth (kidD c)) (PyData.depthAll (l.map kidD)) ≤ 1
        have e : PyData.depth (kidD c) = 1 := rfl
        omega
  obtain ⟨h1, h2⟩ := go cs all
  show (PyData.canLay0 (.tuple (cs.map kidD)) && decide (PyData.depth (.tuple (cs.map kidD)) ≤ 64)) = true
  rw [show PyData.canLay0 (.tuple (cs.map kidD)) = true from h1, Bool.true_and]
  exact decide_eq_true (by show PyData.depthAll _ + 1 ≤ 64; omega)
/-- what of the class isinstance asks -/
structure FormI (K : PySem.W.Frag) (C : Addr) : Prop where
  ca : PySem.W.findIn K (.ref C) "__class__" = some (some (.builtin "object.__class__"))
  sp : PySem.W.specialIn K (.builtin "object.__class__") "__get__" = some (some (.builtin "getset_descriptor.__get__"))
  tk : PySem.W.takesIn K (.builtin "object.__class__") = some true
  mo : PySem.W.mroIn K C (.type "object") = some true
  yes : PySem.W.kitOne K (.ref C) (.ref C) = some true
  no : ∀ t ∈ ["str", "tuple", "list", "NoneType"], PySem.W.kitOne K (.type t) (.ref C) = some false
/-- the properties -/
structure FormP (P : Program) (w : World) (K : PySem.W.Frag) (mg : Str → Option Value) (base : Heap) (C : Addr) : Prop where
  get : ∀ x ∈ [(("called" : Str), ("_called" : Str)), ("sort_name", "_sort_name"), ("children", "_children")], ∃ (p g : Addr) (fd : FuncData), PropOf K C x.1 p g ∧ FnG P w K mg base 1 g fd ["self"] (spGet C x.2) ∧ Binds K fd ["self"] []
/-- self == other -/
def spEq (K : PySem.W.Frag) (C : Addr) : Sp := fun vs H Q _ => ∃ (a ch : Addr) (n so : Str) (ts : List Addr) (cs : List (Str × Int)) (v : V), vs = [.ref a, v] ∧ FormAt H C a ch n so ts cs ∧
  ((∃ t, t ∈ ["str", "tuple", "list", "NoneType"] ∧ TyX K H v (.type t) ∧ Q (.bl false) H) ∨
    ∃ (b ch' : Addr) (n' so' : Str) (ts' : List Addr) (cs' : List (Str × Int)), v = .ref b ∧ FormAt H C b ch' n' so' ts' cs' ∧ Q (.bl (decide (n = n') && (decide (so = so') && decide (cs = cs')))) H)
section
variable {P : Program} {w : World} {K : PySem.W.Frag} {mg : Str → Option Value} {base : Heap} {C : Addr}
theorem ok_eq {f : Addr} {fd : FuncData} (F : Fun K "__eq__" "Form.__eq__" s_eq f fd) (T : FormC K C) (TI : FormI K C) (TP : FormP P w K mg base C) (gF : mg "Form" = some (.ref C)) (z_isinstance : mg "isinstance" = none) : FnG P w K mg base 3 f fd ["self", "other"] (spEq K C) := by
  obtain ⟨p1, g1, fd1, o1, G1, b1⟩ := TP.get _ (List.mem_cons_self)
  obtain ⟨p2, g2, fd2, o2, G2, b2⟩ := TP.get ("sort_name", "_sort_name") (by simp)
  obtain ⟨p3, g3, fd3, o3, G3, b3⟩ := TP.get ("children", "_children") (by simp)
  refine goes_by F sc_eq (fun vs H Q E h => ?_) (fun cdv A outer s H vs Q E hc hr h => ?_)
  · obtain ⟨a, ch, n, so, ts, cs, v, rfl, _⟩ := h
    rfl
  · obtain ⟨a, ch, n, so, ts, cs, v, rfl, ⟨⟨dx, ha⟩, k⟩, q⟩ := h
    refine ⟨_, pss_one (ps_ret (pe_and (pe_callB call_isi (by rfl) z_isinstance (by decide +kernel) (pa_cons (pv 1) (pa_cons (pe_glob (v := .ref C) (by rfl) gF rfl) pa_nil)))
      (pe_and (pe_cmpR op_eq (pe_propG (n := "called") (pv 0) T.c o1 G1 hc hr b1) (pe_propG (n := "called") (pv 1) T.c o1 G1 hc hr b1) (nomark _))
      (pe_and (pe_cmpR op_eq (pe_propG (n := "sort_name") (pv 0) T.c o2 G2 hc hr b2) (pe_propG (n := "sort_name") (pv 1) T.c o2 G2 hc hr b2) (nomark _))
      (pe_one (pe_cmpR (op_eqD hr.units) (pe_propG (n := "children") (pv 0) T.c o3 G3 hc hr b3) (pe_propG (n := "children") (pv 1) T.c o3 G3 hc hr b3) (nomark _))))))), ?_⟩
    have le1 : ∀ {x y : Str}, decide (V.str x = V.str y) = decide (x = y) := fun {x y} => by
      by_cases e : x = y
      · rw [e, decide_eq_true rfl, decide_eq_true rfl]
      · rw [decide_eq_false e, decide_eq_false fun z => e (V.str.inj z)]
    rcases q with ⟨t, ht, ty, q⟩ | ⟨b, ch', n', so', ts', cs', rfl, ⟨⟨dx', hb⟩, k'⟩, q⟩
    · exact ⟨_, rfl, _, _, _, _, false, rfl, .own C, ty, TI.no t ht, _, rfl, iteF q⟩
    · refine ⟨_, rfl, _, _, _, _, true, rfl, .own C, .base (.ins hb T.c TI.ca TI.sp TI.tk TI.mo), TI.yes, _, rfl, iteT ?_⟩
      refine ⟨_, rfl, a, dx, _, rfl, ha, a, ch, dx, n, so, .str n, rfl, ha, by rfl, _, rfl, b, dx', _, rfl, hb, b, ch', dx', n', so', .str n', rfl, hb, by rfl, rfl, _, rfl, ?_⟩
      rw [le1]
      cases e1 : decide (n = n') with
      | false =>
        rw [e1, Bool.false_and] at q
        exact iteF q
      | true =>
        rw [e1, Bool.true_and] at q
        refine iteT ⟨_, rfl, a, dx, _, rfl, ha, a, ch, dx, n, so, .str so, rfl, ha, by rfl, _, rfl, b, dx', _, rfl, hb, b, ch', dx', n', so', .str so', rfl, hb, by rfl, rfl, _, rfl, ?_⟩
        rw [le1]
        cases e2 : decide (so = so') with
        | false =>
          rw [e2, Bool.false_and] at q
          exact iteF q
        | true =>
          rw [e2, Bool.true_and] at q
          refine iteT ⟨_, rfl, a, dx, _, rfl, ha, a, ch, dx, n, so, .ref ch, rfl, ha, by rfl, _, rfl, b, dx', _, rfl, hb, b, ch', dx', n', so', .ref ch', rfl, hb, by rfl, _, _, k.dp, k'.dp, kids_shaped k, kids_shaped k', ?_⟩
          have e3 : PyData.eqv (.tuple (cs.map kidD)) (.tuple (cs'.map kidD)) = decide (cs = cs') := by rw [← eqv_kids]; simp [PyData.eqv]
          rw [e3]
          exact q
end
end K03
set_option Elab.async false
set_option linter.all false
set_option autoImplicit false
set_option maxRecDepth 100000
set_option maxHeartbeats 4000000
namespace K03
open PySem PySem.Spec PyProof.Rows L2 Vb Wd
def rTup (K : PySem.W.Frag) : List V → Hp → VK → Prop := fun xs H Q => ∃ p ys, xs = [.ref p] ∧ ((SqL K H p ys ∧ ∀ l, H l = none → Q (.ref l) (upd H l (.tup ys))) ∨ (SqT K H p ys ∧ Q (.ref p) H))
theorem cr_tuple {X : Cx} : CallR X (.type "tuple") (rTup X.K) := call_tuple_of
/-- the words of a value: those of a text, none of anything else -/
def wordsV : V → List Str
  | .str z => Txt.split z " "
  | _ => []
def spWords : Sp := fun vs H Q _ => ∃ v, vs = [v] ∧ Judged H v ∧ ∀ p H', Same H H' → H' p = some (.tup ((wordsV v).map V.str)) → Q (.ref p) H'
section
variable {P : Program} {w : World} {K : PySem.W.Frag} {mg : Str → Option Value} {base : Heap}
theorem ok_words_of (D : Df K mg "words_of" s_words_of ["value"]) (z_isinstance : mg "isinstance" = none) (z_str : mg "str" = none) (z_tuple : mg "tuple" = none) : Cg P w K mg base 1 "words_of" spWords := by
  refine D.ok sc_words_of (fun vs H Q E h => ?_) (fun cdv A outer s H vs Q E f hc hr h => ?_)
  · obtain ⟨v, rfl, _⟩ := h
    rfl
  · obtain ⟨v, rfl, j, q⟩ := h
    refine ⟨_, (pss_one (ps_ret (pe_ifExp (pt_val (pe_callB call_isi (by rfl) z_isinstance (by decide +kernel) (pa_cons (pv 0) (pa_cons (pe_bltn (v := .ty "str") (by rfl) z_str (by decide +kernel) rfl) pa_nil))))
      (pe_callTy cr_tuple (by rfl) z_tuple (by decide +kernel) (pa_cons (pe_bm PySem.F.plainAttrs_str PySem.F.slot_str_split PySem.F.type_str_split mt_split (pv 0) (pa_cons pe_str pa_nil)) pa_nil)) (pe_tup pa_nil)))), ?_⟩
    have none_ : ∀ (v : V), wordsV v = [] → (∀ p H', Same H H' → H' p = some (.tup ((wordsV v).map V.str)) → Q (.ref p) H') → tTup tNil (start ["value"] [v]) H Q := fun v e q => by
      rw [e] at q
      exact ⟨by show 0 ≤ sizeLine; decide, fun p np => q p _ (same_new np) upd_same⟩
    rcases kinds (K := K) j with ⟨i, rfl, hi⟩ | ⟨b, rfl⟩ | ⟨z, rfl, hz, az⟩ | ⟨T, ty, k1, k2, k3, e1, e2, e3⟩
    · exact ⟨_, rfl, _, _, _, _, false, rfl, .ty _, .base (.int i), kit_ty ki_is, _, rfl, iteF (none_ _ rfl q)⟩
    · exact ⟨_, rfl, _, _, _, _, false, rfl, .ty _, .base (.bl b), kit_ty ki_bs, _, rfl, iteF (none_ _ rfl q)⟩
    · refine ⟨_, rfl, _, _, _, _, true, rfl, .ty _, .base (.str z), kit_ty ki_ss, _, rfl, iteT ?_⟩
      refine ⟨_, rfl, rfl, z, _, rfl, rfl, by decide +kernel, Nat.le_trans (show z.length + 2 ≤ 2000 by omega) (by decide), fun p np => ⟨p, _, rfl, .inl ⟨.inl (.inl upd_same), fun l nl => q l _ ((same_new np).trans (same_new nl)) upd_same⟩⟩⟩
    · have w0 : wordsV v = [] := by
        cases v with
        | str z => 
          cases ty with
          | base h =>
            cases h
            rw [ki_ss] at k3
            cases k3
        | _ => rfl
      exact ⟨_, rfl, _, _, _, _, false, rfl, .ty _, ty, kit_ty k3, _, rfl, iteF (none_ _ w0 q)⟩
end
end K03
set_option Elab.async false
set_option linter.all false
set_option autoImplicit false
set_option maxRecDepth 100000
set_option maxHeartbeats 4000000
namespace K03
open PySem PySem.Spec PyProof.Rows L2 Vb Wd
/-! ### the parts of a split text -/
theorem mem_spl (S : List Nat) : ∀ (x : List Nat) (k : Nat) (acc p : List Nat), p ∈ TL.spl S k acc x → p.length ≤ acc.length + x.length ∧ ∀ c ∈ p, c ∈ acc ∨ c ∈ x
  | [], k, acc, p, h => by
    rw [TL.spl_nil] at h
    cases List.mem_singleton.mp h
    exact ⟨Nat.le_add_right _ _, fun c hc => .inl hc⟩
  | c :: r, 0, acc, p, h => by
    cases e : TL.pre S (c :: r) with
    | true =>
      rw [TL.spl_hit e] at h
      rcases List.mem_cons.mp h with rfl | h
      · exact ⟨Nat.le_add_right _ _, fun c hc => .inl hc⟩
      · obtain ⟨l, m⟩ := mem_spl S r _ [] p h
        refine ⟨by simp only [List.length_nil, List.length_cons] at l ⊢; omega, fun d hd => ?_⟩
        rcases m d hd with z | z
        · cases z
        · exact .inr (List.mem_cons_of_mem _ z)
    | false =>
      rw [TL.spl_miss e] at h
      obtain ⟨l, m⟩ := mem_spl S r 0 (acc ++ [c]) p h
      refine ⟨by simp only [List.length_append, List.length_cons, List.length_nil] at l ⊢; omega, fun d hd => ?_⟩
      rcases m d hd with z | z
      · rcases List.mem_append.mp z with z | z
        · exact .inl z
        · cases List.mem_singleton.mp z
          exact .inr List.mem_cons_self
      · exact .inr (List.mem_cons_of_mem _ z)
  | c :: r, k + 1, acc, p, h => by
    obtain ⟨l, m⟩ := mem_spl S r k acc p (show p ∈ TL.spl S k acc r from h)
    exact ⟨by simp only [List.length_cons]; omega, fun d hd => (m d hd).imp id (List.mem_cons_of_mem _)⟩
theorem len_spl (S : List Nat) : ∀ (x : List Nat) (k : Nat) (acc : List Nat), (TL.spl S k acc x).length ≤ x.length + 1
  | [], k, acc => by rw [TL.spl_nil]; exact Nat.le_refl _
  | c :: r, 0, acc => by
    cases e : TL.pre S (c :: r) with
    | true =>
      rw [TL.spl_hit e]
      have := len_spl S r (S.length - 1) []
      simp only [List.length_cons]
      omega
    | false =>
      rw [TL.spl_miss e]
      have := len_spl S r 0 (acc ++ [c])
      simp only [List.length_cons]
      omega
  | c :: r, k + 1, acc => by
    have := len_spl S r k acc
    show (TL.spl S k acc r).length ≤ _
    simp only [List.length_cons]
    omega
theorem split_spl1 (z : Str) : (Txt.split z " ").map TL.tl = TL.spl [32] 0 [] (TL.tl z) := TL.split_spl z " " (by decide +kernel) (TL.kind_ok (by decide +kernel))
theorem split_plain {z : Str} {n : Nat} (hz : z.length ≤ n) (a : Asc z) : (∀ y ∈ Txt.split z " ", y.length ≤ n ∧ Asc y) ∧ (Txt.split z " ").length ≤ z.length + 1 := by
  have e := split_spl1 z
  have el : (TL.tl z).length = z.length := by simp [TL.tl, Str.length]
  constructor
  · intro y hy
    have my : TL.tl y ∈ TL.spl [32] 0 [] (TL.tl z) := by
      rw [← e]
      exact List.mem_map.mpr ⟨y, hy, rfl⟩
    obtain ⟨l, m⟩ := mem_spl _ _ _ _ _ my
    have ey : (TL.tl y).length = y.length := by simp [TL.tl, Str.length]
    refine ⟨by simp only [List.length_nil] at l; omega, fun c hc => ?_⟩
    rcases m c hc with z' | z'
    · cases z'
    · exact a c z'
  · have l := len_spl [32] (TL.tl z) 0 []
    rw [← e, List.length_map] at l
    omega
/-! ### the child that a word tells -/
def initS (z : Str) : Str := cutS z none (some (-1))
def lastC (z : Str) : Option Nat := z.cps.toList.getLast?
def digC (z : Str) : Bool := match lastC z with
  | some c => decide (48 ≤ c) && decide (c ≤ 51)
  | none => false
def childB (z : Str) : Bool := isNam (.str (initS z)) && digC z
def childV (z : Str) : Str × Int := (initS z, (((lastC z).getD 48 : Nat) : Int) - 48)
theorem last_of {z : Str} (h : 1 ≤ z.length) : ∃ l c, z.cps.toList = l ++ [c] ∧ lastC z = some c := by
  have el : z.cps.toList.length = z.length := by simp [Str.length]
  rcases List.eq_nil_or_concat z.cps.toList with e | ⟨l, c, e⟩
  · rw [e] at el
    simp at el
    omega
  · rw [List.concat_eq_append] at e
    exact ⟨l, c, e, by unfold lastC; rw [e, List.getLast?_append]; rfl⟩
theorem init_len (z : Str) : (initS z).length ≤ z.length := cutS_length _ _ _
theorem nam_len {z : Str} (h : isNam (.str z) = true) : 1 ≤ z.length ∧ z.length ≤ 8 ∧ z.cps.toList.all low = true := by
  rw [isNam_str] at h
  simp only [Bool.and_eq_true, decide_eq_true_eq] at h
  exact ⟨h.1.1, h.1.2, h.2⟩
theorem le_one (a b : Nat) : (!decide ([b] < [a])) = decide (a ≤ b) := by
  rw [one_lt]
  by_cases h : b < a
  · rw [decide_eq_true h, decide_eq_false (by omega)]
    rfl
  · rw [decide_eq_false h, decide_eq_true (by omega)]
    rfl
def spCW : Sp := fun vs H Q _ => ∃ z : Str, vs = [.str z] ∧ z.length ≤ 1000 ∧ Asc z ∧ ∀ H', Same H H' → Q (.bl (childB z)) H'
section
variable {P : Program} {w : World} {K : PySem.W.Frag} {mg : Str → Option Value} {base : Heap}
theorem ok_is_child_word {t : Tok} (D : Df K mg "_is_child_word" s_is_child_word ["word"]) (G_is_name : Cg P w K mg base 1 "is_name" (spOf isNam)) (z_str : mg "str" = none) (c_MAX_STEP : mg "MAX_STEP" = some (.int 3 t)) : Cg P w K mg base 2 "_is_child_word" spCW := by
  refine D.ok sc_is_child_word (fun vs H Q E h => ?_) (fun cdv A outer s H vs Q E f hc hr h => ?_)
  · obtain ⟨z, rfl, _⟩ := h
    rfl
  · obtain ⟨z, rfl, hz, az, q⟩ := h
    refine ⟨_, (pss_one (ps_ret (pe_and (pe_cg G_is_name hc hr (by rfl) (pa_cons (pe_slice sl_str (pv 0) po_none (po_some (pe_un un_neg pe_int))) pa_nil)) (pe_one (pe_chain op_le_str op_le_str pe_str (pe_ix ix_str (pv 0) (pe_un un_neg pe_int) (fun _ _ => rfl)) (pe_callTy call_str_int (by rfl) z_str (by decide +kernel) (pa_cons (pe_glob (v := .int 3) rfl c_MAX_STEP ⟨_, rfl⟩) pa_nil))))))), ?_⟩
    have fz : z.length ≤ sizeLine := fits_million (by omega)
    refine ⟨_, rfl, _, rfl, ⟨_, rfl, z, rfl, fz, .str (initS z), rfl, ⟨Nat.le_trans (init_len z) hz, asc_cut az _ _⟩, fun H1 s1 => ⟨_, rfl, ?_⟩⟩⟩
    have q' : Q (.bl (isNam (.str (initS z)) && digC z)) H1 := q H1 s1
    cases e : isNam (.str (initS z)) with
    | false =>
      rw [e, Bool.false_and] at q'
      exact iteF q'
    | true =>
      rw [e, Bool.true_and] at q'
      obtain ⟨l, c, el, ec⟩ := last_of (z := z) (Nat.le_trans (nam_len e).1 (init_len z))
      have at_ : atI z.cps.toList (-1) = some c := by
        rw [el]
        exact atI_last l c
      have dg : digC z = (decide (48 ≤ c) && decide (c ≤ 51)) := by
        unfold digC
        rw [ec]
      rw [dg] at q'
      refine iteT ⟨_, rfl, _, rfl, z, _, c, rfl, rfl, fz, at_, _, _, rfl, rfl, _, rfl, ?_⟩
      show if (!decide ([c] < [48])) = true then _ else _
      rw [le_one]
      cases e1 : decide (48 ≤ c) with
      | false =>
        rw [e1, Bool.false_and] at q'
        exact iteF q'
      | true =>
        rw [e1, Bool.true_and] at q'
        refine iteT ⟨_, rfl, by decide, _, _, rfl, rfl, ?_⟩
        show Q (.bl (!decide ([51] < [c]))) H1
        rw [le_one]
        exact q'
end
end K03
set_option Elab.async false
set_option linter.all false
set_option autoImplicit false
set_option maxRecDepth 100000
set_option maxHeartbeats 4000000
namespace K03
open PySem PySem.Spec PyProof.Rows L2 Vb Wd
/-! ### lines of forms -/
def formB (ws : List Str) : Bool := decide (5 ≤ ws.length) && decide (ws.length ≤ 7) && decide (ws.getD 0 "" = "form") && isNam (.str (ws.getD 1 "")) && isNam (.str (ws.getD 2 "")) && (ws.drop 3).all childB
def Plain (ws : List Str) : Prop := ∀ y ∈ ws, y.length ≤ 1000 ∧ Asc y
theorem cut3 {α : Type} (f : α → V) (ws : List α) : cutV (ws.map f) (some 3) none = (ws.drop 3).map f := by
  unfold cutV
  have e : HT.sIx (ws.map f).length 0 (some 3) = min 3 (ws.map f).length := HT.sIx_nat _ _ 3
  rw [e, HT.sIx_none, List.length_map]
  by_cases h : ws.length ≤ 3
  · rw [Nat.min_eq_right h, List.drop_of_length_le (by rw [List.length_map]; exact Nat.le_refl _), List.drop_of_length_le h, List.take_nil]
    rfl
  · rw [Nat.min_eq_left (by omega), List.take_of_length_le (by rw [List.length_drop, List.length_map]; exact Nat.le_refl _), List.map_drop]
theorem at_str {ws : List Str} {j : Nat} (h : j < ws.length) : atI (ws.map V.str) (j : Int) = some (.str (ws.getD j "")) := by
  refine atI_nat ?_
  rw [List.getElem?_map, List.getElem?_eq_getElem h, List.getD_eq_getElem?_getD, List.getElem?_eq_getElem h]
  rfl
theorem getD_mem {ws : List Str} {j : Nat} (h : j < ws.length) : ws.getD j "" ∈ ws := by
  rw [List.getD_eq_getElem?_getD, List.getElem?_eq_getElem h]
  exact List.getElem_mem h
def spFL (K : PySem.W.Frag) : Sp := fun vs H Q _ => ∃ (p : Addr) (ws : List Str), vs = [.ref p] ∧ H p = some (.tup (ws.map V.str)) ∧ Plain ws ∧ ws.length ≤ 100000 ∧ ∀ H', Same H H' → Q (.bl (formB ws)) H'
section
variable {P : Program} {w : World} {K : PySem.W.Frag} {mg : Str → Option Value} {base : Heap}
theorem ok_is_form_line {tk : Tok} (D : Df K mg "_is_form_line" s_is_form_line ["words"]) (G_is_name : Cg P w K mg base 1 "is_name" (spOf isNam)) (G_is_child_word : Cg P w K mg base 2 "_is_child_word" spCW) (z_len : mg "len" = none) (z_all : mg "all" = none) (c_MAX_CHILDREN : mg "MAX_CHILDREN" = some (.int 4 tk)) : Cg P w K mg base 3 "_is_form_line" (spFL K) := by
  refine D.ok sc_is_form_line (fun vs H Q E h => ?_) (fun cdv A outer s H vs Q E f hc hr h => ?_)
  · obtain ⟨p, ws, rfl, _⟩ := h
    rfl
  · obtain ⟨p, ws, rfl, hp, pl, few, q⟩ := h
    refine ⟨_, (pss_cons (ps_if (PW.pt (pw_or (pt_not (pt_chain op_le op_le pe_int (pe_callB call_len_seq (by rfl) z_len PySem.boot_len (pa_cons (pv 0) pa_nil)) (pe_op op_add pe_int (pe_glob (v := .int 4) rfl c_MAX_CHILDREN ⟨_, rfl⟩)))) (pw_or1 (pt_cmpR op_ne (pe_ix (ix_tup : IxR _ (rIxT K)) (pv 0) pe_int (fun _ _ => rfl)) pe_str (nomark _)))))
      (pss_one (ps_ret pe_bl))
      pss_nil)
      (pss_one (ps_ret (pe_and (pe_cg G_is_name hc hr (by rfl) (pa_cons (pe_ix (ix_tup : IxR _ (rIxT K)) (pv 0) pe_int (fun _ _ => rfl)) pa_nil)) (pe_and (pe_cg G_is_name hc hr (by rfl) (pa_cons (pe_ix (ix_tup : IxR _ (rIxT K)) (pv 0) pe_int (fun _ _ => rfl)) pa_nil)) (pe_one (pe_callB (cr_all rfl) (by rfl) z_all (by decide +kernel) (pa_cons (pe_lc (own := [("word", 1)]) (g := gName 1) (by rfl) sc_is_form_line.nd (pi_tup (pe_slice (sl_tup : SlR _ (rSlT K)) (pv 0) (po_some pe_int) po_none)) (blkOk_by (own := [("word", 1)]) (N := ["words", "word"]) (sc := defScope s_is_form_line) (by decide +kernel)) (fun _ _ _ _ _ => pg_name (i := 1) sc_is_form_line.nd rfl (Or.inl rfl)) (fun _ _ _ _ _ => pts_nil) (fun _ _ _ _ _ => (pe_cg G_is_child_word hc hr (by rfl) (pa_cons (pv 1) pa_nil)))) pa_nil)))))))), ?_⟩
    have hT : ∀ {H' : Hp}, Same H H' → SqT K H' p (ws.map V.str) := fun s => .inl (.inl (s _ _ hp))
    have len : (ws.map V.str).length = ws.length := List.length_map ..
    refine ⟨_, rfl, p, _, rfl, .inr (hT (Same.refl H)), ?_⟩
    rw [len]
    refine ⟨_, _, rfl, rfl, _, rfl, ?_⟩
    have no : formB ws = false → Q (.bl false) H := fun e => e ▸ q H (Same.refl H)
    by_cases h5 : 5 ≤ ws.length
    · refine ite2 (fun _ => ?_) (fun n => absurd (decide_eq_true (show (5 : Int) ≤ (ws.length : Int) by omega)) n)
      refine ⟨_, _, rfl, rfl, _, _, rfl, rfl, _, rfl, ?_⟩
      by_cases h7 : ws.length ≤ 7
      · refine ite2 (fun n => ?_) (fun _ => ?_)
        · rw [decide_eq_true (show (ws.length : Int) ≤ 3 + 4 by omega)] at n
          cases n
        have a0 : atI (ws.map V.str) 0 = some (.str (ws.getD 0 "")) := at_str (j := 0) (by omega)
        have a1 : atI (ws.map V.str) 1 = some (.str (ws.getD 1 "")) := at_str (j := 1) (by omega)
        have a2 : atI (ws.map V.str) 2 = some (.str (ws.getD 2 "")) := at_str (j := 2) (by omega)
        refine ⟨_, rfl, p, _, _, _, rfl, rfl, hT (Same.refl H), a0, rfl, _, rfl, ?_⟩
        have q' : ∀ H', Same H H' → Q (.bl (decide (ws.getD 0 "" = "form") && (isNam (.str (ws.getD 1 "")) && (isNam (.str (ws.getD 2 "")) && (ws.drop 3).all childB)))) H' := fun H' s' => by
          have z := q H' s'
          unfold formB at z
          rw [decide_eq_true h5, decide_eq_true h7] at z
          simpa only [Bool.true_and, Bool.and_assoc] using z
        by_cases e0 : ws.getD 0 "" = "form"
        · rw [decide_eq_true (show V.str (ws.getD 0 "") = V.str "form" from congrArg V.str e0)]
          rw [decide_eq_true e0] at q'
          refine iteF ?_
          have m1 := pl _ (getD_mem (ws := ws) (j := 1) (by omega))
          have m2 := pl _ (getD_mem (ws := ws) (j := 2) (by omega))
          refine ⟨_, rfl, p, _, _, _, rfl, rfl, hT (Same.refl H), a1, _, rfl, m1, fun H1 s1 => ⟨_, rfl, ?_⟩⟩
          have q1 := q' H1 s1
          cases e1 : isNam (.str (ws.getD 1 "")) with
          | false =>
            rw [e1] at q1
            exact iteF q1
          | true =>
            refine iteT ⟨_, rfl, p, _, _, _, rfl, rfl, hT s1, a2, _, rfl, m2, fun H2 s2 => ⟨_, rfl, ?_⟩⟩
            have q2 := q' H2 (s1.trans s2)
            rw [e1] at q2
            cases e2 : isNam (.str (ws.getD 2 "")) with
            | false =>
              rw [e2] at q2
              exact iteF q2
            | true =>
              have s12 := s1.trans s2
              refine iteT ⟨_, rfl, _, rfl, p, _, rfl, hT s12, ?_, fun t nt => ⟨t, rfl, ⟨_, .inl (.inl upd_same)⟩, fun D nD => ?_⟩⟩
              · intro z
                have e : HT.sIx (ws.map V.str).length 0 (some 3) = min 3 (ws.map V.str).length := HT.sIx_nat _ _ 3
                rw [e, len] at z
                have := z.1
                omega
              · rw [cut3] at nD ⊢
                have st := same_new (o := .tup ((ws.drop 3).map V.str)) nt
                have et : ∀ {H' : Hp}, Same (upd H2 t (.tup ((ws.drop 3).map V.str))) H' → SqT K H' t ((ws.drop 3).map V.str) := fun s' => .inl (.inl (s' _ _ upd_same))
                refine lc_tup (K := K) (a := t) (xs := (ws.drop 3).map V.str) (fun i H' => Same (upd H2 t (.tup ((ws.drop 3).map V.str))) H' ∧ H' D = some (.lst ((((ws.drop 3).take i).map childB).map V.bl))) ⟨same_put nD (Same.refl _), upd_same⟩ (fun i H' _ h => et h.1) (fun i x H3 hx h => ?_) (fun H3 h => ?_)
                · obtain ⟨s3, e3⟩ := h
                  rw [List.getElem?_map] at hx
                  obtain ⟨y, hy, rfl⟩ := Option.map_eq_some_iff.mp hx
                  have my := pl y (List.mem_of_mem_drop (List.mem_of_getElem? hy))
                  have il : i < (ws.drop 3).length := (List.getElem?_eq_some_iff.mp hy).1
                  refine ⟨rfl, _, rfl, y, rfl, my.1, my.2, fun H4 s4 => ⟨_, s4 _ _ e3, ?_, same_put nD (s3.trans s4), ?_⟩⟩
                  · rw [List.length_map, List.length_map, List.length_take]
                    rw [List.length_drop] at il
                    exact Nat.lt_of_le_of_lt (show _ ≤ 100000 by omega) (by decide)
                  · rw [upd_same, List.take_add_one, hy, List.map_append, List.map_append]
                    rfl
                · obtain ⟨s3, e3⟩ := h
                  rw [List.length_map, List.take_of_length_le (Nat.le_refl _)] at e3
                  refine ⟨D, _, rfl, .inl (.inl e3), ?_⟩
                  have q3 := q' H3 ((s12.trans st).trans s3)
                  rw [e1, e2] at q3
                  have ea : ((ws.drop 3).map childB).all id = (ws.drop 3).all childB := by rw [List.all_map]; rfl
                  rw [ea]
                  exact q3
        · have e0' : decide (V.str (ws.getD 0 "") = V.str "form") = false := decide_eq_false fun z => e0 (V.str.inj z)
          rw [e0']
          rw [decide_eq_false e0] at q'
          exact iteT (q' H (Same.refl H))
      · refine ite2 (fun _ => no ?_) (fun n => ?_)
        · unfold formB
          rw [decide_eq_false h7]
          simp
        · rw [decide_eq_false (show ¬ (ws.length : Int) ≤ 3 + 4 by omega)] at n
          exact absurd rfl n
    · refine ite2 (fun n => ?_) (fun _ => ⟨_, rfl, iteT (no ?_)⟩)
      · have := of_decide_eq_true n
        omega
      · unfold formB
        rw [decide_eq_false h5]
        simp
end
end K03
set_option Elab.async false
set_option linter.all false
set_option autoImplicit false
set_option maxRecDepth 100000
set_option maxHeartbeats 4000000
/-! Xq: == of two objects of one own class by its __eq__, whatever it answers, in calm room. -/
namespace Xq
open PySem PySem.Spec PyProof.Rows L2 Vb
def rEqO (C : Addr) (sp : Sp) : R2 := fun x y H Q => ∃ (a b dx dy : Addr) (fs gs : List (Str × V)), x = .ref a ∧ y = .ref b ∧ H a = some (.ins C dx fs) ∧ H b = some (.ins C dy gs) ∧ sp [.ref a, .ref b] H (fun v H' => ∃ t, v = .bl t ∧ Q (.bl t) H') E0
section
variable {X : Cx} {k : Nat} {f C : Addr} {fd : FuncData} {ps : List Str} {sp : Sp}
theorem op_eqO (F : FnG X.prog X.w X.K X.mg X.base k f fd ps sp) (hs : PySem.W.findIn X.K (.ref C) "__eq__" = some (some (.ref f))) (hf : PySem.W.isFn X.K (.ref f) = true) (hb : Binds X.K fd ps []) (hc : Calm X.A) (hr : Room k X.A) : OpR X (compareOp .Eq) (rEqO C sp) := by
  intro pins s σ H x y v u Q I rx ry h
  obtain ⟨a, b, dx, dy, fs, gs, rfl, rfl, ha, hb', hq⟩ := h
  cases rx
  cases ry
  obtain ⟨mA, J, _⟩ := ins_get I.hok ha
  obtain ⟨mB, J', _⟩ := ins_get I.hok hb'
  obtain ⟨od, J, _⟩ := J.look
  obtain ⟨od', J', _⟩ := J'.look
  obtain ⟨m, hF⟩ := I.fr
  show wpAny (model X.prog X.w) X.A (richCompare .Eq (.ref a) (.ref b)) (EP X pins σ Q) X.xe s
  refine PySem.W.cmp_K (op := .Eq) (tb := .ref C) hr.units0 hF I.ok.mod.kin J J'.type (by simp [PySem.W.notFirst]) hs hf ?_
  have hl := F.count _ _ _ _ hq
  have bb := hb s [.ref a, .ref b] I.kIn (by rw [List.append_nil]; exact hl)
  rw [List.append_nil] at bb
  refine wpAny_call (codeAny_mono (F.goes X.A X.stack s H ⟨[.ref a, .ref b], []⟩ [.ref a, .ref b] [.ref a, .ref b] _ E0 hc hr I.env0 bb (.cons rfl (.cons rfl .nil)) hq) fun r s' hq' => ?_)
  match r, hq' with
  | .error er, hq' => exact False.elim hq'
  | .ok (.ret w), hq' =>
    obtain ⟨z, H', I', rz, t, ez, q⟩ := I.after hq'
    subst ez
    cases (show w = Value.bool t from rz)
    exact ⟨.bl t, H', I', rfl, q⟩
  | .ok .next, hq' => exact hq'.elim
  | .ok .brk, hq' => exact hq'.elim
  | .ok .cont, hq' => exact hq'.elim
end
end Xq
set_option Elab.async false
set_option linter.all false
set_option autoImplicit false
set_option maxRecDepth 100000
set_option maxHeartbeats 4000000
/-! Xv: the special methods of own classes in calm room: len, str, ==, != and o[i]; class methods; a class held by a local. -/
namespace Xv
open PySem PySem.Spec PyProof.Rows L2 Vb Xd Xo
section
variable {X : Cx} {k : Nat} {f C : Addr} {fd : FuncData} {ps : List Str} {sp : Sp} {E : XK} {W : WX} {pins : List (Addr × Obj)} {σ : L2.St} {H : Hp} {s : Shared} {Q : VK} {us : List Value} {vs : List V}
/-- a def that lets nothing out, entered n builtins deeper -/
theorem run_deep {A : Around} (hA : A.frames = X.A.frames) (F : FnG X.prog X.w X.K X.mg X.base k f fd ps sp) (hc : Calm A) (hr : Room k A) (hb : Binds X.K fd ps []) (I : Inv X pins σ H s) (r : Vals vs us) (h : sp vs H Q E0) : wpAny (model X.prog X.w) A (call (.ref f) us) (EP X pins σ Q) X.xe s := by
  have hl : us.length = ps.length := r.length ▸ F.count _ _ _ _ h
  have b := hb s us I.kIn (by rw [List.append_nil]; exact hl)
  rw [List.append_nil] at b
  have e0 : Env0 X.prog X.w X.K X.mg X.base A X.stack s H := by
    have e := I.env0
    exact ⟨by rw [hA]; exact e.frames, e.mod, e.bs, e.bsz, e.funs, e.frf, e.hok, e.bare⟩
  refine wpAny_call (codeAny_mono (F.goes A X.stack s H ⟨us, []⟩ us vs Q E0 hc hr e0 b r h) fun y s' hq => ?_)
  match y, hq with
  | .error er, hq => exact False.elim hq
  | .ok (.ret u), hq => exact I.after hq
  | .ok .next, hq => exact hq.elim
  | .ok .brk, hq => exact hq.elim
  | .ok .cont, hq => exact hq.elim
/-- .. that may let an error out -/
theorem run_deepE {A : Around} (hA : A.frames = X.A.frames) (F : FnE X.prog X.w X.K X.mg X.base k f fd ps sp) (hc : Calm A) (hr : Room k A) (hb : Binds X.K fd ps []) (tk : Takes X W) (hW : ∀ cls d σ H, E cls d H → W cls d σ H) (I : Inv X pins σ H s) (r : Vals vs us) (h : sp vs H Q E) :
    wpAny (model X.prog X.w) A (call (.ref f) us) (EP X pins σ Q) X.xe s := by
  have hl : us.length = ps.length := r.length ▸ F.count _ _ _ _ h
  have b := hb s us I.kIn (by rw [List.append_nil]; exact hl)
  rw [List.append_nil] at b
  have e0 : Env0 X.prog X.w X.K X.mg X.base A X.stack s H := by
    have e := I.env0
    exact ⟨by rw [hA]; exact e.frames, e.mod, e.bs, e.bsz, e.funs, e.frf, e.hok, e.bare⟩
  refine wpAny_call (codeAny_mono (F.goes A X.stack s H ⟨us, []⟩ us vs Q E hc hr e0 b r h) fun y s' hq => ?_)
  match y, hq with
  | .error er, hq => exact passes_call tk hW pins σ H s er s' I hq
  | .ok (.ret u), hq => exact I.after hq
  | .ok .next, hq => exact hq.elim
  | .ok .brk, hq => exact hq.elim
  | .ok .cont, hq => exact hq.elim
end
section
variable {X : Cx} {k : Nat} {f C : Addr} {fd : FuncData} {ps : List Str} {sp : Sp} {E : XK} {W : WX}
/-- len(o) -/
def rLenO (C : Addr) (sp : Sp) : List V → Hp → VK → Prop := fun xs H Q => ∃ a dx fs, xs = [.ref a] ∧ H a = some (.ins C dx fs) ∧ sp [.ref a] H (fun v H' => ∃ n : Int, v = .int n ∧ 0 ≤ n ∧ n < 2 ^ 63 ∧ Q (.int n) H') E0
theorem call_lenO (F : FnG X.prog X.w X.K X.mg X.base k f fd ps sp) (hs : PySem.W.findIn X.K (.ref C) "__len__" = some (some (.ref f))) (hf : PySem.W.isFn X.K (.ref f) = true) (hb : Binds X.K fd ps []) (hc : Calm X.A) (hr : Room (k + 1) X.A) : CallR X (.builtin "len") (rLenO C sp) := by
  intro pins s σ H xs us Q I r h
  obtain ⟨a, dx, fs, rfl, ha, hq⟩ := h
  obtain ⟨u, rfl, r1⟩ := vals1 r
  cases (show u = Value.ref a from r1)
  obtain ⟨mA, J, _⟩ := ins_get I.hok ha
  obtain ⟨od, J, _⟩ := J.look
  obtain ⟨m, hF⟩ := I.fr
  refine PySem.W.len_K hF I.ok.mod.kin J hs hf (thn (run_deep (vs := [.ref a]) rfl F hc hr.in1 hb I (.cons rfl .nil) hq) fun v s' hv => ?_)
  obtain ⟨z, H', I', rz, n, ez, n0, n1, q⟩ := hv
  subst ez
  obtain ⟨t, rfl⟩ := (show ∃ t, v = Value.int n t from rz)
  exact ⟨⟨n0, n1⟩, .int n, H', I'.tok _, ⟨_, rfl⟩, q⟩
/-- str(o) -/
def rStrO (C : Addr) (sp : Sp) : List V → Hp → VK → Prop := fun xs H Q => ∃ a dx fs, xs = [.ref a] ∧ H a = some (.ins C dx fs) ∧ sp [.ref a] H (fun v H' => ∃ z : Str, v = .str z ∧ Q (.str z) H') E0
theorem call_strO (F : FnG X.prog X.w X.K X.mg X.base k f fd ps sp) (hs : PySem.W.findIn X.K (.ref C) "__str__" = some (some (.ref f))) (hf : PySem.W.isFn X.K (.ref f) = true) (hb : Binds X.K fd ps []) (hc : Calm X.A) (hr : Room (k + 2) X.A) : CallR X (.type "str") (rStrO C sp) := by
  intro pins s σ H xs us Q I r h
  obtain ⟨a, dx, fs, rfl, ha, hq⟩ := h
  obtain ⟨u, rfl, r1⟩ := vals1 r
  cases (show u = Value.ref a from r1)
  obtain ⟨mA, J, _⟩ := ins_get I.hok ha
  obtain ⟨od, J, _⟩ := J.look
  have hr2 : Room k X.A.in1.in1 := (show Room (k + 1) X.A.in1 from hr.in1).in1
  refine PySem.W.kso_call hr2.units0 I.kIn J hs hf (thn (run_deep (vs := [.ref a]) rfl F hc hr2 hb I (.cons rfl .nil) hq) fun v s' hv => ?_)
  obtain ⟨z, H', I', rz, y, ez, q⟩ := hv
  subst ez
  obtain ⟨t, rfl⟩ := (show ∃ t, v = Value.str y t from rz)
  exact ⟨.str y, H', I', ⟨_, rfl⟩, q⟩
/-- o == v, v of any known kind -/
def rEqA (K : PySem.W.Frag) (C : Addr) (sp : Sp) : R2 := fun x y H Q => ∃ (a dx : Addr) (fs : List (Str × V)) (tb : Value), x = .ref a ∧ H a = some (.ins C dx fs) ∧ TyX K H y tb ∧ PySem.W.notFirst K C tb = true ∧ sp [.ref a, y] H (fun v H' => ∃ t, v = .bl t ∧ Q (.bl t) H') E0
theorem looks_ty {X : Cx} {pins : List (Addr × Obj)} {σ : L2.St} {H : Hp} {s : Shared} {x : V} {u t : Value} (I : Inv X pins σ H s) (rx : RelV x u) (ty : TyX X.K H x t) : PySem.W.Looks (model X.prog X.w) s.heap (typeOf u) t := by
  obtain ⟨P, Z, p, _⟩ := kit_of I rx ty
  exact Z.ty _ _ I.kIn p
theorem op_eqA (F : FnG X.prog X.w X.K X.mg X.base k f fd ps sp) (hs : PySem.W.findIn X.K (.ref C) "__eq__" = some (some (.ref f))) (hf : PySem.W.isFn X.K (.ref f) = true) (hb : Binds X.K fd ps []) (hc : Calm X.A) (hr : Room k X.A) : OpR X (compareOp .Eq) (rEqA X.K C sp) := by
  intro pins s σ H x y v u Q I rx ry h
  obtain ⟨a, dx, fs, tb, rfl, ha, ty, nf, hq⟩ := h
  cases rx
  obtain ⟨mA, J, _⟩ := ins_get I.hok ha
  obtain ⟨od, J, _⟩ := J.look
  obtain ⟨m, hF⟩ := I.fr
  show wpAny (model X.prog X.w) X.A (richCompare .Eq (.ref a) u) (EP X pins σ Q) X.xe s
  refine PySem.W.cmp_K (op := .Eq) (tb := tb) hr.units0 hF I.ok.mod.kin J (looks_ty I ry ty) nf hs hf (thn (run_deep (vs := [.ref a, y]) rfl F hc hr hb I (.cons rfl (.cons ry .nil)) hq) fun v s' hv => ?_)
  obtain ⟨z, H', I', rz, t, ez, q⟩ := hv
  subst ez
  cases (show v = Value.bool t from rz)
  exact ⟨.bl t, H', I', rfl, q⟩
end
/-! ### != of two objects whose class has an own == and no own != -/
open Builtin in
theorem ifBoundB {M : Model} {A : Around} {E : Value → Shared → Prop} {s : Shared} {K : PySem.W.Frag} {x C : Addr} {ox : Obj} {od : Option Obj} {name : Str} {id : String} {args : List Value} {Q : Option Value → Shared → Prop} (KX : K.In s.heap) (J : PySem.W.InstAt s.heap x ox C od)
    (hs : PySem.W.findIn K (.ref C) name = some (some (.builtin id))) (hb : ∀ self, bindSpecial (.builtin id) self = pure (.builtin id, [self])) (h : wpAny M A (call (.builtin id) (.ref x :: args)) (fun v => Q (some v)) E s) : wpAny M A (callSpecialIfBound? (.ref x) name args) Q E s := by
  unfold callSpecialIfBound? bindSpecialIfBound?
  have done_ : wpAny M A (call (.builtin id) ([.ref x] ++ args) >>= fun v => pure (some v)) Q E s := wpAny_bind (thn h fun v s' z => wpAny_pure z)
  refine wpAny_holding (wpAny_bind (wpAny_bind (wpAny_bind (J.type.here ((PySem.W.looks_findIn KX hs).here (wpAny_bind (wpAny_askSetting (wpAny_ite ?_))))))))
  have bd : PySem.W.Looks M s.heap (bindSpecial (.builtin id) (.ref x)) (.builtin id, [.ref x]) := PySem.W.Looks.of_pure (hb _)
  split
  · exact wpAny_bind (bd.here (wpAny_pure done_))
  · exact wpAny_tryCatch (wpAny_bind (bd.here (wpAny_pure done_)))
open Builtin in
theorem ne_in {P : Program} {w : World} {A : Around} {E : Value → Shared → Prop} {s : Shared} {K : PySem.W.Frag} {x C f : Addr} {b : Value} {ox : Obj} {od : Option Obj} {Q : PySem.Fin → Shared → Prop} (hu : A.units < cLine) (KX : K.In s.heap) (J : PySem.W.InstAt s.heap x ox C od)
    (he : PySem.W.findIn K (.ref C) "__eq__" = some (some (.ref f))) (hf : PySem.W.isFn K (.ref f) = true) (h : wpAny (model P w) A (call (.ref f) [.ref x, b]) (fun v s' => ∃ t, v = .bool t ∧ Q (.done (.ret (.bool (!t)))) s') E s) :
    wpAny (model P w) A (Builtin.«object.__ne__» ⟨[.ref x, b], []⟩) Q E s := by
  have back : ∀ r s', (∃ t, r = Value.bool t ∧ Q (.done (.ret (.bool (!t)))) s') → wpAny (model P w) A (match (some r : Option Value) with
      | some Value.notImplemented => ret Value.notImplemented
      | none => ret Value.notImplemented
      | some r => do
        let t ← truthy r
        ret (Value.bool !t)) Q E s' := fun r s' hr => by
    obtain ⟨t, rfl, hq⟩ := hr
    exact wpAny_bind (wpAny_truthy_bool (wpAny_pure hq))
  unfold Builtin.«object.__ne__»
  refine wpAny_bind (m := slotArgs "__ne__" 1 _) (wpAny_pure ?_)
  refine wpAny_bind (wpAny_cRoomFor hu ?_)
  exact wpAny_bind (m := callSpecialIfBound? (.ref x) (Str.ofString "__eq__") [b]) (PySem.W.ifBound_K KX J he hf (thn h back))
theorem ne_call {P : Program} {w : World} {A : Around} {E : Value → Shared → Prop} {s : Shared} {K : PySem.W.Frag} {x C f : Addr} {b : Value} {ox : Obj} {od : Option Obj} {Q : Value → Shared → Prop} (hu : A.in1.units < cLine) (KX : K.In s.heap) (J : PySem.W.InstAt s.heap x ox C od) (hm : PySem.W.mroIn K C (.type "object") = some true)
    (he : PySem.W.findIn K (.ref C) "__eq__" = some (some (.ref f))) (hf : PySem.W.isFn K (.ref f) = true) (h : wpAny (model P w) A.in1 (call (.ref f) [.ref x, b]) (fun v s' => ∃ t, v = .bool t ∧ Q (.bool (!t)) s') E s) :
    wpAny (model P w) A (call (.builtin "object.__ne__") [.ref x, b]) Q E s := by
  refine wpAny_call (codeAny_call_builtin PySem.F.cmp_object.ne.plain PySem.F.cmpEntry_ne (PySem.W.check_slot (i := "object.__ne__") (owner := "object") (n := "__ne__") PySem.F.cmpKind_ne PySem.F.cmpSplit_ne (J.type.andThen (PySem.W.looks_mroIn KX hm)) (PySem.F.cmpArgs_ne _ _) ?_))
  exact ne_in hu KX J he hf (thn h fun v s' hv => by
    obtain ⟨t, e, q⟩ := hv
    exact ⟨t, e, q⟩)
/-- o != p, of one class -/
def rNeO (C : Addr) (sp : Sp) : R2 := fun x y H Q => ∃ (a b dx dy : Addr) (fs gs : List (Str × V)), x = .ref a ∧ y = .ref b ∧ H a = some (.ins C dx fs) ∧ H b = some (.ins C dy gs) ∧ sp [.ref a, .ref b] H (fun v H' => ∃ t, v = .bl t ∧ Q (.bl (!t)) H') E0
section
variable {X : Cx} {k : Nat} {f C : Addr} {fd : FuncData} {ps : List Str} {sp : Sp}
theorem op_neO (F : FnG X.prog X.w X.K X.mg X.base k f fd ps sp) (hs : PySem.W.findIn X.K (.ref C) "__eq__" = some (some (.ref f))) (hf : PySem.W.isFn X.K (.ref f) = true) (hn : PySem.W.findIn X.K (.ref C) "__ne__" = some (some (.builtin "object.__ne__")))
    (hm : PySem.W.mroIn X.K C (.type "object") = some true) (hb : Binds X.K fd ps []) (hc : Calm X.A) (hr : Room (k + 1) X.A) : OpR X (compareOp .NotEq) (rNeO C sp) := by
  intro pins s σ H x y v u Q I rx ry h
  obtain ⟨a, b, dx, dy, fs, gs, rfl, rfl, ha, hb', hq⟩ := h
  cases rx
  cases ry
  obtain ⟨mA, J, _⟩ := ins_get I.hok ha
  obtain ⟨mB, J', _⟩ := ins_get I.hok hb'
  obtain ⟨od, J, _⟩ := J.look
  obtain ⟨od', J', _⟩ := J'.look
  have one : wpAny (model X.prog X.w) X.A (tryCompare (.ref a) "__ne__" (.ref b)) (fun r s' => ∃ v, r = some v ∧ EP X pins σ Q v s') X.xe s := by
    unfold tryCompare
    refine wpAny_bind (ifBoundB I.kIn J hn PySem.F.cmp_object.ne.bind (ne_call hr.in1.units0 I.kIn J hm hs hf (thn (run_deep (vs := [.ref a, .ref b]) rfl F hc hr.in1 hb I (.cons rfl (.cons rfl .nil)) hq) fun v s' hv => ?_)))
    obtain ⟨z, H', I', rz, t, ez, q⟩ := hv
    subst ez
    cases (show v = Value.bool t from rz)
    exact ⟨t, rfl, wpAny_pure ⟨_, rfl, .bl (!t), H', I', rfl, q⟩⟩
  show wpAny (model X.prog X.w) X.A (richCompare .NotEq (.ref a) (.ref b)) (EP X pins σ Q) X.xe s
  unfold richCompare
  simp only [oneThing_ref]
  refine wpAny_holding (wpAny_bind (wpAny_cRoomFor hr.units0 ?_))
  refine wpAny_bind (J.type.here (wpAny_bind (J'.type.here ?_)))
  rw [show (Value.ref C != Value.ref C) = false from by simp]
  simp only [Bool.false_eq_true, if_false]
  refine wpAny_bind (wpAny_pure ?_)
  simp only [Bool.false_eq_true, if_false]
  refine wpAny_bind (thn one fun r s' z => ?_)
  obtain ⟨v, rfl, q⟩ := z
  exact wpAny_pure q
/-- o[i], what __getitem__ lets out is taken -/
def tItO (C : Addr) (sp : Sp) (E : XK) (ta tb : TE) : TE := fun σ H Q => ta σ H fun x H1 => tb σ H1 fun y H2 => ∃ a dx fs, x = .ref a ∧ H2 a = some (.ins C dx fs) ∧ sp [.ref a, y] H2 Q E
theorem pe_itemO {W : WX} {E : XK} {o i : Expr} {ta tb : TE} {pos : Pos} (ho : PE X o ta) (hi : PE X i tb) (F : FnE X.prog X.w X.K X.mg X.base k f fd ps sp) (hs : PySem.W.findIn X.K (.ref C) "__getitem__" = some (some (.ref f))) (hfn : PySem.W.fnIn X.K f = true) (hf : PySem.W.isFn X.K (.ref f) = true) (hb : Binds X.K fd ps [])
    (hc : Calm X.A) (hr : Room (k + 1) X.A) (tk : Takes X W) (hW : ∀ cls d σ H, E cls d H → W cls d σ H) (hsl : ∀ (a : Addr) (v : Value), subscripted i true (.ref a) v = runValue (.builtin "lifetime.subscript" ⟨[.ref a, v], []⟩) := by with_unfolding_all (intro _ _; rfl)) :
    PE X (.Subscript o i pos) (tItO C sp E ta tb) := by
  refine ⟨fun pins s σ H Q I h => ?_⟩
  refine Subscript_ (binT ho hi I (R := fun x y H2 => ∃ a dx fs, x = V.ref a ∧ H2 a = some (.ins C dx fs) ∧ sp [.ref a, y] H2 Q E) h fun v u s2 x y H2 I2 rx ry q => ?_)
  obtain ⟨a, dx, fs, rfl, ha, hq⟩ := q
  cases rx
  obtain ⟨mA, J, _⟩ := ins_get I2.hok ha
  obtain ⟨od, J, _⟩ := J.look
  obtain ⟨m, hF⟩ := I2.fr
  exact PySem.W.sub_K hF I2.ok.mod.kin J hs hfn hf (run_deepE (vs := [.ref a, y]) rfl F hc hr.in1 hb tk hW I2 (.cons rfl (.cons ry .nil)) hq) (hsl _ _)
/-- C.m(e, ..), m a class method that may let an error out -/
theorem pe_cmethE {W : WX} {E : XK} {m : Str} {p g : Addr} {mc : Value} {o e : Expr} {es : List Expr} {ta : TE} {t : TA} {pl : Sem Bool} {pos apos : Pos} (he : PE X o ta) (r : ClX.CRead X.K C mc) (c : ClX.CMet X.K C mc m p g) (F : FnE X.prog X.w X.K X.mg X.base k g fd ps sp) (hb : Binds X.K fd ps []) (hc : Calm X.A) (hr : Room k X.A)
    (tk : Takes X W) (hW : ∀ cls d σ H, E cls d H → W cls d σ H) (ha : PA X (e :: es) t) (hst : starEach (e :: es) X.env = (false, eval e X.env) :: starEach es X.env := by rfl) (hpl : (backTo pos (starEach es X.env)).any (·.1) = false := by rfl)
    (ht : eval (.Call (.Attribute o m apos) (e :: es) [] pos) X.env = (do let ov ← eval o X.env; standAt apos.atName; let (f, first) ← holding [ov] (getMethod ov m pl); callWith pos f first (backTo pos (starEach (e :: es) X.env)) (backToKw pos (keywordEach [] X.env))) := by rfl) :
    PE X (.Call (.Attribute o m apos) (e :: es) [] pos) (ClX.tCMeth C sp E ta t) := by
  refine ⟨fun pins s σ H Q I h => PySem.W.methodCall_KW (pl := pl) (thn (he.run pins s σ H _ I h) fun u s1 ⟨x, H1, I1, rx, ex, q⟩ => ?_) ht⟩
  subst ex
  obtain rfl : u = Value.ref C := rx
  refine ClX.getmethcm_ok I1 r c fun s2 I2 => ClX.callwith_cm I2 (ClX.base_none I1 (Nat.le_refl _)) c.fi (thn (ha.run pos _ s2 σ H1 _ I2 q) fun us s3 ⟨vs, H2, I3, rv, q2⟩ => ⟨⟨ClX.pin_at I3, I3.kIn⟩, ?_⟩) hst hpl
  refine thn (Q := EP X ((s1.heap.objs.size, PySem.W.methodObj (.ref g) (.ref C)) :: pins) σ Q) (wpAny_call (PySem.W.method_call (ClX.pin_at I3) ?_)) fun _ _ y => ClX.unpinE y
  have rv' : Vals (V.ref C :: vs) (Value.ref C :: us) := .cons rfl rv
  have hl : (Value.ref C :: us).length = ps.length := rv'.length ▸ F.count _ _ _ _ q2
  have b := hb s3 (Value.ref C :: us) I3.kIn (by rw [List.append_nil]; exact hl)
  rw [List.append_nil] at b
  refine codeAny_mono (F.goes X.A X.stack s3 H2 ⟨Value.ref C :: us, []⟩ _ _ Q E hc hr I3.env0 b rv' q2) fun y s' hq => ?_
  match y, hq with
  | .error er, hq => exact passes_call tk hW _ σ H2 s3 er s' I3 hq
  | .ok (.ret u), hq => exact I3.after hq
  | .ok .next, hq => exact hq.elim
  | .ok .brk, hq => exact hq.elim
  | .ok .cont, hq => exact hq.elim
/-- x(e, ..), x a local that holds the class at C -/
def tMaL (i : Nat) (C : Addr) (sp : Sp) (E : XK) (t : TA) : TE := fun σ H Q => σ[i]? = some (some (.ref C)) ∧ tMaE C sp E t σ H Q
theorem pe_makeL {W : WX} {E : XK} {i : Nat} {x : Str} {q pos : Pos} {e : Expr} {es : List Expr} {t : TA} (M : L2.Mk X.K C f) (F : FnE X.prog X.w X.K X.mg X.base k f fd ps sp) (hc : Calm X.A) (hr : Room (k + 1) X.A) (hN : X.N[i]? = some x) (hv : Vis X.env.scope x) (hb : Binds X.K fd ps []) (tk : Takes X W) (hW : ∀ cls d σ H, E cls d H → W cls d σ H) (ha : PA X (e :: es) t)
    (hdb : (x == ("__debug__" : Str)) = false := by decide) (hcd : (x == ("__classdict__" : Str)) = false := by decide) (he : starEach (e :: es) X.env = (false, eval e X.env) :: starEach es X.env := by rfl) (hpl : (backTo pos (starEach es X.env)).any (·.1) = false := by rfl) : PE X (.Call (.Name x q) (e :: es) [] pos) (tMaL i C sp E t) := by
  refine ⟨fun pins s σ H Q I h => ?_⟩
  obtain ⟨hs, ht⟩ := h
  refine wpAny_Call_Name_kw (thn ((pe_var (pos := q) hN hv hdb hcd).run pins s σ H (fun v H1 => v = .ref C ∧ H1 = H) I ⟨.ref C, hs, rfl, rfl⟩) fun u s1 ⟨v, H1, I1, r1, q1⟩ => ?_)
  obtain ⟨rfl, rfl⟩ := q1
  cases r1
  exact PySem.W.callWith_K (h₀ := X.base) I.ok.mod.kin M.kp (thn (ha.run pos pins s1 σ _ _ I1 ht) fun us s2 ⟨vs, H2, I2, r, q2⟩ => ⟨I2.kIn, makes_inE M F hc hr hb tk hW I2 r q2⟩) he hpl
end
end Xv
set_option Elab.async false
set_option linter.all false
set_option autoImplicit false
set_option maxRecDepth 100000
set_option maxHeartbeats 4000000
namespace K03
open PySem PySem.Spec PyProof.Rows L2 Vb Wd Xd Xo Xi Xm Xr Xv
abbrev s_from_line : Stmt := inB (topS 17) 1
theorem sc_from_line : FnScope ["cls", "line", "words", "word"] ["cls", "line"] (defScope s_from_line) := ⟨rfl, rfl, rfl, by decide +kernel, rfl, by decide +kernel, by decide +kernel⟩
/-- what the words of a line tell -/
def readW (ws : List Str) : Option (Str × Str × List (Str × Int)) := if formB ws = true then some (ws.getD 1 "", ws.getD 2 "", (ws.drop 3).map childV) else none
theorem int_one : ∀ c, c < 52 → 48 ≤ c → PySem.intText? ⟨#[c]⟩ = some ((c : Int) - 48) := by decide +kernel
theorem child_last {y : Str} (h : childB y = true) : ∃ (l : List Nat) (c : Nat), y.cps.toList = l ++ [c] ∧ 48 ≤ c ∧ c ≤ 51 ∧ (childV y).2 = (c : Int) - 48 ∧ isNam (.str (childV y).1) = true := by
  unfold childB at h
  simp only [Bool.and_eq_true] at h
  obtain ⟨h1, h2⟩ := h
  obtain ⟨l, c, el, ec⟩ := last_of (z := y) (Nat.le_trans (nam_len h1).1 (init_len y))
  unfold digC at h2
  rw [ec] at h2
  simp only [Bool.and_eq_true, decide_eq_true_eq] at h2
  refine ⟨l, c, el, h2.1, h2.2, ?_, h1⟩
  unfold childV
  rw [ec]
  rfl
theorem words_plain {H : Hp} {v : V} (j : Judged H v) : Plain (wordsV v) ∧ (wordsV v).length ≤ 1001 := by
  cases v with
  | str z =>
    obtain ⟨h1, h2⟩ := split_plain (n := 1000) j.1 j.2
    exact ⟨h1, Nat.le_trans h2 (by have := j.1; omega)⟩
  | _ => exact ⟨fun y hy => (nomatch (show y ∈ ([] : List Str) from hy)), Nat.zero_le _⟩
/-- C.from_line(v) -/
def spFrom (C CP : Addr) : Sp := fun vs H Q E => ∃ v, vs = [.ref C, v] ∧ Judged H v ∧
  (∀ (n so : Str) (cs : List (Str × Int)), readW (wordsV v) = some (n, so, cs) → ∀ (a ch : Addr) (ts : List Addr) (H' : Hp), Same H H' → FormAt H' C a ch n so ts cs → Q (.ref a) H') ∧
  (readW (wordsV v) = none → ∀ H' d, Same H H' → H' d = none → E (.ref CP) (some d) (upd H' d (.xd [("number", .non)])))
section
variable {P : Program} {w : World} {K : PySem.W.Frag} {mg : Str → Option Value} {base : Heap} {C CP : Addr}
theorem ok_from_line {f fN fI : Addr} {fd fdN fdI : FuncData} {psN : List Str} (F : Fun K "from_line" "Form.from_line" s_from_line f fd) (T : FormC K C) (M : L2.Mk K C fI) (FI : FnG P w K mg base 6 fI fdI ["self", "called", "sort", "children"] (spInit K C)) (bI : Binds K fdI ["self", "called", "sort", "children"] [])
    (TP : EI K CP fN) (no : PySem.W.findIn K (.ref CP) "number" = some none) (FN : FnG P w K mg base 1 fN fdN psN (spSet K CP fN "number")) (bN : Binds K fdN psN []) (gP : mg "ParseError" = some (.ref CP))
    (G_words_of : Cg P w K mg base 1 "words_of" spWords) (G_is_form_line : Cg P w K mg base 3 "_is_form_line" (spFL K)) (z_int : mg "int" = none) (z_tuple : mg "tuple" = none) : FnE P w K mg base 8 f fd ["cls", "line"] (spFrom C CP) := by
  refine goes_exc F sc_from_line (fun vs H Q E h => ?_) (fun cdv A outer s H vs Q E hc hr tk h => ?_)
  · obtain ⟨v, rfl, _⟩ := h
    rfl
  · obtain ⟨v, rfl, j, q1, q2⟩ := h
    refine ⟨_, (pss_cons (ps_set (i := 2) sc_from_line.nd rfl (Or.inl rfl) (pe_cg G_words_of hc hr (by rfl) (pa_cons (pv 1) pa_nil) (hx := pass0)))
      (pss_cons (ps_if (pt_not (pt_val (pe_cg G_is_form_line hc hr (by rfl) (pa_cons (pv 2) pa_nil)))) (pss_one (ps_raise (by rfl) tk (pmk_E (f := "number") TP no FN hc (hr.mono (by decide)) bN (by rfl) gP (pa_cons pe_non pa_nil)))) pss_nil)
      (pss_one (ps_ret (pe_makeL (i := 0) (E := fun _ _ _ => False) M (FnE.of FI) hc hr rfl (Or.inl rfl) bI tk (fun _ _ _ _ z => z.elim) (pa_cons (pe_ix (ix_tup : IxR _ (rIxT K)) (pv 2) pe_int (fun _ _ => rfl)) (pa_cons (pe_ix (ix_tup : IxR _ (rIxT K)) (pv 2) pe_int (fun _ _ => rfl)) (pa_cons (pe_callTy (cr_tuple : CallR _ _ (rTup K)) (by rfl) z_tuple (by decide +kernel) (pa_cons
        (pe_lc (own := [("word", 3)]) (g := gName 3) (by rfl) sc_from_line.nd (pi_tup (pe_slice (sl_tup : SlR _ (rSlT K)) (pv 2) (po_some pe_int) po_none)) (blkOk_by (own := [("word", 3)]) (N := ["cls", "line", "words", "word"]) (sc := defScope s_from_line) (by decide +kernel)) (fun _ _ _ _ _ => pg_name (i := 3) sc_from_line.nd rfl (Or.inl rfl)) (fun _ _ _ _ _ => pts_nil) (fun _ _ _ _ _ => (pe_tup (pa_cons (pe_slice sl_str (pv 3) po_none (po_some (pe_un un_neg pe_int))) (pa_cons (pe_callTy call_int_str (by rfl) z_int (by decide +kernel) (pa_cons (pe_ix ix_str (pv 3) (pe_un un_neg pe_int) (fun _ _ => rfl)) pa_nil)) pa_nil)))))
        pa_nil)) pa_nil)))))))), ?_⟩
    obtain ⟨pl, few⟩ := words_plain j
    generalize ew : wordsV v = ws at pl few q1 q2
    refine ⟨_, rfl, v, rfl, j, fun p H1 s1 hp => ?_⟩
    rw [ew] at hp
    refine ⟨_, rfl, p, ws, rfl, hp, pl, Nat.le_trans few (by decide), fun H2 s2 => ⟨_, rfl, ?_⟩⟩
    have s12 := s1.trans s2
    unfold readW at q1 q2
    cases e : formB ws with
    | false =>
      rw [e] at q2
      exact iteT ⟨.non, rfl, fun d nd => q2 rfl H2 d s12 nd⟩
    | true =>
      rw [e] at q1
      have lens : 5 ≤ ws.length ∧ ws.length ≤ 7 ∧ isNam (.str (ws.getD 1 "")) = true ∧ isNam (.str (ws.getD 2 "")) = true ∧ ∀ y ∈ ws.drop 3, childB y = true := by
        have z := e
        unfold formB at z
        simp only [Bool.and_eq_true, decide_eq_true_eq, List.all_eq_true] at z
        exact ⟨z.1.1.1.1.1, z.1.1.1.1.2, z.1.1.2, z.1.2, z.2⟩
      obtain ⟨h5, h7, n1, n2, kids⟩ := lens
      have len : (ws.map V.str).length = ws.length := List.length_map ..
      have a1 : atI (ws.map V.str) 1 = some (.str (ws.getD 1 "")) := at_str (j := 1) (by omega)
      have a2 : atI (ws.map V.str) 2 = some (.str (ws.getD 2 "")) := at_str (j := 2) (by omega)
      have m1 := pl _ (getD_mem (ws := ws) (j := 1) (by omega))
      have m2 := pl _ (getD_mem (ws := ws) (j := 2) (by omega))
      have hT : SqT K H2 p (ws.map V.str) := .inl (.inl (s2 _ _ hp))
      refine iteF ⟨rfl, _, rfl, p, _, _, _, rfl, rfl, hT, a1, _, rfl, p, _, _, _, rfl, rfl, hT, a2, _, rfl, _, rfl, p, _, rfl, hT, ?_, fun t nt => ⟨t, rfl, ⟨_, .inl (.inl upd_same)⟩, fun D nD => ?_⟩⟩
      · intro z
        have e : HT.sIx (ws.map V.str).length 0 (some 3) = min 3 (ws.map V.str).length := HT.sIx_nat _ _ 3
        rw [e, len] at z
        have := z.1
        omega
      · rw [cut3] at nD ⊢
        have st := same_new (o := .tup ((ws.drop 3).map V.str)) nt
        have et : ∀ {H' : Hp}, Same (upd H2 t (.tup ((ws.drop 3).map V.str))) H' → SqT K H' t ((ws.drop 3).map V.str) := fun s' => .inl (.inl (s' _ _ upd_same))
        refine lc_tup (K := K) (a := t) (xs := (ws.drop 3).map V.str) (fun i H' => Same (upd H2 t (.tup ((ws.drop 3).map V.str))) H' ∧ ∃ ts : List Addr, ts.length = i ∧ H' D = some (.lst (ts.map V.ref)) ∧ ∀ (j : Nat) (t : Addr) (y : Str), ts[j]? = some t → (ws.drop 3)[j]? = some y → Kid H' t (childV y).1 (childV y).2)
          ⟨same_put nD (Same.refl _), [], rfl, upd_same, fun j t y z => nomatch z⟩ (fun i H' _ h => et h.1) (fun i x H3 hx h => ?_) (fun H3 h => ?_)
        · obtain ⟨s3, ts, tl, e3, tk3⟩ := h
          rw [List.getElem?_map] at hx
          obtain ⟨y, hy, rfl⟩ := Option.map_eq_some_iff.mp hx
          have my : y ∈ ws.drop 3 := List.mem_of_getElem? hy
          have py := pl y (List.mem_of_mem_drop my)
          have fy : y.length ≤ sizeLine := fits_million (by omega)
          obtain ⟨l, c, el, lo, hi, ev, en⟩ := child_last (kids y my)
          have at_ : atI y.cps.toList (-1) = some c := by
            rw [el]
            exact atI_last l c
          have it := int_one c (by omega) lo
          have il : i < (ws.drop 3).length := (List.getElem?_eq_some_iff.mp hy).1
          refine ⟨rfl, _, rfl, _, rfl, _, rfl, y, rfl, fy, _, rfl, _, rfl, y, _, c, rfl, rfl, fy, at_, _, _, rfl, it, (by show 1 ≤ 640; decide), by show 2 ≤ sizeLine; decide, fun t' nt' => ?_⟩
          have Dt : D ≠ t' := ne_of_none e3 nt'
          refine ⟨ts.map V.ref, by rw [upd_ne Dt]; exact e3, ?_, same_put nD (s3.trans (same_new nt')), ts ++ [t'], by rw [List.length_append, tl]; rfl, by rw [upd_same, List.map_append]; rfl, fun j u y' hu hy' => ?_⟩
          · rw [List.length_map, tl]
            rw [List.length_drop] at il
            exact Nat.lt_of_le_of_lt (show i ≤ 100 by omega) (by decide)
          · have ju : j < (ts ++ [t']).length := (List.getElem?_eq_some_iff.mp hu).1
            rw [List.length_append, List.length_singleton] at ju
            by_cases hj : j < ts.length
            · rw [List.getElem?_append_left hj] at hu
              have k := tk3 j u y' hu hy'
              have uD : u ≠ D := fun z => by
                have a := k.at_
                rw [z, e3] at a
                cases a
              have ut : u ≠ t' := ne_of_none k.at_ nt'
              exact ⟨by rw [upd_ne uD, upd_ne ut]; exact k.at_, k.nam, k.plain, k.lo, k.hi⟩
            · have ej : j = i := by omega
              subst ej
              rw [List.getElem?_append_right (by omega), ← tl, Nat.sub_self] at hu
              cases hu
              rw [hy] at hy'
              cases hy'
              refine ⟨by rw [upd_ne (fun z => Dt z.symm), upd_same, ev]; rfl, en, ⟨Nat.le_trans (init_len y) py.1, asc_cut py.2 _ _⟩, by rw [ev]; omega, by rw [ev]; omega⟩
        · obtain ⟨s3, ts, tl, e3, tk3⟩ := h
          rw [List.length_map] at tl
          have s123 := (s12.trans st).trans s3
          refine ⟨D, _, rfl, .inl ⟨.inl (.inl e3), fun l nl => ?_⟩⟩
          have kl : ts.length = ((ws.drop 3).map childV).length := by rw [tl, List.length_map]
          have sl := same_new (o := .tup (ts.map V.ref)) nl
          have dl : (ws.drop 3).length = ws.length - 3 := List.length_drop ..
          have KA : Kids (upd H3 l (.tup (ts.map V.ref))) l ts ((ws.drop 3).map childV) := by
            refine ⟨upd_same, kl, by omega, by omega, fun i t c ht hc => ?_⟩
            rw [List.getElem?_map] at hc
            obtain ⟨y, hy, rfl⟩ := Option.map_eq_some_iff.mp hc
            exact (tk3 i t y ht hy).same sl
          intro x dx nx ndx ne
          have sd : Same (upd H3 l (.tup (ts.map V.ref))) (upd (upd (upd H3 l (.tup (ts.map V.ref))) dx (.own x)) x (.ins C dx [])) := (same_new ndx).trans (same_new (by rw [upd_ne ne.symm]; exact nx))
          refine ⟨x, dx, l, _, _, ts, _, rfl, upd_same, ⟨n1, m1⟩, ⟨n2, m2⟩, KA.same sd, fun H' s' => ⟨rfl, ?_⟩⟩
          exact q1 _ _ _ rfl x l ts _ ((s123.trans sl).trans (same_put nx (sd.trans s'))) ⟨⟨dx, upd_same⟩, KA.same (same_put nx (sd.trans s'))⟩
end
end K03
set_option Elab.async false
set_option linter.all false
set_option autoImplicit false
set_option maxRecDepth 100000
set_option maxHeartbeats 4000000
namespace K03
open PySem PySem.Spec PyProof.Rows L2 Vb Wd Xd Xo StX
abbrev s_str : Stmt := inB (topS 17) 9
theorem sc_str : FnScope ["self", "children", "sort", "step"] ["self"] (defScope s_str) := ⟨rfl, rfl, rfl, by decide +kernel, rfl, by decide +kernel, by decide +kernel⟩
/-- a child's word, a form's line -/
def wordT (c : Str × Int) : Str := c.1 ++ Str.ofString (toString c.2)
def lineT (n so : Str) (cs : List (Str × Int)) : Str := Txt.join " " ("form" :: n :: so :: cs.map wordT)
theorem log_small {i : Int} (h0 : 0 ≤ i) (h3 : i ≤ 3) : i.natAbs.log2 < 1920 := by
  have : i = 0 ∨ i = 1 ∨ i = 2 ∨ i = 3 := by omega
  rcases this with rfl | rfl | rfl | rfl <;> decide
theorem one_sign {i : Int} (h0 : 0 ≤ i) (h3 : i ≤ 3) : (Str.ofString (toString i)).length = 1 := by
  have : i = 0 ∨ i = 1 ∨ i = 2 ∨ i = 3 := by omega
  rcases this with rfl | rfl | rfl | rfl <;> decide +kernel
theorem empty_app (x : Str) : Str.empty ++ x = x := by
  apply PySem.Str.ext'
  show (#[] : Array Nat) ++ x.cps = x.cps
  simp
theorem Kids.get {H : Hp} {a : Addr} {ts : List Addr} {cs : List (Str × Int)} (k : Kids H a ts cs) {i : Nat} {t : Addr} (h : ts[i]? = some t) : ∃ c, cs[i]? = some c ∧ Kid H t c.1 c.2 := by
  have il : i < cs.length := by rw [← k.len]; exact (List.getElem?_eq_some_iff.mp h).1
  exact ⟨cs[i], List.getElem?_eq_getElem il, k.kid i t cs[i] h (List.getElem?_eq_getElem il)⟩
theorem word_len {H : Hp} {t : Addr} {c : Str × Int} (k : Kid H t c.1 c.2) : (wordT c).length ≤ 9 := by
  unfold wordT
  rw [PySem.Str.length_append, one_sign k.lo k.hi]
  have := (nam_len k.nam).2.1
  omega
theorem words_sum : ∀ (l : List Str) (m : Nat), (∀ y ∈ l, y.length ≤ m) → (l.map (·.length)).sum ≤ l.length * m
  | [], m, _ => Nat.zero_le _
  | y :: l, m, h => by
    have h1 := words_sum l m fun z hz => h z (List.mem_cons_of_mem _ hz)
    have h2 := h y List.mem_cons_self
    rw [List.map_cons, List.sum_cons, List.length_cons, Nat.succ_mul]
    omega
def spStr (C : Addr) : Sp := fun vs H Q _ => ∃ (a ch : Addr) (n so : Str) (ts : List Addr) (cs : List (Str × Int)), vs = [.ref a] ∧ FormAt H C a ch n so ts cs ∧ n.length ≤ 1000 ∧ so.length ≤ 1000 ∧ ∀ H', Same H H' → Q (.str (lineT n so cs)) H'
section
variable {P : Program} {w : World} {K : PySem.W.Frag} {mg : Str → Option Value} {base : Heap} {C : Addr}
theorem ok_str {f : Addr} {fd : FuncData} (F : Fun K "__str__" "Form.__str__" s_str f fd) (T : FormC K C) : FnG P w K mg base 1 f fd ["self"] (spStr C) := by
  refine goes_by F sc_str (fun vs H Q E h => ?_) (fun cdv A outer s H vs Q E hc hr h => ?_)
  · obtain ⟨a, ch, n, so, ts, cs, rfl, _⟩ := h
    rfl
  · obtain ⟨a, ch, n, so, ts, cs, rfl, ⟨⟨dx, ha⟩, k⟩, hn, hso, q⟩ := h
    refine ⟨_, (pss_cons (ps_setLc (i := 1) (own := [("sort", 2), ("step", 3)]) (g := gTup K 2 (gCons (gName 2) (gCons (gName 3) gNil))) (by rfl) sc_str.nd rfl rfl (sw_true rfl rfl rfl (by decide +kernel)) (pi_tup (pe_fld (f := "_children") (pv 0) (by rfl)))
        (blkOk_by (own := [("sort", 2), ("step", 3)]) (N := ["self", "children", "sort", "step"]) (sc := defScope s_str) (by decide +kernel)) (fun _ _ _ _ _ => pg_tup (by rfl) (pgs_cons (pg_name (i := 2) sc_str.nd rfl (Or.inl rfl)) (pgs_cons (pg_name (i := 3) sc_str.nd rfl (Or.inl rfl)) pgs_nil))) (fun _ _ _ _ _ => pts_nil)
        (fun _ _ _ _ _ => pe_joined (.cons (pe_fmt (pv 2)) (.cons (pe_fmt (pv 3)) .nil))))
      (pss_one (ps_ret (pe_join pe_str (pe_lst (pa_cons pe_str (pa_cons (pe_fld (f := "_called") (pv 0) (by rfl)) (pa_cons (pe_fld (f := "_sort_name") (pv 0) (by rfl)) (pa_star (pv 1) pa_nil))))))))), ?_⟩
    refine ⟨_, rfl, a, C, dx, _, .ref ch, rfl, ha, T.c, T.n3, by rfl, ch, rfl, ⟨_, .inl (.inl k.at_)⟩, fun D nD => ?_⟩
    have few := k.hi
    have tl := k.len
    refine lc_tup (K := K) (a := ch) (xs := ts.map V.ref) (g := gTup K 2 (gCons (gName 2) (gCons (gName 3) gNil))) (tt := tYes) (vs := [2, 3]) (te := fun σ H Q => tJs [tFmt (tVar 2), tFmt (tVar 3)] Str.empty σ H fun out H1 => Q (.str out) H1) (fun i H' => Same H H' ∧ H' D = some (.lst (((cs.take i).map wordT).map V.str))) ⟨same_put nD (Same.refl H), upd_same⟩ (fun i H' _ h => .inl (.inl (h.1 _ _ k.at_))) (fun i x H1 hx h => ?_) (fun H1 h => ?_)
    · obtain ⟨s1, e1⟩ := h
      rw [List.getElem?_map] at hx
      obtain ⟨t, ht, rfl⟩ := Option.map_eq_some_iff.mp hx
      obtain ⟨⟨m, i'⟩, hc', kt⟩ := k.get ht
      have kt1 := kt.same s1
      have ml := (nam_len kt.nam).2.1
      refine ⟨t, _, rfl, .inl (.inl kt1.at_), rfl, .str m, _, rfl, .int i', _, rfl, rfl, rfl, _, rfl, .inl ⟨m, rfl, fits_million (by simp only at ml; omega), m, rfl, ?_, _, rfl, .inr ⟨i', rfl, log_small kt.lo kt.hi, _, rfl, ?_, ?_⟩⟩⟩
      · rw [empty_app]
        exact fits_million (by simp only at ml; omega)
      · rw [empty_app, PySem.Str.length_append, one_sign kt.lo kt.hi]
        exact fits_million (by simp only at ml; omega)
      · refine ⟨_, e1, ?_, same_put nD s1, ?_⟩
        · rw [List.length_map, List.length_map, List.length_take]
          exact Nat.lt_of_le_of_lt (show _ ≤ 4 by omega) (by decide)
        · rw [upd_same, List.take_add_one, hc', List.map_append, List.map_append, empty_app]
          rfl
    · obtain ⟨s1, e1⟩ := h
      rw [List.length_map, tl, List.take_of_length_le (Nat.le_refl _)] at e1
      refine ⟨⟨_, rfl⟩, _, rfl, a, C, dx, _, .str n, rfl, s1 _ _ ha, T.c, T.n1, by rfl, _, rfl, a, C, dx, _, .str so, rfl, s1 _ _ ha, T.c, T.n2, by rfl, _, rfl, D, _, rfl, .inr (.inl (.inl e1)), ?_, fun p np => ⟨" ", p, "form" :: n :: so :: cs.map wordT, rfl, rfl, .inl (.inl (.inl ?_)), ?_, ?_⟩⟩
      · rw [List.append_nil]
        simp only [List.length_cons, List.length_map]
        exact Nat.le_trans (show _ ≤ 10 by omega) (by decide)
      · rw [upd_same, List.append_nil]
        rfl
      · have wl : ∀ y ∈ cs.map wordT, y.length ≤ 9 := fun y hy => by
          obtain ⟨c, hc', rfl⟩ := List.mem_map.mp hy
          obtain ⟨i, il, ei⟩ := List.mem_iff_getElem.mp hc'
          have ti : i < ts.length := by omega
          obtain ⟨c2, h2, kt⟩ := k.get (List.getElem?_eq_getElem ti)
          rw [List.getElem?_eq_getElem il, ei] at h2
          cases h2
          exact word_len kt
        have sm := words_sum (cs.map wordT) 9 wl
        have l4 : ("form" : Str).length = 4 := by decide +kernel
        have l1 : (" " : Str).length = 1 := by decide +kernel
        rw [List.length_map] at sm
        simp only [List.map_cons, List.sum_cons, List.length_cons, List.length_map]
        rw [l4, l1]
        omega
      · exact q _ (s1.trans (same_new np))
end
end K03
set_option Elab.async false
set_option linter.all false
set_option autoImplicit false
set_option maxRecDepth 100000
set_option maxHeartbeats 4000000
namespace K03
open PySem PySem.Spec PyProof.Rows L2 Vb Wd
/-! ### the law's own words -/
def Low (z : Str) : Prop := ∀ c ∈ z.cps.toList, low c = true
theorem low_join {ys : List Str} (a : ∀ y ∈ ys, Low y) : Low (Txt.join (Str.ofString "") ys) := fun c hc => by
  rw [TL.join_eq] at hc
  have e : (Str.join (Str.ofString "") ys).cps.toList = TL.joinL [] (ys.map TL.tl) := TL.tl_join (Str.ofString "") ys
  rw [e] at hc
  obtain ⟨p, hp, hc⟩ := mem_joinL hc
  obtain ⟨y, hy, rfl⟩ := List.mem_map.mp hp
  exact a y hy c hc
theorem low_asc {z : Str} (h : Low z) : Asc z := fun c hc => by
  have := h c hc
  unfold low at this
  simp only [Bool.and_eq_true, decide_eq_true_eq] at this
  omega
theorem low_nam {z : Str} (h : Low z) (h1 : 1 ≤ z.length) (h8 : z.length ≤ 8) : isNam (.str z) = true := by
  rw [isNam_str, decide_eq_true h1, decide_eq_true h8, List.all_eq_true.mpr h]
  rfl
def spName : Sp := fun vs H Q _ => ∃ d, vs = [.ref d] ∧ Dice H d ∧ ∀ z H', Past d H H' → isNam (.str z) = true → Q (.str z) H'
section
variable {P : Program} {w : World} {K : PySem.W.Frag} {mg : Str → Option Value} {base : Heap}
theorem ok_l_name (D : Df K mg "_law_name" s_l_name ["_law_dice_here"]) (G_l_pick : Cg P w K mg base 2 "_law_pick" (spPick K)) (z_range : mg "range" = none) : Cg P w K mg base 3 "_law_name" spName := by
  refine D.ok sc_l_name (fun vs H Q E h => ?_) (fun cdv A outer s H vs Q E f hc hr h => ?_)
  · obtain ⟨d, rfl, _⟩ := h
    rfl
  · obtain ⟨d, rfl, hd, q⟩ := h
    refine ⟨_, (pss_cons (ps_set (i := 1) sc_l_name.nd rfl (Or.inl rfl) (pe_cg G_l_pick hc hr (by rfl) (pa_cons (pv 0) (pa_cons (pe_lst (pa_cons pe_int (pa_cons pe_int (pa_cons pe_int (pa_cons pe_int (pa_cons pe_int (pa_cons pe_int (pa_cons pe_int pa_nil)))))))) pa_nil))))
      (pss_one (ps_ret (pe_join pe_str (pe_lc (own := [("_law_turn", 2)]) (g := gName 2) (by rfl) sc_l_name.nd (pi_range1 (by rfl) z_range (pa_cons (pv 1) pa_nil)) (blkOk_by (own := [("_law_turn", 2)]) (N := ["_law_dice_here", "_law_much", "_law_turn"]) (sc := defScope s_l_name) (by decide +kernel)) (fun _ _ _ _ _ => pg_name (i := 2) sc_l_name.nd rfl (Or.inl rfl)) (fun _ _ _ _ _ => pts_nil) (fun _ _ _ _ _ => (pe_cg G_l_pick hc hr (by rfl) (pa_cons (pv 0) (pa_cons pe_str pa_nil))))))))), ?_⟩
    refine ⟨_, rfl, by show 7 ≤ sizeLine; decide, fun l nl => ⟨d, _, (fun v => ∃ k : Int, v = .int k ∧ 1 ≤ k ∧ k ≤ 8), rfl, (Past.new hd nl).dice, .inl ⟨l, _, rfl, hd.ne nl, .inl (.inl (.inl upd_same)), (fun z => nomatch z), by show 7 ≤ 1000000; decide, fun v hv => ?_⟩, fun v H1 p1 hv => ?_⟩⟩
    · simp only [List.mem_cons, List.not_mem_nil, or_false] at hv
      rcases hv with rfl | rfl | rfl | rfl | rfl | rfl | rfl <;> exact ⟨_, rfl, by decide, by decide⟩
    · obtain ⟨m, rfl, m1, m8⟩ := hv
      have p1 := (Past.new (o := .lst [.int 1, .int 1, .int 2, .int 3, .int 4, .int 7, .int 8]) hd nl).trans p1
      refine ⟨⟨_, rfl⟩, _, rfl, m, rfl, by omega, by omega, fun p np => ?_⟩
      have pd : p ≠ d := p1.dice.ne np
      refine lc_range (lo := 0) (n := m.toNat) (fun i H' => Past d H H' ∧ ∃ ys : List Str, H' p = some (.lst (ys.map V.str)) ∧ ys.length = i ∧ ∀ y ∈ ys, y.length = 1 ∧ Low y) ⟨p1.trans (Past.new p1.dice np), [], upd_same, rfl, nofun⟩ (fun i H' hi ⟨pH, ys, hp, hl, h1⟩ => ?_) (fun H' ⟨pH, ys, hp, hl, h1⟩ => ?_)
      · refine ⟨rfl, ?_⟩
        refine ⟨_, rfl, d, _, (fun v => ∃ y : Str, v = V.str y ∧ y.length = 1 ∧ Low y), rfl, pH.dice, .inr ⟨"abcdefghijklmnopqrstuvwxyz", rfl, by decide +kernel, by decide +kernel, fun c h => ⟨_, rfl, rfl, fun x hx => ?_⟩⟩, fun v H3 p3 hv => ?_⟩
        · have ex : x = c := by simpa using hx
          rw [ex]
          exact List.all_eq_true.mp (show ("abcdefghijklmnopqrstuvwxyz" : Str).cps.toList.all low = true by decide +kernel) c h
        · obtain ⟨y, rfl, hy⟩ := hv
          refine ⟨ys.map V.str, p3.keep pd hp, ?_, ?_, ys ++ [y], ?_, ?_, ?_⟩
          · rw [List.length_map, hl]
            exact Nat.lt_of_lt_of_le (show i < 10 by omega) (by decide)
          · have pp := pH.trans p3
            refine ⟨fun b o n e => ?_, ?_⟩
            · have bp : b ≠ p := fun z => by
                rw [z] at e
                have := p1.1 p o pd e
                rw [np] at this
                cases this
              rw [upd_ne bp]
              exact pp.1 b o n e
            · obtain ⟨g, s, c, e⟩ := pp.dice
              exact ⟨g, s, c, by rw [upd_ne pd.symm]; exact e⟩
          · rw [upd_same, List.map_append]
            rfl
          · rw [List.length_append, hl]
            rfl
          · intro z hz
            rcases List.mem_append.mp hz with hz | hz
            · exact h1 z hz
            · rw [List.mem_singleton.mp hz]
              exact hy
      · refine ⟨_, p, ys, rfl, rfl, .inl (.inl (.inl hp)), ?_, ?_⟩
        · rw [sum_ones (fun y hy => (h1 y hy).1), hl]
          show m.toNat + ys.length * 0 ≤ 16777216
          omega
        · have wl : (Txt.join (Str.ofString "") ys).length = m.toNat := (PySem.W.KT.join_ones ys fun y hy => (h1 y hy).1).trans hl
          exact q _ H' pH (low_nam (low_join fun y hy => (h1 y hy).2) (by omega) (by omega))
theorem ok_l_is_name (D : Df K mg "_law_is_name" s_l_is_name ["_law_word"]) (z_len : mg "len" = none) : Cg P w K mg base 1 "_law_is_name" spNam := by
  refine D.ok sc_l_is_name (fun vs H Q E h => ?_) (fun cdv A outer s H vs Q E f hc hr h => ?_)
  · obtain ⟨z, rfl, _⟩ := h
    rfl
  · obtain ⟨z, rfl, hz, az, q⟩ := h
    refine ⟨_, (pss_one (ps_ret (pe_and (pe_chain op_le op_le pe_int (pe_callB call_len (by rfl) z_len (by decide +kernel) (pa_cons (pv 0) pa_nil)) pe_int) (pe_one (pe_cmpR (op_eqD hr.units) (pe_lc (own := [("_law_sign", 1)]) (g := gName 1) (by rfl) sc_l_is_name.nd (pi_str (pv 0)) (blkOk_by (own := [("_law_sign", 1)]) (N := ["_law_word", "_law_sign"]) (sc := defScope s_l_is_name) (by decide +kernel)) (fun _ _ _ _ _ => pg_name (i := 1) sc_l_is_name.nd rfl (Or.inl rfl)) (fun _ _ _ _ _ => (pts_one (PW.pt (pw_or (pt_cmpR op_lt_str (pv 1) pe_str (nomark _)) (pw_or1 (pt_cmpR op_gt_str (pv 1) pe_str (nomark _))))))) (fun _ _ _ _ _ => (pv 1))) (pe_lst pa_nil) (nomark _)))))), ?_⟩
    have q' := q H (Same.refl H)
    rw [isNam_str] at q'
    refine ⟨_, rfl, _, z.length, rfl, ⟨fits_million (by omega), rfl⟩, _, _, rfl, rfl, _, rfl, ite2 (fun e1 => ⟨_, _, rfl, rfl, _, rfl, ite2 (fun e8 => ?_) (fun e8 => ?_)⟩) (fun e1 => ⟨_, rfl, iteF ?_⟩)⟩
    · have h1 := of_decide_eq_true e1
      have h8' := of_decide_eq_true e8
      have h0 : ¬ (z.length : Int) = 0 := by omega
      have h8 : ¬ (8 : Int) < z.length := by omega
      have el : z.cps.toList.length = z.length := by simp [Str.length]
      refine ⟨_, rfl, z, rfl, fun D nD => lc_it walk_str (fun i H' => H' = upd H D (.lst (odd1 (z.cps.toList.take i)))) rfl (fun _ _ _ _ => trivial) (fun i x H1 H' hi e1 y => ?_) (fun H' e1 => ?_)⟩
      · obtain ⟨rfl, c, hc, rfl⟩ := y
        subst e1
        have hc' : z.cps.toList[i]? = some c := by simpa using hc
        have s1 : odd1 (z.cps.toList.take (i + 1)) = odd1 (z.cps.toList.take i) ++ (if low c = true then [] else [V.str ⟨#[c]⟩]) := by
          rw [List.take_add_one, hc']
          exact odd1_snoc _ c
        have room : (odd1 (z.cps.toList.take i)).length < sizeLine := by
          have l1 := odd1_len (z.cps.toList.take i)
          rw [List.length_take] at l1
          have : 1000 < sizeLine := by decide
          omega
        refine ⟨rfl, _, rfl, _, _, rfl, rfl, _, rfl, ite2 (fun e => ?_) (fun e => ⟨_, rfl, _, _, rfl, rfl, _, rfl, ?_⟩)⟩
        · have lt : c < 97 := of_decide_eq_true ((one_lt c 97).symm.trans e)
          have lc : low c = false := by
            unfold low
            rw [decide_eq_false (by omega)]
            rfl
          rw [lc] at s1
          refine ⟨_, rfl, _, upd_same, room, ?_⟩
          rw [s1, upd_upd]
          rfl
        · have ge : ¬ c < 97 := fun n => e ((one_lt c 97).trans (decide_eq_true n))
          show (if decide ([122] < [c]) = true then _ else _)
          rw [one_lt]
          refine ite2 (fun e2 => ?_) (fun e2 => ?_)
          · have gt := of_decide_eq_true e2
            have lc : low c = false := by
              unfold low
              rw [decide_eq_false (show ¬ c ≤ 122 by omega), Bool.and_false]
            rw [lc] at s1
            refine ⟨_, rfl, _, upd_same, room, ?_⟩
            rw [s1, upd_upd]
            rfl
          · have le : ¬ 122 < c := fun n => e2 (decide_eq_true n)
            have lc : low c = true := by
              unfold low
              rw [decide_eq_true (show 97 ≤ c by omega), decide_eq_true (show c ≤ 122 by omega)]
              rfl
            rw [lc] at s1
            rw [s1]
            simp
      · subst e1
        have full : z.cps.toList.take z.cps.size = z.cps.toList := List.take_of_length_le (by simp)
        rw [full]
        refine ⟨Nat.zero_le _, fun p np => ?_⟩
        have s2 := same_new (o := .lst []) np
        have as1 : ∀ y ∈ ((z.cps.toList.filter (fun c => !low c)).map fun c => (⟨#[c]⟩ : Str)), Asc y := fun y hy => by
          obtain ⟨c, hc, rfl⟩ := List.mem_map.mp hy
          exact asc_one az (List.mem_filter.mp hc).1
        have eo : odd1 z.cps.toList = ((z.cps.toList.filter (fun c => !low c)).map fun c => (⟨#[c]⟩ : Str)).map V.str := by
          unfold odd1
          rw [List.map_map]
          rfl
        refine ⟨_, .list [], .lst (.inl (.inl (s2 _ _ upd_same))) (eo ▸ dp_strs _), .lst (.inl (.inl upd_same)) .nil, shaped_strs as1, by decide, ?_⟩
        have ev : PyData.eqv (.list (((z.cps.toList.filter (fun c => !low c)).map fun c => (⟨#[c]⟩ : Str)).map PyData.str)) (.list []) = z.cps.toList.all low := by
          rw [← odd1_nil, eo]
          cases ((z.cps.toList.filter (fun c => !low c)).map fun c => (⟨#[c]⟩ : Str)) <;> rfl
        rw [ev]
        have q2 := q _ ((same_new nD).trans s2)
        rw [isNam_str, decide_eq_true (show 1 ≤ z.length by omega), decide_eq_true (show z.length ≤ 8 by omega), Bool.true_and, Bool.true_and] at q2
        exact q2
    · have h8 : ¬ (z.length : Int) ≤ 8 := fun n => e8 (decide_eq_true n)
      rw [decide_eq_false (show ¬ z.length ≤ 8 by omega), Bool.and_false, Bool.false_and] at q'
      exact q'
    · have h1 : ¬ (1 : Int) ≤ z.length := fun n => e1 (decide_eq_true n)
      rw [decide_eq_false (show ¬ 1 ≤ z.length by omega), Bool.false_and, Bool.false_and] at q'
      exact q'
end
end K03
set_option Elab.async false
set_option linter.all false
set_option autoImplicit false
set_option maxRecDepth 100000
set_option maxHeartbeats 4000000
namespace K03
open PySem PySem.Spec PyProof.Rows L2 Vb Wd
abbrev s_l_read_line : Stmt := topS 29
theorem sc_l_read_line : FnScope ["_law_line", "_law_words", "_law_children", "_law_word"] ["_law_line"] (defScope s_l_read_line) := ⟨rfl, rfl, rfl, by decide +kernel, rfl, by decide +kernel, by decide +kernel⟩
/-- what the law's own reader tells -/
def Told1 (H : Hp) : Option (Str × Str × List (Str × Int)) → V → Prop
  | none, v => v = .non
  | some (n, so, cs), v => ∃ p ch ts, v = .ref p ∧ H p = some (.tup [.str n, .str so, .ref ch]) ∧ Kids H ch ts cs
def spRead : Sp := fun vs H Q _ => ∃ z : Str, vs = [.str z] ∧ z.length ≤ 1000 ∧ Asc z ∧ ∀ v H', Same H H' → Told1 H' (readW (Txt.split z " ")) v → Q v H'
theorem child_short {y : Str} (h : y.length < 2) : childB y = false := by
  have e : isNam (.str (initS y)) = false := by
    cases e : isNam (.str (initS y)) with
    | false => rfl
    | true =>
      have h1 := (nam_len e).1
      have h2 : (initS y).length ≤ y.length - 1 := by
        unfold initS cutS
        simp only [Str.length]
        have e1 : HT.sIx y.cps.size 0 none = 0 := rfl
        have e2 : HT.sIx y.cps.size y.cps.size (some (-1)) = y.cps.size - 1 := by
          show ((-1 : Int) + (y.cps.size : Int)).toNat = _
          omega
        simp only [Str.length] at *
        rw [e1, e2, List.drop_zero, Nat.sub_zero]
        simp only [List.size_toArray, List.length_take]
        omega
      omega
  unfold childB
  rw [e]
  rfl
theorem digC_of {y : Str} {c : Nat} (h : lastC y = some c) : digC y = (decide (48 ≤ c) && decide (c ≤ 51)) := by
  unfold digC
  rw [h]
theorem dig_mem (c : Nat) : (c ∈ ("0123" : Str).cps.toList) ↔ (48 ≤ c ∧ c ≤ 51) := by
  have e : ("0123" : Str).cps.toList = [48, 49, 50, 51] := by decide +kernel
  rw [e]
  simp only [List.mem_cons, List.not_mem_nil, or_false]
  omega
section
variable {P : Program} {w : World} {K : PySem.W.Frag} {mg : Str → Option Value} {base : Heap}
theorem ok_l_read_line (D : Df K mg "_law_read_line" s_l_read_line ["_law_line"]) (G_l_is_name : Cg P w K mg base 1 "_law_is_name" spNam) (z_len : mg "len" = none) (z_int : mg "int" = none) (z_tuple : mg "tuple" = none) : Cg P w K mg base 2 "_law_read_line" spRead := by
  refine D.ok sc_l_read_line (fun vs H Q E h => ?_) (fun cdv A outer s H vs Q E f hc hr h => ?_)
  · obtain ⟨z, rfl, _⟩ := h
    rfl
  · obtain ⟨z, rfl, hz, az, q⟩ := h
    refine ⟨_, (pss_cons (ps_set (i := 1) sc_l_read_line.nd rfl (Or.inl rfl) (pe_bm PySem.F.plainAttrs_str PySem.F.slot_str_split PySem.F.type_str_split mt_split (pv 0) (pa_cons pe_str pa_nil)))
      (pss_cons (ps_if (PW.pt (pw_or (pt_cmpR op_lt (pe_callB call_len_seq (by rfl) z_len PySem.boot_len (pa_cons (pv 1) pa_nil)) pe_int (nomark _)) (pw_or (pt_cmpR op_gt (pe_callB call_len_seq (by rfl) z_len PySem.boot_len (pa_cons (pv 1) pa_nil)) pe_int (nomark _)) (pw_or1 (pt_cmpR op_ne (pe_ix (ix_list : IxR _ (rIxL K)) (pv 1) pe_int (fun _ _ => rfl)) pe_str (nomark _))))))
      (pss_one (ps_ret pe_non))
      pss_nil)
      (pss_cons (ps_if (PW.pt (pw_or (pt_not (pt_val (pe_cg G_l_is_name hc hr (by rfl) (pa_cons (pe_ix (ix_list : IxR _ (rIxL K)) (pv 1) pe_int (fun _ _ => rfl)) pa_nil)))) (pw_or1 (pt_not (pt_val (pe_cg G_l_is_name hc hr (by rfl) (pa_cons (pe_ix (ix_list : IxR _ (rIxL K)) (pv 1) pe_int (fun _ _ => rfl)) pa_nil)))))))
      (pss_one (ps_ret pe_non))
      pss_nil)
      (pss_cons (ps_set (i := 2) sc_l_read_line.nd rfl (Or.inl rfl) (pe_lst pa_nil))
      (pss_cons (ps_for PassesOwn.never rfl (pi_list (pe_slice (sl_list : SlR _ (rSlL K)) (pv 1) (po_some pe_int) po_none)) (pg_name (i := 3) sc_l_read_line.nd rfl (Or.inl rfl))
      (pss_cons (ps_if (PW.pt (pw_or (pt_cmpR op_lt (pe_callB call_len (by rfl) z_len (by decide +kernel) (pa_cons (pv 3) pa_nil)) pe_int (nomark _)) (pw_or (pt_cmpR op_notIn_sign (pe_ix ix_str (pv 3) (pe_un un_neg pe_int) (fun _ _ => rfl)) pe_str (by rfl)) (pw_or1 (pt_not (pt_val (pe_cg G_l_is_name hc hr (by rfl) (pa_cons (pe_slice sl_str (pv 3) po_none (po_some (pe_un un_neg pe_int))) pa_nil))))))))
      (pss_one (ps_ret pe_non))
      pss_nil)
      (pss_one (ps_expr (pe_bm PySem.F.plainAttrs_list PySem.F.slot_list_append PySem.F.type_list_append mt_append (pv 2) (pa_cons (pe_tup (pa_cons (pe_slice sl_str (pv 3) po_none (po_some (pe_un un_neg pe_int))) (pa_cons (pe_callTy call_int_str (by rfl) z_int (by decide +kernel) (pa_cons (pe_ix ix_str (pv 3) (pe_un un_neg pe_int) (fun _ _ => rfl)) pa_nil)) pa_nil))) pa_nil))))))
      (pss_one (ps_ret (pe_tup (pa_cons (pe_ix (ix_list : IxR _ (rIxL K)) (pv 1) pe_int (fun _ _ => rfl)) (pa_cons (pe_ix (ix_list : IxR _ (rIxL K)) (pv 1) pe_int (fun _ _ => rfl)) (pa_cons (pe_callTy (cr_tuple : CallR _ _ (rTup K)) (by rfl) z_tuple (by decide +kernel) (pa_cons (pv 2) pa_nil)) pa_nil))))))))))), ?_⟩
    obtain ⟨pl, few⟩ := split_plain (n := 1000) hz az
    refine ⟨_, rfl, rfl, z, _, rfl, rfl, by decide +kernel, Nat.le_trans (show z.length + 2 ≤ 2000 by omega) (by decide), fun p np => ?_⟩
    generalize Txt.split z " " = ws at pl few q ⊢
    have len : (ws.map V.str).length = ws.length := List.length_map ..
    have sp := same_new (o := .lst (ws.map V.str)) np
    have hL : ∀ {H' : Hp}, Same (upd H p (.lst (ws.map V.str))) H' → SqL K H' p (ws.map V.str) := fun s => .inl (.inl (s _ _ upd_same))
    have no : ∀ H', Same H H' → formB ws = false → Q .non H' := fun H' s e => q .non H' s (by unfold readW; rw [e]; rfl)
    refine ⟨_, rfl, p, _, rfl, .inl (hL (Same.refl _)), ?_⟩
    rw [len]
    refine ⟨_, _, rfl, rfl, _, rfl, ?_⟩
    by_cases h5 : 5 ≤ ws.length
    · refine ite2 (fun n => absurd (of_decide_eq_true n) (by omega)) (fun _ => ?_)
      refine ⟨_, rfl, p, _, rfl, .inl (hL (Same.refl _)), ?_⟩
      rw [len]
      refine ⟨_, _, rfl, rfl, _, rfl, ?_⟩
      by_cases h7 : ws.length ≤ 7
      · refine ite2 (fun n => absurd (of_decide_eq_true n) (by omega)) (fun _ => ?_)
        have a0 : atI (ws.map V.str) 0 = some (.str (ws.getD 0 "")) := at_str (j := 0) (by omega)
        have a1 : atI (ws.map V.str) 1 = some (.str (ws.getD 1 "")) := at_str (j := 1) (by omega)
        have a2 : atI (ws.map V.str) 2 = some (.str (ws.getD 2 "")) := at_str (j := 2) (by omega)
        refine ⟨_, rfl, p, _, _, _, rfl, rfl, hL (Same.refl _), a0, rfl, _, rfl, ?_⟩
        by_cases e0 : ws.getD 0 "" = "form"
        · rw [decide_eq_true (show V.str (ws.getD 0 "") = V.str "form" from congrArg V.str e0)]
          refine iteF ?_
          have m1 := pl _ (getD_mem (ws := ws) (j := 1) (by omega))
          have m2 := pl _ (getD_mem (ws := ws) (j := 2) (by omega))
          refine ⟨_, rfl, p, _, _, _, rfl, rfl, hL (Same.refl _), a1, _, rfl, m1.1, m1.2, fun H1 s1 => ⟨_, rfl, ?_⟩⟩
          cases e1 : isNam (.str (ws.getD 1 "")) with
          | false => exact iteT (no H1 (sp.trans s1) (by unfold formB; rw [e1]; simp))
          | true =>
            refine iteF ⟨_, rfl, p, _, _, _, rfl, rfl, hL s1, a2, _, rfl, m2.1, m2.2, fun H2 s2 => ⟨_, rfl, ?_⟩⟩
            have s12 := s1.trans s2
            cases e2 : isNam (.str (ws.getD 2 "")) with
            | false => exact iteT (no H2 (sp.trans s12) (by unfold formB; rw [e2]; simp))
            | true =>
              have fe : formB ws = (ws.drop 3).all childB := by
                unfold formB
                rw [decide_eq_true h5, decide_eq_true h7, decide_eq_true e0, e1, e2]
                rfl
              refine iteF ⟨by show 0 ≤ sizeLine; decide, fun c nc => ?_⟩
              have cp : p ≠ c := ne_of_none (s12 _ _ upd_same) nc
              have sc := same_new (o := .lst []) nc
              refine ⟨_, rfl, _, rfl, p, _, rfl, hL (s12.trans sc), fun l nl => ⟨l, rfl, ⟨_, .inl (.inl upd_same)⟩, ?_⟩⟩
              rw [cut3]
              have sl := same_new (o := .lst ((ws.drop 3).map V.str)) nl
              have cl : c ≠ l := ne_of_none upd_same nl
              have s3 : Same H (upd (upd H2 c (.lst [])) l (.lst ((ws.drop 3).map V.str))) := ((sp.trans s12).trans sc).trans sl
              generalize eH3 : upd (upd H2 c (.lst [])) l (.lst ((ws.drop 3).map V.str)) = H3 at s3 ⊢
              have h3l : H3 l = some (.lst ((ws.drop 3).map V.str)) := by rw [← eH3, upd_same]
              have h3c : H3 c = some (.lst []) := by rw [← eH3, upd_ne cl, upd_same]
              have h3p : H3 p = some (.lst (ws.map V.str)) := by rw [← eH3]; exact sl _ _ (sc _ _ (s12 _ _ upd_same))
              have hb : ∀ b x, H b = some x → b ≠ c := fun b x e => ne_of_none (s12 _ _ (sp _ _ e)) nc
              have dl : (ws.drop 3).length = ws.length - 3 := List.length_drop ..
              have plk : ∀ y ∈ ws.drop 3, y.length ≤ 1000 ∧ Asc y := fun y hy => pl y (List.mem_of_mem_drop hy)
              generalize ek : ws.drop 3 = kids at fe h3l dl plk ⊢
              refine for_list (K := K) (a := l) (xs := kids.map V.str) (fun i σ H' => (∃ o, σ = [some (.str z), some (.ref p), some (.ref c), o]) ∧ (∀ b x, b ≠ c → H3 b = some x → H' b = some x) ∧ (∀ y ∈ kids.take i, childB y = true) ∧
                ∃ ts : List Addr, ts.length = i ∧ H' c = some (.lst (ts.map V.ref)) ∧ ∀ (j : Nat) (t : Addr) (y : Str), ts[j]? = some t → kids[j]? = some y → Kid H' t (childV y).1 (childV y).2)
                ⟨⟨none, rfl⟩, fun _ _ _ e => e, fun y hy => (nomatch hy), [], rfl, h3c, fun j t y z => nomatch z⟩ (fun i σ H' _ h => .inl (.inl (h.2.1 _ _ cl.symm h3l))) (fun i x σ H4 hx h => ?_) (fun σ H4 h => ?_)
              · obtain ⟨⟨o, rfl⟩, k4, good, ts, tl, e4, tk4⟩ := h
                have s4 : Same H H4 := fun b x e => k4 b x (hb b x e) (s3 b x e)
                rw [List.getElem?_map] at hx
                obtain ⟨y, hy, rfl⟩ := Option.map_eq_some_iff.mp hx
                have my : y ∈ kids := List.mem_of_getElem? hy
                have py := plk y my
                have fy : y.length ≤ sizeLine := fits_million (by omega)
                have il : i < kids.length := (List.getElem?_eq_some_iff.mp hy).1
                have bad : childB y = false → ∀ H', Same H H' → Q .non H' := fun e H' s' => no H' s' (by
                  rw [fe, List.all_eq_false]
                  exact ⟨y, my, by rw [e]; exact Bool.false_ne_true⟩)
                refine ⟨_, rfl, _, y.length, rfl, ⟨fy, rfl⟩, _, _, rfl, rfl, _, rfl, ?_⟩
                by_cases y2 : 2 ≤ y.length
                · refine ite2 (fun n => absurd (of_decide_eq_true n) (by omega)) (fun _ => ?_)
                  obtain ⟨r, c1, el, ec⟩ := last_of (z := y) (by omega)
                  have at_ : atI y.cps.toList (-1) = some c1 := by
                    rw [el]
                    exact atI_last r c1
                  refine ⟨_, rfl, _, rfl, y, _, c1, rfl, rfl, fy, at_, c1, _, rfl, rfl, _, rfl, ?_⟩
                  have dg : digC y = decide (c1 ∈ ("0123" : Str).cps.toList) := by
                    rw [digC_of ec]
                    by_cases h : c1 ∈ ("0123" : Str).cps.toList
                    · obtain ⟨a, b⟩ := (dig_mem c1).mp h
                      rw [decide_eq_true h, decide_eq_true a, decide_eq_true b]
                      rfl
                    · rw [decide_eq_false h]
                      by_cases a : 48 ≤ c1
                      · rw [decide_eq_false (show ¬ c1 ≤ 51 from fun b => h ((dig_mem c1).mpr ⟨a, b⟩)), Bool.and_false]
                      · rw [decide_eq_false a]
                        rfl
                  rw [← dg]
                  cases e4' : digC y with
                  | false => exact iteT (bad (by unfold childB; rw [e4', Bool.and_false]) H4 s4)
                  | true =>
                    refine iteF ⟨_, rfl, _, rfl, ⟨_, rfl, y, rfl, fy, initS y, rfl, Nat.le_trans (init_len y) py.1, asc_cut py.2 _ _, fun H5 s5 => ⟨_, rfl, ?_⟩⟩⟩
                    cases e5 : isNam (.str (initS y)) with
                    | false => exact iteT (bad (by unfold childB; rw [e5]; rfl) H5 (s4.trans s5))
                    | true =>
                      have gy : childB y = true := by unfold childB; rw [e5, e4']; rfl
                      obtain ⟨l', c', el', lo, hi, ev, en⟩ := child_last gy
                      have ecc : c' = c1 := by
                        have := el.symm.trans el'
                        have := congrArg List.getLast? this
                        simpa using this.symm
                      subst ecc
                      have it := int_one c' (by omega) lo
                      refine iteF ?_
                      have e5c : H5 c = some (.lst (ts.map V.ref)) := s5 _ _ e4
                      refine ⟨_, rfl, .inl ⟨rfl, _, .inl (.inl e5c)⟩, _, rfl, _, rfl, _, rfl, y, rfl, fy, _, rfl, _, rfl, y, _, c', rfl, rfl, fy, at_, _, _, rfl, it, (by show 1 ≤ 640; decide), by show 2 ≤ sizeLine; decide, fun t' nt' => ?_⟩
                      have ct : c ≠ t' := ne_of_none e5c nt'
                      refine ⟨c, ts.map V.ref, _, rfl, rfl, by rw [upd_ne ct]; exact e5c, ?_, ⟨_, rfl⟩, fun b x bc e => ?_, fun y' hy' => ?_, ts ++ [t'], by rw [List.length_append, tl]; rfl, by rw [upd_same, List.map_append]; rfl, fun j u y' hu hy' => ?_⟩
                      · rw [List.length_map, tl]
                        exact Nat.lt_of_le_of_lt (show i ≤ 10 by omega) (by decide)
                      · rw [upd_ne bc]
                        have := s5 b x (k4 b x bc e)
                        rw [upd_ne (ne_of_none this nt')]
                        exact this
                      · rw [List.take_add_one, hy] at hy'
                        rcases List.mem_append.mp hy' with hy' | hy'
                        · exact good y' hy'
                        · cases (show y' = y by simpa using hy')
                          exact gy
                      · have ju : j < (ts ++ [t']).length := (List.getElem?_eq_some_iff.mp hu).1
                        rw [List.length_append, List.length_singleton] at ju
                        by_cases hj : j < ts.length
                        · rw [List.getElem?_append_left hj] at hu
                          have k := (tk4 j u y' hu hy').same s5
                          have uD : u ≠ c := fun z => by
                            have a := k.at_
                            rw [z, e5c] at a
                            cases a
                          have ut : u ≠ t' := ne_of_none k.at_ nt'
                          exact ⟨by rw [upd_ne uD, upd_ne ut]; exact k.at_, k.nam, k.plain, k.lo, k.hi⟩
                        · have ej : j = i := by omega
                          subst ej
                          rw [List.getElem?_append_right (by omega), ← tl, Nat.sub_self] at hu
                          cases hu
                          rw [hy] at hy'
                          cases hy'
                          exact ⟨by rw [upd_ne (fun z => ct z.symm), upd_same, ev]; rfl, en, ⟨Nat.le_trans (init_len y) py.1, asc_cut py.2 _ _⟩, by rw [ev]; omega, by rw [ev]; omega⟩
                · refine ite2 (fun _ => bad (child_short (by omega)) H4 s4) (fun n => absurd (decide_eq_true (show (y.length : Int) < 2 by omega)) n)
              · obtain ⟨⟨o, rfl⟩, k4, good, ts, tl, e4, tk4⟩ := h
                rw [List.length_map] at tl good
                rw [List.take_of_length_le (Nat.le_refl _)] at good
                have s4 : Same H H4 := fun b x e => k4 b x (hb b x e) (s3 b x e)
                have h4p : SqL K H4 p (ws.map V.str) := .inl (.inl (k4 _ _ cp h3p))
                have fe1 : formB ws = true := by
                  rw [fe, List.all_eq_true]
                  exact good
                refine ⟨_, rfl, p, _, _, _, rfl, rfl, h4p, a1, _, rfl, p, _, _, _, rfl, rfl, h4p, a2, _, rfl, c, _, rfl, .inl ⟨.inl (.inl e4), fun t nt => ?_⟩⟩
                have st := same_new (o := .tup (ts.map V.ref)) nt
                refine ⟨by show 3 ≤ sizeLine; decide, fun r nr => ?_⟩
                have sr := same_new (o := .tup [.str (ws.getD 1 ""), .str (ws.getD 2 ""), .ref t]) nr
                refine q _ _ ((s4.trans st).trans sr) ?_
                unfold readW
                rw [fe1, ek]
                refine ⟨r, t, ts, rfl, upd_same, sr _ _ upd_same, by rw [tl, List.length_map], by omega, by omega, fun i u d hu hd => ?_⟩
                rw [List.getElem?_map] at hd
                obtain ⟨y, hy, rfl⟩ := Option.map_eq_some_iff.mp hd
                exact (tk4 i u y hu hy).same (st.trans sr)
        · have e0' : decide (V.str (ws.getD 0 "") = V.str "form") = false := decide_eq_false fun z => e0 (V.str.inj z)
          rw [e0']
          refine iteT (no _ sp ?_)
          unfold formB
          rw [decide_eq_false e0]
          simp
      · refine ite2 (fun _ => no _ sp ?_) (fun n => absurd (decide_eq_true (show (7 : Int) < (ws.length : Int) by omega)) n)
        unfold formB
        rw [decide_eq_false h7]
        simp
    · refine ite2 (fun _ => no _ sp ?_) (fun n => absurd (decide_eq_true (show (ws.length : Int) < 5 by omega)) n)
      unfold formB
      rw [decide_eq_false h5]
      simp
end
end K03
set_option Elab.async false
set_option linter.all false
set_option autoImplicit false
set_option maxRecDepth 100000
set_option maxHeartbeats 4000000
namespace K03
open PySem PySem.Spec PyProof.Rows L2 Vb Wd
abbrev s_l_bent : Stmt := topS 30
theorem sc_l_bent : FnScope ["_law_dice_here", "_law_line", "_law_at", "_law_sign", "_law_words", "_law_way", "_law_spot"] ["_law_dice_here", "_law_line"] (defScope s_l_bent) := ⟨rfl, rfl, rfl, by decide +kernel, rfl, by decide +kernel, by decide +kernel⟩
/-! ### lengths -/
def lens (l : List Str) : Nat := (l.map (·.length)).sum
theorem sum_spl (S : List Nat) : ∀ (x : List Nat) (k : Nat) (acc : List Nat), ((TL.spl S k acc x).map (·.length)).sum ≤ acc.length + x.length
  | [], k, acc => by rw [TL.spl_nil]; simp
  | c :: r, 0, acc => by
    cases e : TL.pre S (c :: r) with
    | true =>
      rw [TL.spl_hit e, List.map_cons, List.sum_cons]
      have := sum_spl S r (S.length - 1) []
      simp only [List.length_cons, List.length_nil] at this ⊢
      omega
    | false =>
      rw [TL.spl_miss e]
      have := sum_spl S r 0 (acc ++ [c])
      simp only [List.length_append, List.length_cons, List.length_nil] at this ⊢
      omega
  | c :: r, k + 1, acc => by
    have := sum_spl S r k acc
    show ((TL.spl S k acc r).map _).sum ≤ _
    simp only [List.length_cons]
    omega
theorem spl_ne (S : List Nat) : ∀ (x : List Nat) (k : Nat) (acc : List Nat), TL.spl S k acc x ≠ []
  | [], k, acc => by rw [TL.spl_nil]; simp
  | c :: r, 0, acc => by
    cases e : TL.pre S (c :: r) with
    | true => rw [TL.spl_hit e]; simp
    | false => rw [TL.spl_miss e]; exact spl_ne S r 0 _
  | c :: r, k + 1, acc => spl_ne S r k acc
theorem split_more (z : Str) : lens (Txt.split z " ") ≤ z.length ∧ 1 ≤ (Txt.split z " ").length := by
  have e := split_spl1 z
  have el : (TL.tl z).length = z.length := by simp [TL.tl, Str.length]
  constructor
  · have h := sum_spl [32] (TL.tl z) 0 []
    rw [← e, List.map_map] at h
    have e2 : ((Txt.split z " ").map ((·.length) ∘ TL.tl)) = (Txt.split z " ").map (·.length) := List.map_congr_left fun y _ => by simp [TL.tl, Str.length]
    rw [e2] at h
    unfold lens
    simp only [List.length_nil] at h
    omega
  · have h := spl_ne [32] (TL.tl z) 0 []
    rw [← e] at h
    have : (Txt.split z " ") ≠ [] := fun z' => h (by rw [z']; rfl)
    exact List.length_pos_iff.mpr this
theorem join_len (y : Str) : ∀ l : List Str, (Str.join y l).length ≤ lens l + l.length * y.length
  | [] => Nat.zero_le _
  | [x] => by
    show x.length ≤ _
    simp [lens]
  | x :: z :: r => by
    have h := join_len y (z :: r)
    show (x ++ y ++ Str.join y (z :: r)).length ≤ _
    rw [PySem.Str.length_append, PySem.Str.length_append]
    simp only [lens, List.map_cons, List.sum_cons, List.length_cons] at h ⊢
    have e : (r.length + 1 + 1) * y.length = (r.length + 1) * y.length + y.length := Nat.succ_mul _ _
    omega
theorem lens_app (a b : List Str) : lens (a ++ b) = lens a + lens b := by
  unfold lens
  rw [List.map_append, List.sum_append]
theorem lens_take : ∀ (l : List Str) (n : Nat), lens (l.take n) ≤ lens l
  | [], n => by rw [List.take_nil]; exact Nat.le_refl _
  | x :: r, 0 => Nat.zero_le _
  | x :: r, n + 1 => by
    have := lens_take r n
    simp only [lens, List.take_succ_cons, List.map_cons, List.sum_cons] at this ⊢
    omega
theorem lens_drop : ∀ (l : List Str) (n : Nat), lens (l.drop n) ≤ lens l
  | [], n => by rw [List.drop_nil]; exact Nat.le_refl _
  | x :: r, 0 => Nat.le_refl _
  | x :: r, n + 1 => by
    have := lens_drop r n
    simp only [lens, List.drop_succ_cons, List.map_cons, List.sum_cons] at this ⊢
    omega
/-- a slice of texts -/
def cutW (l : List Str) (lo hi : Option Int) : List Str := (l.drop (HT.sIx l.length 0 lo)).take (HT.sIx l.length l.length hi - HT.sIx l.length 0 lo)
theorem cutV_str (l : List Str) (lo hi : Option Int) : cutV (l.map V.str) lo hi = (cutW l lo hi).map V.str := by
  unfold cutV cutW
  rw [List.length_map, List.map_take, List.map_drop]
theorem cutW_mem {l : List Str} {lo hi : Option Int} {y : Str} (h : y ∈ cutW l lo hi) : y ∈ l := List.mem_of_mem_drop (List.mem_of_mem_take h)
theorem cutW_len (l : List Str) (lo hi : Option Int) : (cutW l lo hi).length ≤ l.length ∧ lens (cutW l lo hi) ≤ lens l := by
  unfold cutW
  constructor
  · rw [List.length_take, List.length_drop]
    omega
  · exact Nat.le_trans (lens_take _ _) (lens_drop _ _)
theorem asc_joinB {ys : List Str} (a : ∀ y ∈ ys, Asc y) : Asc (Txt.join " " ys) := by
  rw [TL.join_eq]
  have go : ∀ l : List Str, (∀ y ∈ l, Asc y) → Asc (Str.join " " l) := fun l => by
    induction l with
    | nil => exact fun _ c hc => nomatch hc
    | cons x r ih =>
      intro h
      cases r with
      | nil => exact h x List.mem_cons_self
      | cons z r =>
        show Asc (x ++ " " ++ Str.join " " (z :: r))
        exact asc_app (asc_app (h x List.mem_cons_self) (asc_lit (by decide +kernel))) (ih fun y hy => h y (List.mem_cons_of_mem _ hy))
  exact go ys a
def spBent : Sp := fun vs H Q _ => ∃ (d : Addr) (z : Str), vs = [.ref d, .str z] ∧ Dice H d ∧ z.length ≤ 100 ∧ Asc z ∧ ∀ z' H', Past d H H' → z'.length ≤ 1000 → Asc z' → Q (.str z') H'
section
variable {P : Program} {w : World} {K : PySem.W.Frag} {mg : Str → Option Value} {base : Heap}
theorem ok_l_bent (D : Df K mg "_law_bent" s_l_bent ["_law_dice_here", "_law_line"]) (G_l_roll : Cg P w K mg base 1 "_law_roll" spRoll) (G_l_pick : Cg P w K mg base 2 "_law_pick" (spPick K)) (z_len : mg "len" = none) : Cg P w K mg base 3 "_law_bent" spBent := by
  refine D.ok sc_l_bent (fun vs H Q E h => ?_) (fun cdv A outer s H vs Q E f hc hr h => ?_)
  · obtain ⟨d, z, rfl, _⟩ := h
    rfl
  · obtain ⟨d, z, rfl, hd, hz, az, q⟩ := h
    refine ⟨_, (pss_cons (ps_par (i := 2) (j := 3) (by rfl) sc_l_bent.nd rfl rfl (by decide) rfl rfl (pa_cons (pe_cg G_l_roll hc hr (by rfl) (pa_cons (pv 0) (pa_cons (pe_op op_add (pe_callB call_len (by rfl) z_len (by decide +kernel) (pa_cons (pv 1) pa_nil)) pe_int) pa_nil))) (pa_cons (pe_cg G_l_pick hc hr (by rfl) (pa_cons (pv 0) (pa_cons pe_str pa_nil))) pa_nil)) (by rfl))
      (pss_cons (ps_par (i := 4) (j := 5) (by rfl) sc_l_bent.nd rfl rfl (by decide) rfl rfl (pa_cons (pe_bm PySem.F.plainAttrs_str PySem.F.slot_str_split PySem.F.type_str_split mt_split (pv 1) (pa_cons pe_str pa_nil)) (pa_cons (pe_cg G_l_roll hc hr (by rfl) (pa_cons (pv 0) (pa_cons pe_int pa_nil))) pa_nil)) (by rfl))
      (pss_cons (ps_set (i := 6) sc_l_bent.nd rfl (Or.inl rfl) (pe_cg G_l_roll hc hr (by rfl) (pa_cons (pv 0) (pa_cons (pe_callB call_len_seq (by rfl) z_len PySem.boot_len (pa_cons (pv 4) pa_nil)) pa_nil))))
      (pss_cons (ps_if (pt_cmpR op_eq (pv 5) pe_int (nomark _))
      (pss_one (ps_ret (pe_op op_add_str (pe_op op_add_str (pe_slice sl_str (pv 1) po_none (po_some (pv 2))) (pv 3)) (pe_slice sl_str (pv 1) (po_some (pv 2)) po_none))))
      pss_nil)
      (pss_cons (ps_if (pt_cmpR op_eq (pv 5) pe_int (nomark _))
      (pss_one (ps_ret (pe_op op_add_str (pe_op op_add_str (pe_slice sl_str (pv 1) po_none (po_some (pv 2))) (pv 3)) (pe_slice sl_str (pv 1) (po_some (pe_op op_add (pv 2) pe_int)) po_none))))
      pss_nil)
      (pss_cons (ps_if (pt_cmpR op_eq (pv 5) pe_int (nomark _))
      (pss_one (ps_ret (pe_op op_add_str (pe_slice sl_str (pv 1) po_none (po_some (pv 2))) (pe_slice sl_str (pv 1) (po_some (pe_op op_add (pv 2) pe_int)) po_none))))
      pss_nil)
      (pss_cons (ps_if (pt_cmpR op_eq (pv 5) pe_int (nomark _))
      (pss_one (ps_ret (pe_join pe_str (pe_op op_cat (pe_slice (sl_list : SlR _ (rSlL K)) (pv 4) po_none (po_some (pv 6))) (pe_slice (sl_list : SlR _ (rSlL K)) (pv 4) (po_some (pe_op op_add (pv 6) pe_int)) po_none)))))
      pss_nil)
      (pss_one (ps_ret (pe_ifExp (pt_cmpR op_eq (pv 5) pe_int (nomark _)) (pe_join pe_str (pe_op op_cat (pe_slice (sl_list : SlR _ (rSlL K)) (pv 4) po_none (po_some (pe_op op_add (pv 6) pe_int))) (pe_slice (sl_list : SlR _ (rSlL K)) (pv 4) (po_some (pv 6)) po_none))) (pv 1))))))))))), ?_⟩
    have lz : (z.length : Int) + 1 > 0 := by omega
    refine ⟨_, rfl, _, rfl, _, z.length, rfl, ⟨fits_million (by omega), rfl⟩, _, _, rfl, rfl, d, _, rfl, hd, by omega, by have := small8000 (n := z.length + 1) (by omega); omega, fun at_ H1 p1 r0 r1 => ?_⟩
    refine ⟨_, rfl, d, _, (fun v => ∃ y : Str, v = .str y ∧ y.length = 1 ∧ Asc y), rfl, p1.dice, .inr ⟨"  az0123457-A_\n.", rfl, by decide +kernel, by decide +kernel, fun c h => ⟨_, rfl, rfl, asc_one (asc_lit (by decide +kernel)) h⟩⟩, fun v H2 p2 hv => ?_⟩
    obtain ⟨y, rfl, ly, ay⟩ := hv
    have p12 := p1.trans p2
    have fz : z.length ≤ sizeLine := fits_million (by omega)
    have small : ∀ {n : Nat}, n ≤ 1000 → n ≤ sizeLine := fun h => fits_million (by omega)
    refine ⟨_, _, rfl, _, rfl, rfl, z, _, rfl, rfl, by decide +kernel, Nat.le_trans (show z.length + 2 ≤ 2000 by omega) (by decide), fun p np => ?_⟩
    obtain ⟨pl, few⟩ := split_plain (n := 100) hz az
    obtain ⟨sm, ne⟩ := split_more z
    generalize Txt.split z " " = ws at pl few sm ne ⊢
    have pd : p ≠ d := p12.dice.ne np
    have p13 := p12.trans (Past.new (o := .lst (ws.map V.str)) p12.dice np)
    have len : (ws.map V.str).length = ws.length := List.length_map ..
    refine ⟨_, rfl, d, 6, rfl, p13.dice, by decide, by decide +kernel, fun way H3 p3 w0 w1 => ⟨_, _, rfl, ?_⟩⟩
    have h3 : H3 p = some (.lst (ws.map V.str)) := p3.keep pd upd_same
    have p14 := p13.trans p3
    refine ⟨_, rfl, _, rfl, p, _, rfl, .inl (.inl (.inl h3)), d, _, rfl, p14.dice, by rw [len]; omega, by rw [len]; exact small8000 (by omega), fun spot H4 p4 s0 s1 => ?_⟩
    have h4 : H4 p = some (.lst (ws.map V.str)) := p4.keep pd h3
    have hL : SqL K H4 p (ws.map V.str) := .inl (.inl h4)
    have pp := p14.trans p4
    have c1 : ∀ lo hi, (cutS z lo hi).length ≤ 100 := fun lo hi => Nat.le_trans (cutS_length z lo hi) hz
    have sgn : ∀ (x : Str), x.length ≤ 100 → (x ++ y).length ≤ 101 := fun x h => by rw [PySem.Str.length_append, ly]; omega
    refine ⟨_, rfl, rfl, _, rfl, ite2 (fun _ => ?_) (fun _ => ?_)⟩
    · refine ⟨_, rfl, _, rfl, _, rfl, z, rfl, fz, _, rfl, _, _, rfl, rfl, small (by have := c1 none (some at_); omega), _, rfl, _, rfl, _, rfl, z, rfl, fz, _, _, rfl, rfl, small ?_, q _ _ pp ?_ ?_⟩
      · have h1 := sgn _ (c1 none (some at_))
        have h2 := c1 (some at_) none
        omega
      · have h1 := sgn _ (c1 none (some at_))
        have h2 := c1 (some at_) none
        rw [PySem.Str.length_append]
        omega
      · exact asc_app (asc_app (asc_cut az _ _) ay) (asc_cut az _ _)
    refine ⟨_, rfl, rfl, _, rfl, ite2 (fun _ => ?_) (fun _ => ?_)⟩
    · refine ⟨_, rfl, _, rfl, _, rfl, z, rfl, fz, _, rfl, _, _, rfl, rfl, small (by have := c1 none (some at_); omega), _, rfl, _, rfl, _, _, rfl, rfl, _, rfl, z, rfl, fz, _, _, rfl, rfl, small ?_, q _ _ pp ?_ ?_⟩
      · have h1 := sgn _ (c1 none (some at_))
        have h2 := c1 (some (at_ + 1)) none
        omega
      · have h1 := sgn _ (c1 none (some at_))
        have h2 := c1 (some (at_ + 1)) none
        rw [PySem.Str.length_append]
        omega
      · exact asc_app (asc_app (asc_cut az _ _) ay) (asc_cut az _ _)
    refine ⟨_, rfl, rfl, _, rfl, ite2 (fun _ => ?_) (fun _ => ?_)⟩
    · refine ⟨_, rfl, _, rfl, _, rfl, z, rfl, fz, _, rfl, _, rfl, _, _, rfl, rfl, _, rfl, z, rfl, fz, _, _, rfl, rfl, small ?_, q _ _ pp ?_ ?_⟩
      · have h1 := c1 none (some at_)
        have h2 := c1 (some (at_ + 1)) none
        omega
      · have h1 := c1 none (some at_)
        have h2 := c1 (some (at_ + 1)) none
        rw [PySem.Str.length_append]
        omega
      · exact asc_app (asc_cut az _ _) (asc_cut az _ _)
    -- two slices of the words, joined
    have b1 : (" " : Str).length = 1 := by decide +kernel
    have two : ∀ (a b c e : Option Int) (p1 p2 p3 : Addr), H4 p1 = none → (upd H4 p1 (.lst ((cutW ws a b).map V.str))) p2 = none → (upd (upd H4 p1 (.lst ((cutW ws a b).map V.str))) p2 (.lst ((cutW ws c e).map V.str))) p3 = none →
        Q (.str (Txt.join " " (cutW ws a b ++ cutW ws c e))) (upd (upd (upd H4 p1 (.lst ((cutW ws a b).map V.str))) p2 (.lst ((cutW ws c e).map V.str))) p3 (.lst ((cutW ws a b).map V.str ++ (cutW ws c e).map V.str))) ∧ ((cutW ws a b ++ cutW ws c e).map (·.length)).sum + (cutW ws a b ++ cutW ws c e).length * (" " : Str).length ≤ 500 := fun a b c e p1 p2 p3 n1 n2 n3 => by
      have q1 := Past.new (o := .lst ((cutW ws a b).map V.str)) pp.dice n1
      have q2 := Past.new (o := .lst ((cutW ws c e).map V.str)) q1.dice n2
      have q3 := Past.new (o := .lst ((cutW ws a b).map V.str ++ (cutW ws c e).map V.str)) q2.dice n3
      have k1 := cutW_len ws a b
      have k2 := cutW_len ws c e
      have k3 := lens_app (cutW ws a b) (cutW ws c e)
      have tot : lens (cutW ws a b ++ cutW ws c e) + (cutW ws a b ++ cutW ws c e).length * (" " : Str).length ≤ 500 := by
        rw [b1, List.length_append, Nat.mul_one]
        omega
      refine ⟨q _ _ (((pp.trans q1).trans q2).trans q3) ?_ ?_, tot⟩
      · rw [TL.join_eq]
        have := join_len " " (cutW ws a b ++ cutW ws c e)
        omega
      · refine asc_joinB fun x hx => ?_
        rcases List.mem_append.mp hx with hx | hx
        · exact (pl x (cutW_mem hx)).2
        · exact (pl x (cutW_mem hx)).2
    refine ⟨_, rfl, rfl, _, rfl, ite2 (fun _ => ?_) (fun _ => ?_)⟩
    · refine ⟨⟨_, rfl⟩, _, rfl, _, rfl, _, rfl, p, _, rfl, hL, fun p1 n1 => ?_⟩
      rw [cutV_str]
      have h5 : (upd H4 p1 (.lst ((cutW ws none (some spot)).map V.str))) p = some (.lst (ws.map V.str)) := by rw [upd_ne (ne_of_none h4 n1)]; exact h4
      refine ⟨_, rfl, _, rfl, _, _, rfl, rfl, _, rfl, p, _, rfl, .inl (.inl h5), fun p2 n2 => ?_⟩
      rw [cutV_str] 
      have k1 := cutW_len ws none (some spot)
      have k2 := cutW_len ws (some (spot + 1)) none
      refine ⟨p1, p2, _, _, rfl, rfl, by rw [upd_ne (ne_of_none upd_same n2), upd_same], upd_same, by rw [List.length_map, List.length_map]; exact fits_million (by omega), fun p3 n3 => ?_⟩
      obtain ⟨fin, tot⟩ := two none (some spot) (some (spot + 1)) none p1 p2 p3 n1 n2 n3
      exact ⟨_, p3, _, rfl, rfl, .inl (.inl (.inl (by rw [upd_same, List.map_append]))), Nat.le_trans tot (by decide), fin⟩
    · refine ⟨_, rfl, rfl, _, rfl, ite2 (fun _ => ?_) (fun _ => ⟨_, rfl, q z H4 pp (by omega) az⟩)⟩
      refine ⟨⟨_, rfl⟩, _, rfl, _, rfl, _, _, rfl, rfl, _, rfl, p, _, rfl, hL, fun p1 n1 => ?_⟩
      rw [cutV_str]
      have h5 : (upd H4 p1 (.lst ((cutW ws none (some (spot + 1))).map V.str))) p = some (.lst (ws.map V.str)) := by rw [upd_ne (ne_of_none h4 n1)]; exact h4
      refine ⟨_, rfl, _, rfl, _, rfl, p, _, rfl, .inl (.inl h5), fun p2 n2 => ?_⟩
      rw [cutV_str]
      have k1 := cutW_len ws none (some (spot + 1))
      have k2 := cutW_len ws (some spot) none
      refine ⟨p1, p2, _, _, rfl, rfl, by rw [upd_ne (ne_of_none upd_same n2), upd_same], upd_same, by rw [List.length_map, List.length_map]; exact fits_million (by omega), fun p3 n3 => ?_⟩
      obtain ⟨fin, tot⟩ := two none (some (spot + 1)) (some spot) none p1 p2 p3 n1 n2 n3
      exact ⟨_, p3, _, rfl, rfl, .inl (.inl (.inl (by rw [upd_same, List.map_append]))), Nat.le_trans tot (by decide), fin⟩
end
end K03
set_option Elab.async false
set_option linter.all false
set_option autoImplicit false
set_option maxRecDepth 100000
set_option maxHeartbeats 4000000
/-! Xl: a lambda without parameters handed to a def that calls it, in calm room; what it lets out is taken there. -/
namespace Xl
open PySem PySem.Spec PyProof.Rows L2 Vb Xd LamX
section
variable {X : Cx} {pins : List (Addr × Obj)} {σ : L2.St} {H : Hp} {s : Shared}
/-- the call of the lambda's name in the def that got it -/
theorem pe_actC {CXg : CXT} {Eg : XK} {Ng : List Str} {qg : Str} {sg : Scope} {g f c' : Addr} {cdg pm ctv : Value} {params : Arguments} {body : Expr} {scope : Scope} {k i : Nat} {a : Str} {pn : List (Addr × Obj)} {xe : Value → Shared → Prop} {W : WX} {E : XK} {tb : TE} {p1 p2 : Pos} (hcalm : Calm X.A)
    (I : Inv X pins σ H s) (L : LamS X.env.scope scope) (hf : s.heap.get? f = some (PySem.W.kla_obj "<lambda>" (X.env.qual ++ "<lambda>") params body scope (cloFrom X.env.cells scope.names []) pm c' ctv)) (hfn : H f = none) (hfr : f ∉ frs X.stack)
    (hbind : bindArgs (PySem.W.kla_fn "<lambda>" (X.env.qual ++ "<lambda>") params body scope (cloFrom X.env.cells scope.names []) pm (.ref c') ctv) ⟨[], []⟩ = pure [])
    (tk : Takes ((cxOf CXg X.prog X.w X.K X.mg X.base Ng qg sg g cdg X.A X.stack s H Eg).tr pn xe) W) (hW : ∀ cls d σ' H', E cls d H' → W cls d σ' H') (hr : Room (k + 1) (X.A.deeper (envOfC qg sg s.heap.objs.size g cdg)))
    (hbody : ∀ (A : Around) (outer : List Env) (s : Shared) (H : Hp), Calm A → Room k (A.deeper (lamEnv X scope s.heap.objs.size f c')) → PE (lamCx X A outer s H E scope f c') body tb)
    (hN : Ng[i]? = some a) (hv : Vis sg a) (hd : (a == ("__debug__" : Str)) = false) (hcd : (a == ("__classdict__" : Str)) = false) :
    PE ((cxOf CXg X.prog X.w X.K X.mg X.base Ng qg sg g cdg X.A X.stack s H Eg).tr pn xe) (.Call (.Name a p1) [] [] p2)
      (fun σZ HZ Q => σZ[i]? = some (some (.ref f)) ∧ HZ c' = some (CodeO c' (X.env.qual ++ "<lambda>")) ∧ tb σ HZ Q) := by
  constructor
  intro pinsZ sZ σZ HZ Q IZ h
  obtain ⟨hs, hc, ht⟩ := h
  have readName := (pe_var (pos := p1) (i := i) hN hv hd hcd).run pinsZ sZ σZ HZ (fun v H1 => v = .ref f ∧ H1 = HZ) IZ ⟨.ref f, hs, rfl, rfl⟩
  refine wpAny_Call_Name_kw (thn readName fun u s1 hh => ?_)
  obtain ⟨v, H1, I1, r1, ev, eH⟩ := hh
  subst ev
  subst eH
  obtain rfl : u = Value.ref f := r1
  have there : s1.heap.get? f = some (PySem.W.kla_obj "<lambda>" (X.env.qual ++ "<lambda>") params body scope (cloFrom X.env.cells scope.names []) pm c' ctv) :=
    I1.base.keep f _ hf hfn hfr fun z => nomatch (show f ∈ ([] : List Addr) from z)
  refine PySem.W.callWith_F0 ⟨_, _, _, _, there⟩ ?_
  have un : Un (frs X.stack) [] H H1 s.heap s1.heap := I1.base
  obtain ⟨⟨oc, vs, t, hoc, hdc, hvc⟩, _, _⟩ := I1.hok c' _ hc
  have room1 : Room k ((X.A.deeper (envOfC qg sg s.heap.objs.size g cdg)).deeper (lamEnv X scope s1.heap.objs.size f c')) := hr.deeper _
  have goes : codeAny (model X.prog X.w) (X.A.deeper (envOfC qg sg s.heap.objs.size g cdg)) (.call (.ref f) ⟨[], []⟩) (CR (L2.CX X.prog X.w) (envOfC qg sg s.heap.objs.size g cdg :: X.stack) X.prog X.w H1 s1 Q E) s1 := by
    refine PySem.W.kla_callFunE hr.depth there rfl L.co L.gen rfl ⟨c', oc, vs, t, rfl, hoc, hdc, hvc⟩ ?_
    rw [hbind]
    refine wpAny_pure (wpAny_newFunctionEnv (fun y hy => (L.own y hy).2) (fun y hy => absurd hy (by simp)) (fun h₁ hns hsb => ⟨I1.nolimit.fresh _ hsb, ?_⟩) L.kind)
    show codeAny _ _ (.expr body (lamEnv X scope s1.heap.objs.size f c')) _ _
    have keeps : ∀ b o, s1.heap.get? b = some o → h₁.get? b = some o := fun b o e =>
      hsb.extBut b o (Nat.ne_of_lt (Heap.lt_size e)) (Heap.get?_push_of_some _ e)
    have J : Inv (lamCx X (X.A.deeper (envOfC qg sg s.heap.objs.size g cdg)) (envOfC qg sg s.heap.objs.size g cdg :: X.stack) s1 H1 E scope f c') [] σ H1 { s1 with heap := h₁, toks := s1.toks + ([] : List (Str × Value)).length } :=
      lam_start2 I L I1.env0 hr.hd un hns keeps
    refine PySem.W.kla_codeExpr (thn ((hbody _ _ s1 H1 (hcalm.deep _) room1).run [] _ _ H1 Q J ht) fun v s' hq => ?_)
    obtain ⟨w', H', J', rv, q⟩ := hq
    exact ⟨w', H', J'.os, J'.bare, J'.base, J'.hok, rv, q⟩
  have lets : Passes (L2.CX X.prog X.w) ((cxOf CXg X.prog X.w X.K X.mg X.base Ng qg sg g cdg X.A X.stack s H Eg).tr pn xe) E := passes_call tk hW
  refine wpAny_call (codeAny_mono goes fun r s' hq => ?_)
  match r, hq with
  | .error e, hq => exact lets pinsZ σZ H1 s1 e s' I1 hq
  | .ok (.ret u), hq => exact I1.after hq
  | .ok .next, hq => exact False.elim hq
  | .ok .brk, hq => exact False.elim hq
  | .ok .cont, hq => exact False.elim hq
/-- what the def at g, which calls its parameter a, makes of a lambda's reading -/
def Makes (X : Cx) (Ng : List Str) (x : Str) (sg : Scope) (g : Addr) (cdg : Value) (bg : List Stmt) (a : Str) (q : Str) (k : Nat) (TT : (XK → Hp → VK → Prop) → Hp → VK → Prop) : Prop :=
  ∀ (f c' : Addr) (s : Shared) (H : Hp) (Q : VK) (tl : XK → Hp → VK → Prop), Calm (X.A.deeper (envOfC x sg s.heap.objs.size g cdg)) → Room k (X.A.deeper (envOfC x sg s.heap.objs.size g cdg)) →
    (∀ (W : WX) (pn : List (Addr × Obj)) (xe : Value → Shared → Prop) (E : XK) (p1 p2 : Pos), Takes ((cxOf CX0 X.prog X.w X.K X.mg X.base Ng x sg g cdg X.A X.stack s H E0).tr pn xe) W → (∀ cls d σ' H', E cls d H' → W cls d σ' H') →
      PE ((cxOf CX0 X.prog X.w X.K X.mg X.base Ng x sg g cdg X.A X.stack s H E0).tr pn xe) (.Call (.Name a p1) [] [] p2) (fun σZ HZ Q => σZ[0]? = some (some (.ref f)) ∧ HZ c' = some (CodeO c' q) ∧ tl E HZ Q)) →
    H c' = some (CodeO c' q) → TT tl H Q →
    ∃ t, PSs (cxOf CX0 X.prog X.w X.K X.mg X.base Ng x sg g cdg X.A X.stack s H E0).nox bg t ∧ t { nx := fun _ H' => Q .non H', rt := Q } (L2.start Ng [.ref f]) H
/-- x(lambda: body) -/
theorem pe_lamC {X : Cx} {T : List (Addr × Str)} {TT : (XK → Hp → VK → Prop) → Hp → VK → Prop} {x a : Str} {g c P : Addr} {k : Nat} {pg : Arguments} {bg : List Stmt} {sg : Scope} {dV kV doc pm cdv ct oc : Value} {an od : Option Addr} {osl : Array (Option Value)} {Ng : List Str}
    {params : Arguments} {body : Expr} {scope : Scope} {t : XK → TE} {p lpos pos : Pos} (hcalm : Calm X.A) (hg : Gl X x) (hm : X.mg x = some (.ref g)) (hk : PySem.W.keepIn X.K (.ref g) = true)
    (lk : X.K.lookup g = some ⟨oc, od, .func (PySem.W.fnOf x x pg bg sg dV kV doc pm an cdv ct), osl⟩) (hcg : PySem.W.codeIn X.K cdv x = true) (hb : L2.Binds X.K (PySem.W.fnOf x x pg bg sg dV kV doc pm an cdv ct) [a] []) (Sg : FnScope Ng [a] sg) (hNg : Ng[0]? = some a) (hva : Vis sg a)
    (hG : Makes X Ng x sg g cdv bg a (X.env.qual ++ "<lambda>") (k + 1) TT) (TB : TabB X.base X.mg c P) (hcode : X.env.code = .ref c) (hmT : (P, X.env.qual ++ "<lambda>") ∈ T) (hu : ∀ p ∈ T, p.1 = P → p.2 = X.env.qual ++ "<lambda>") (hr : Room (k + 2) X.A) (L : LamS X.env.scope scope)
    (hdef : defaultsOf params X.env = ([], [])) (hbind : ∀ (q : Str) (cl : List (Str × Addr)) (pm cv ctv : Value), bindArgs (PySem.W.kla_fn "<lambda>" q params body scope cl pm cv ctv) ⟨[], []⟩ = pure [])
    (hbody : ∀ (A : Around) (outer : List Env) (s : Shared) (H : Hp) (E : XK) (f c' : Addr), Calm A → Room k (A.deeper (lamEnv X scope s.heap.objs.size f c')) → PE (lamCx X A outer s H E scope f c') body (t E))
    (hdb : (x == ("__debug__" : Str)) = false) (hd : (a == ("__debug__" : Str)) = false) (hcd : (a == ("__classdict__" : Str)) = false) :
    PE X (.Call (.Name x p) [.Lambda params body scope lpos] [] pos) (tLam T TT t) := by
  constructor
  intro pins s σ H Q I h
  obtain ⟨hT, h⟩ := h
  refine wpAny_Call_Name_kw (ld_glob I hg hm ?_ hdb)
  refine PySem.W.callWith_K (h₀ := X.base) I.ok.mod.kin hk ?_ (by rfl) (by rfl)
  show wpAny _ _ (spliced ((false, eval (.Lambda params body scope lpos) X.env) :: backTo pos (starEach [] X.env))) _ _ s
  refine Calls.spliced_cons (lam_make2 I TB hcode hmT hu hT hdef (L.has I.ok) fun f c' pm' ctv H1 s' I1 eN T1 hf hfn hfr hco => Calls.spliced_nil ⟨I1.kIn, ?_⟩)
  have goes : codeAny (model X.prog X.w) X.A (.call (.ref g) ⟨[.ref f], []⟩) (CR CX0 X.stack X.prog X.w H1 s' Q E0) s' := by
    refine run_ofS (N := Ng) (ps := [a]) (us := [.ref f]) (vs := [.ref f]) lk hcg Sg hr I1.env0 (hb s' [.ref f] I1.kIn rfl) (.cons rfl .nil) rfl fun hr' => ?_
    obtain ⟨t', ht', hq'⟩ := hG f c' s' H1 Q (fun E H' Q' => t E σ H' Q') (hcalm.deep _) hr' (fun W pn xe E p1 p2 tk hW => pe_actC (i := 0) hcalm I1 L hf hfn hfr (hbind _ _ _ _ _) tk hW hr' (fun A outer s H hcA hr2 => hbody A outer s H E f c' hcA hr2) hNg hva hd hcd) hco (h H1 eN T1)
    exact ⟨t', ht'.nox, hq'⟩
  refine wpAny_call (codeAny_mono goes fun r s2 hq => ?_)
  match r, hq with
  | .error e, hq => exact (show False from hq).elim
  | .ok (.ret u), hq => exact I1.after hq
  | .ok .next, hq => exact False.elim hq
  | .ok .brk, hq => exact False.elim hq
  | .ok .cont, hq => exact False.elim hq
end
end Xl
set_option Elab.async false
set_option linter.all false
set_option autoImplicit false
set_option maxRecDepth 100000
set_option maxHeartbeats 4000000
/-! Rd: repr of any data, in calm room. -/
namespace Rd
open PySem PySem.Spec PyProof.Rows L2 Vb
def rReprD (K : PySem.W.Frag) : List V → Hp → VK → Prop := fun xs H Q => ∃ (v : V) (d : PyData), xs = [v] ∧ Dp K H v d ∧ d.showable = true ∧ d.hasDict = false ∧ d.depth < 64 ∧ d.shown.length ≤ sizeLine ∧ Q (.str d.shown) H
theorem cr_reprD {X : Cx} (hc : Calm X.A) (hu : X.A.units + 64 < cLine) : CallR X (.builtin "repr") (rReprD X.K) := by
  intro pins s σ H xs us Q I r h
  obtain ⟨v, d, rfl, hd, hs, hn, hz, hl, q⟩ := h
  obtain ⟨u, rfl, r1⟩ := vals1 r
  have same : ∀ {t : Tok}, Inv X pins σ H { s with toks := t } := fun {t} => I.kept (h' := s.heap) (t' := t) fun _ _ e => e
  cases hd with
  | non =>
    cases (show u = Value.none from r1)
    exact PySem.P.repr_of_none ⟨.str _, H, same, ⟨_, rfl⟩, q⟩
  | bl b =>
    cases (show u = Value.bool b from r1)
    exact PySem.P.repr_of_bool ⟨.str _, H, same, ⟨_, rfl⟩, q⟩
  | int i =>
    obtain ⟨t, rfl⟩ := r1
    exact PySem.P.repr_of_int (of_decide_eq_true hs) ⟨.str _, H, same, ⟨_, rfl⟩, q⟩
  | str x =>
    obtain ⟨t, rfl⟩ := r1
    exact PySem.P.repr_of_str ⟨.str _, H, same, ⟨_, rfl⟩, q⟩ (hsz := hl)
  | lst a b => exact call_repr_data hc hu pins s σ H _ _ Q I (.cons r1 .nil) ⟨_, _, rfl, .lst a b, hs, hn, hz, hl, q⟩
  | tup a b => exact call_repr_data hc hu pins s σ H _ _ Q I (.cons r1 .nil) ⟨_, _, rfl, .tup a b, hs, hn, hz, hl, q⟩
end Rd
set_option Elab.async false
set_option linter.all false
set_option autoImplicit false
set_option maxRecDepth 100000
set_option maxHeartbeats 4000000
namespace K03
open PySem PySem.Spec PyProof.Rows L2 Vb Wd Xd Xl Xt Rd LamX
abbrev s_l_told : Stmt := topS 31
theorem sc_l_told : FnScope ["_law_call", "e"] ["_law_call"] (defScope s_l_told) := ⟨rfl, rfl, rfl, by decide +kernel, rfl, by decide +kernel, by decide +kernel⟩
/-- data that repr tells in a few signs -/
structure Shows (K : PySem.W.Frag) (H : Hp) (v : V) (d : PyData) : Prop where
  dp : Dp K H v d
  sh : d.showable = true
  nd : d.hasDict = false
  dep : d.depth < 64
  len : d.shown.length ≤ 1000
/-- what of the two classes the clauses ask -/
structure ToldT (K : PySem.W.Frag) (CN CP : Addr) : Prop where
  xN : XfC K CN
  nN : PySem.W.findIn K (.ref CN) "value" = some none
  xP : XfC K CP
  nP : PySem.W.findIn K (.ref CP) "number" = some none
  eNN : PySem.W.exmOne K (.ref CN) (.ref CN) = some true
  ePN : PySem.W.exmOne K (.ref CP) (.ref CN) = some false
  ePP : PySem.W.exmOne K (.ref CP) (.ref CP) = some true
def TTold (K : PySem.W.Frag) (CN CP : Addr) : (XK → Hp → VK → Prop) → Hp → VK → Prop := fun tl H Q =>
  tl (fun cls d H' => (cls = .ref CN ∧ ∃ dd v pd, d = some dd ∧ H' dd = some (.xd [("value", v)]) ∧ Shows K H' v pd ∧ Q (.str ("number " ++ pd.shown)) H') ∨
    (cls = .ref CP ∧ ∃ dd v pd, d = some dd ∧ H' dd = some (.xd [("number", v)]) ∧ Shows K H' v pd ∧ Q (.str ("parse " ++ pd.shown)) H')) H Q
theorem takes_len {X : Cx} {W : WX} (t : Takes X W) : Takes X (fun cls d σ H => σ.length = X.N.length → W cls d σ H) := fun u s' ⟨a, B, sI, pins, σ, H, cls, d, e, I, nb, up, sky, na, os, ag, w⟩ =>
  t u s' ⟨a, B, sI, pins, σ, H, cls, d, e, I, nb, up, sky, na, os, ag, w I.len⟩
theorem told_makes {X : Cx} {g CN CP : Addr} {cdg : Value} {q : Str} {k : Nat} (T : ToldT X.K CN CP) (gN : X.mg "InvalidNumber" = some (.ref CN)) (gP : X.mg "ParseError" = some (.ref CP)) (z_repr : X.mg "repr" = none) :
    Makes X ["_law_call", "e"] "_law_told" (defScope s_l_told) g cdg (defBody s_l_told) "_law_call" q k (TTold X.K CN CP) := by
  intro f c' s H Q tl hc hr act hco h
  have rp : ∀ (a : Addr) (pn : List (Addr × Obj)), CallR ((cxOf CX0 X.prog X.w X.K X.mg X.base ["_law_call", "e"] "_law_told" (defScope s_l_told) g cdg X.A X.stack s H E0).nox.suite a pn) (.builtin "repr") (rReprD X.K) := fun a pn =>
    cr_reprD (X := (cxOf CX0 X.prog X.w X.K X.mg X.base ["_law_call", "e"] "_law_told" (defScope s_l_told) g cdg X.A X.stack s H E0).nox.suite a pn) hc hr.units
  refine ⟨_, pss_one (ps_tries (X := (cxOf CX0 X.prog X.w X.K X.mg X.base ["_law_call", "e"] "_law_told" (defScope s_l_told) g cdg X.A X.stack s H E0).nox)
      (tb := fun W D σ H => ∃ Ech : XK, (∀ cls d (σ' : L2.St) H', Ech cls d H' → σ'.length = 2 → W cls d σ' H') ∧ σ[0]? = some (some (.ref f)) ∧ H c' = some (CodeO c' q) ∧ tl Ech H D.rt) (by rfl) (by rfl) sc_l_told.nd takes0 (fun W pn xe tk _ => ⟨fun pins s' σ H' D I h' => ?_⟩)
      (.cons (i := 1) ⟨by rfl, by decide, .inl gN⟩ rfl rfl (fun a oe cls d pn hz hf => pss_one (ps_ret (pe_op op_add_str pe_str (pe_callB (rp a _) (by rfl) z_repr (by decide +kernel) (pa_cons (pe_xf (n := "value") T.xN T.nN hz hf (pv 1)) pa_nil)))))
      (.cons (i := 1) ⟨by rfl, by decide, .inl gP⟩ rfl rfl (fun a oe cls d pn hz hf => pss_one (ps_ret (pe_op op_add_str pe_str (pe_callB (rp a _) (by rfl) z_repr (by decide +kernel) (pa_cons (pe_xf (n := "number") T.xP T.nP hz hf (pv 1)) pa_nil)))))
      .nil))), ?_⟩
  · obtain ⟨Ech, hW, h1, h2, h3⟩ := h'
    exact (pss_one (ps_ret (act _ pn xe Ech _ _ (takes_len tk) hW))).run pins s' σ H' D I ⟨h1, h2, h3⟩
  · have sized : ∀ {σ' : L2.St} {a : Addr}, σ'.length = 2 → (σ'.set 1 (some (V.ref a)))[1]? = some (some (.ref a)) := fun {σ' a} e => by
      rw [List.getElem?_set_self (by omega)]
    have ln : ("number " : Str).length = 7 := by decide +kernel
    have lp : ("parse " : Str).length = 6 := by decide +kernel
    refine ⟨fun cls d H' => (cls = .ref CN ∧ ∃ dd v pd, d = some dd ∧ H' dd = some (.xd [("value", v)]) ∧ Shows X.K H' v pd ∧ Q (.str ("number " ++ pd.shown)) H') ∨
      (cls = .ref CP ∧ ∃ dd v pd, d = some dd ∧ H' dd = some (.xd [("number", v)]) ∧ Shows X.K H' v pd ∧ Q (.str ("parse " ++ pd.shown)) H'), fun cls d σ' H' hE e2 => ?_, rfl, hco, h⟩
    rcases hE with ⟨rfl, dd, v, pd, rfl, hd, S, q⟩ | ⟨rfl, dd, v, pd, rfl, hd, S, q⟩
    · refine ⟨true, T.eNN, fun _ a na => ?_, fun e => nomatch e⟩
      exact ⟨_, sized e2, rfl, rfl, dd, _, v, rfl, hd, by rfl, v, pd, rfl, S.dp, S.sh, S.nd, S.dep, fits_million (by have := S.len; omega), _, _, rfl, rfl, fits_million (by have := S.len; rw [ln]; omega), q⟩
    · refine ⟨false, T.ePN, (fun e => nomatch e), fun _ => ⟨true, T.ePP, fun _ a na => ?_, fun e => nomatch e⟩⟩
      exact ⟨_, sized e2, rfl, rfl, dd, _, v, rfl, hd, by rfl, v, pd, rfl, S.dp, S.sh, S.nd, S.dep, fits_million (by have := S.len; omega), _, _, rfl, rfl, fits_million (by have := S.len; rw [lp]; omega), q⟩
end K03
set_option Elab.async false
set_option linter.all false
set_option autoImplicit false
set_option maxRecDepth 100000
set_option maxHeartbeats 4000000
/-! Xg: a def whose code object is known; all but the dice and the tables of code objects stays. -/
namespace Xg
open PySem PySem.Spec PyProof.Rows L2 Vb LamX
/-- the def at f, with its code object -/
structure FunC (K : PySem.W.Frag) (x qual : Str) (st : Stmt) (f : Addr) (fd : FuncData) (cdv : Value) : Prop where
  ex : ∃ (oc : Value) (od : Option Addr) (kV doc pm : Value) (an : Option Addr) (ct : Value) (osl : Array (Option Value)), fd = PySem.W.fnOf x qual (defArgs st) (defBody st) (defScope st) .none kV doc pm an cdv ct ∧ K.lookup f = some ⟨oc, od, .func fd, osl⟩ ∧ PySem.W.codeIn K cdv qual = true
section
variable {P : Program} {w : World} {K : PySem.W.Frag} {mg : Str → Option Value} {base : Heap}
theorem goes_byC {x qual : Str} {st : Stmt} {f : Addr} {fd : FuncData} {cdv : Value} {N ps : List Str} {k : Nat} {sp : Sp} (F : FunC K x qual st f fd cdv) (S : FnScope N ps (defScope st)) (len : ∀ vs H Q E, sp vs H Q E → vs.length = ps.length)
    (body : ∀ (A : Around) (outer : List Env) (s : Shared) (H : Hp) (vs : List V) (Q : VK) (E : XK), Calm (A.deeper (envOfC qual (defScope st) s.heap.objs.size f cdv)) → Room k (A.deeper (envOfC qual (defScope st) s.heap.objs.size f cdv)) → sp vs H Q E →
      ∃ t, PSs (cxOf CX0 P w K mg base N qual (defScope st) f cdv A outer s H E).nox (defBody st) t ∧ t { nx := fun _ H' => Q .non H', rt := Q } (start N vs) H) : FnG P w K mg base (k + 1) f fd ps sp := by
  obtain ⟨oc, od, kV, doc, pm, an, ct, osl, rfl, lk, hcd⟩ := F.ex
  refine ⟨len, fun A outer s H args us vs Q E hc hr e0 hb r hsp => ?_⟩
  refine run_ofS (N := N) (ps := ps) (us := us) (vs := vs) lk hcd S hr e0 hb r (len _ _ _ _ hsp) fun hr' => ?_
  obtain ⟨t, ht, hq⟩ := body A outer s H vs Q E (hc.deep _) hr' hsp
  exact ⟨t, ht.nox, hq⟩
end
theorem tbl_ne_dz {g s c : Int} (ps : Array Value) : dz g s c ≠ .tbl ps := fun z => nomatch z
/-- all but the dice and the tables stays -/
structure Go (T : List (Addr × Str)) (d : Addr) (H H' : Hp) : Prop where
  keep : ∀ b o, b ≠ d → (∀ ps, o ≠ .tbl ps) → H b = some o → H' b = some o
  dice : Dice H' d
  tabs : Tabs T H'
section
variable {T : List (Addr × Str)} {d : Addr} {H H1 H' : Hp}
theorem Go.trans (a : Go T d H H1) (b : Go T d H1 H') : Go T d H H' := ⟨fun x o n t e => b.keep x o n t (a.keep x o n t e), b.dice, b.tabs⟩
theorem Go.refl (h : Dice H d) (t : Tabs T H) : Go T d H H := ⟨fun _ _ _ _ e => e, h, t⟩
theorem tabs_past (h : Dice H d) (t : Tabs T H) (p : Past d H H') : Tabs T H' := fun q hq => by
  obtain ⟨ps, h1, h2, h3⟩ := t q hq
  obtain ⟨g, s, c, hd⟩ := h
  have n1 : q.1 ≠ d := fun z => by
    rw [z, hd] at h1
    cases h1
  refine ⟨ps, p.1 _ _ n1 h1, h2, fun pos cv hc => ?_⟩
  obtain ⟨c', e1, e2⟩ := h3 pos cv hc
  have n2 : c' ≠ d := fun z => by
    rw [z, hd] at e2
    have e3 : dz g s c = CodeO d q.2 := Option.some.inj e2
    unfold CodeO dz at e3
    cases e3
  exact ⟨c', e1, p.1 _ _ n2 e2⟩
theorem Go.past (h : Dice H d) (t : Tabs T H) (p : Past d H H') : Go T d H H' := ⟨fun x o n _ e => p.1 x o n e, p.dice, tabs_past h t p⟩
theorem Go.same (h : Dice H d) (t : Tabs T H) (s : Same H H') : Go T d H H' := Go.past h t (Past.same h s)
theorem Go.extN (h : Dice H d) (e : ExtN H H') (t : Tabs T H') : Go T d H H' := by
  obtain ⟨g, s, c, hd⟩ := h
  exact ⟨fun x o _ nt ex => e x o ex nt, ⟨g, s, c, e _ _ hd fun ps => tbl_ne_dz ps⟩, t⟩
theorem Go.thenP (a : Go T d H H1) (p : Past d H1 H') : Go T d H H' := a.trans (Go.past a.dice a.tabs p)
theorem Go.thenS (a : Go T d H H1) (s : Same H1 H') : Go T d H H' := a.trans (Go.same a.dice a.tabs s)
theorem Go.thenE (a : Go T d H H1) (e : ExtN H1 H') (t : Tabs T H') : Go T d H H' := a.trans (Go.extN a.dice e t)
theorem Go.seq {K : PySem.W.Frag} {a : Addr} {xs : List V} (g : Go T d H H') (n : a ≠ d) (s : SqL K H a xs) : SqL K H' a xs := by
  rcases s with (s | ⟨o, s⟩) | s
  · exact .inl (.inl (g.keep _ _ n (fun ps z => nomatch z) s))
  · exact .inl (.inr ⟨o, g.keep _ _ n (fun ps z => nomatch z) s⟩)
  · exact .inr s
end
end Xg
set_option Elab.async false
set_option linter.all false
set_option autoImplicit false
set_option maxRecDepth 100000
set_option maxHeartbeats 4000000
namespace K03
open PySem PySem.Spec PyProof.Rows L2 Vb Wd Xd Xo Xl Xt Xv Xg Rd LamX
abbrev s_l_lines_right : Stmt := topS 32
theorem sc_l_lines_right : FnScope ["_law_dice_here", "_law_line", "_law_turn", "_law_due", "_law_told_here", "_law_bent_here", "_law_odd"] ["_law_dice_here", "_law_line"] (defScope s_l_lines_right) := ⟨rfl, rfl, rfl, by decide +kernel, rfl, by decide +kernel, by decide +kernel⟩
theorem Kids.go {T : List (Addr × Str)} {d : Addr} {H H' : Hp} {a : Addr} {ts : List Addr} {cs : List (Str × Int)} (g : Go T d H H') (hd : Dice H d) (k : Kids H a ts cs) : Kids H' a ts cs := by
  obtain ⟨x, y, z, e⟩ := hd
  have n : ∀ {b : Addr} {xs : List V}, H b = some (.tup xs) → b ≠ d := fun h q => by
    rw [q, e] at h
    cases h
  exact ⟨g.keep _ _ (n k.at_) (fun ps q => nomatch q) k.at_, k.len, k.lo, k.hi, fun i t c h1 h2 => by
    have kk := k.kid i t c h1 h2
    exact ⟨g.keep _ _ (n kk.at_) (fun ps q => nomatch q) kk.at_, kk.nam, kk.plain, kk.lo, kk.hi⟩⟩
theorem FormAt.go {T : List (Addr × Str)} {d : Addr} {H H' : Hp} {C a ch : Addr} {n so : Str} {ts : List Addr} {cs : List (Str × Int)} (g : Go T d H H') (hd : Dice H d) (k : FormAt H C a ch n so ts cs) : FormAt H' C a ch n so ts cs := by
  obtain ⟨⟨dx, ea⟩, kk⟩ := k
  refine ⟨⟨dx, g.keep _ _ (fun q => ?_) (fun ps q => nomatch q) ea⟩, kk.go g hd⟩
  obtain ⟨x, y, z, e⟩ := hd
  rw [q, e] at ea
  cases ea
/-- all that the law's defs ask of the class Form and of the two errors -/
structure Env3 (P : Program) (w : World) (K : PySem.W.Frag) (mg : Str → Option Value) (base : Heap) (C CN CP : Addr) where
  T : FormC K C
  TI : FormI K C
  TT : ToldT K CN CP
  gF : mg "Form" = some (.ref C)
  gN : mg "InvalidNumber" = some (.ref CN)
  gP : mg "ParseError" = some (.ref CP)
  fI : Addr
  fdI : FuncData
  M : L2.Mk K C fI
  FI : FnG P w K mg base 6 fI fdI ["self", "called", "sort", "children"] (spInit K C)
  bI : Binds K fdI ["self", "called", "sort", "children"] []
  fE : Addr
  fdE : FuncData
  FE : FnG P w K mg base 3 fE fdE ["self", "other"] (spEq K C)
  bE : Binds K fdE ["self", "other"] []
  eE : PySem.W.findIn K (.ref C) "__eq__" = some (some (.ref fE))
  tE : PySem.W.isFn K (.ref fE) = true
  eNe : PySem.W.findIn K (.ref C) "__ne__" = some (some (.builtin "object.__ne__"))
  moE : PySem.W.mroIn K C (.type "object") = some true
  fL : Addr
  fdL : FuncData
  FL : FnE P w K mg base 8 fL fdL ["cls", "line"] (spFrom C CP)
  bL : Binds K fdL ["cls", "line"] []
  mc : Value
  pL : Addr
  rL : ClX.CRead K C mc
  cL : ClX.CMet K C mc "from_line" pL fL
  gT : Addr
  ocT : Value
  odT : Option Addr
  oslT : Array (Option Value)
  kVT : Value
  docT : Value
  pmT : Value
  anT : Option Addr
  cdT : Value
  ctT : Value
  mT : mg "_law_told" = some (.ref gT)
  kT : PySem.W.keepIn K (.ref gT) = true
  lT : K.lookup gT = some ⟨ocT, odT, .func (PySem.W.fnOf "_law_told" "_law_told" (defArgs s_l_told) (defBody s_l_told) (defScope s_l_told) .none kVT docT pmT anT cdT ctT), oslT⟩
  hT : PySem.W.codeIn K cdT "_law_told" = true
  bT : Binds K (PySem.W.fnOf "_law_told" "_law_told" (defArgs s_l_told) (defBody s_l_told) (defScope s_l_told) .none kVT docT pmT anT cdT ctT) ["_law_call"] []
  z_repr : mg "repr" = none
  z_str : mg "str" = none
  z_isinstance : mg "isinstance" = none
/-- lines_right(dice, line) -/
def spLines (T : List (Addr × Str)) : Sp := fun vs H Q _ => ∃ (d : Addr) (z : Str), vs = [.ref d, .str z] ∧ Dice H d ∧ Tabs T H ∧ z.length ≤ 100 ∧ Asc z ∧ ∀ H', Go T d H H' → Q (.bl true) H'
theorem Judged.extN {H H' : Hp} (e : ExtN H H') : ∀ {v : V}, Judged H v → Judged H' v
  | .int _, j => j
  | .str _, j => j
  | .non, j => j
  | .bl _, j => j
  | .ref _, j => j.imp (fun ⟨xs, h⟩ => ⟨xs, e _ _ h fun ps z => nomatch z⟩) fun j => j.imp (fun ⟨xs, h⟩ => ⟨xs, e _ _ h fun ps z => nomatch z⟩) fun ⟨xs, h⟩ => ⟨xs, e _ _ h fun ps z => nomatch z⟩
  | .byt _, j => j
  | .flt _, j => j
  | .ty _, j => j
theorem shows_none {K : PySem.W.Frag} {H : Hp} : Shows K H .non .none := ⟨.non, by decide +kernel, by decide +kernel, by decide +kernel, by decide +kernel⟩
theorem readW_nams {ws : List Str} {n so : Str} {cs : List (Str × Int)} (pl : Plain ws) (h : readW ws = some (n, so, cs)) : (isNam (.str n) = true ∧ n.length ≤ 1000 ∧ Asc n) ∧ (isNam (.str so) = true ∧ so.length ≤ 1000 ∧ Asc so) := by
  unfold readW at h
  by_cases e : formB ws = true
  · rw [if_pos e] at h
    cases h
    unfold formB at e
    simp only [Bool.and_eq_true, decide_eq_true_eq] at e
    exact ⟨⟨e.1.1.2, pl _ (getD_mem (by omega))⟩, ⟨e.1.2, pl _ (getD_mem (by omega))⟩⟩
  · rw [if_neg e] at h
    cases h
theorem parse_none : ("parse " : Str) ++ PyData.none.shown = "parse None" := by decide +kernel
/-- told(lambda: C.from_line(v)) -/
theorem told_line {K : PySem.W.Frag} {C CN CP d : Addr} {T : List (Addr × Str)} {i : Nat} {v : V} {σ : L2.St} {H : Hp} {Q : VK} (hσ : σ[i]? = some (some v)) (hd : Dice H d) (ht : Tabs T H) (j : Judged H v)
    (ok : ∀ (n so : Str) (cs : List (Str × Int)), readW (wordsV v) = some (n, so, cs) → ∀ (a ch : Addr) (ts : List Addr) (H' : Hp), Go T d H H' → FormAt H' C a ch n so ts cs → Q (.ref a) H')
    (err : readW (wordsV v) = none → ∀ H', Go T d H H' → Q (.str "parse None") H') :
    tLam T (TTold K CN CP) (fun E => ClX.tCMeth C (spFrom C CP) E (tC (.ref C)) (tCons (tVar i) tNil)) σ H Q := by
  refine ⟨ht, fun H4 eN T4 => ⟨rfl, v, hσ, v, rfl, Judged.extN eN j, fun n so cs e a ch ts H' s fa => ok n so cs e a ch ts H' ((Go.extN hd eN T4).thenS s) fa, fun e H' d' s nd => .inr ⟨rfl, d', .non, .none, rfl, upd_same, shows_none, ?_⟩⟩⟩
  rw [parse_none]
  exact err e _ ((Go.extN hd eN T4).thenS (s.trans (same_new nd)))
section
variable {P : Program} {w : World} {K : PySem.W.Frag} {mg : Str → Option Value} {base : Heap} {C CN CP : Addr}
theorem ok_lines_right {f c Pt : Addr} {fd : FuncData} {T : List (Addr × Str)} (F : FunC K "_law_lines_right" "_law_lines_right" s_l_lines_right f fd (.ref c)) (V3 : Env3 P w K mg base C CN CP) (TB : TabB base mg c Pt) (hmT : (Pt, ("_law_lines_right.<locals>.<lambda>" : Str)) ∈ T) (hu : ∀ p ∈ T, p.1 = Pt → p.2 = "_law_lines_right.<locals>.<lambda>")
    (G_l_bent : Cg P w K mg base 3 "_law_bent" spBent) (G_l_read_line : Cg P w K mg base 2 "_law_read_line" spRead) (G_l_pick : Cg P w K mg base 2 "_law_pick" (spPick K)) (z_range : mg "range" = none) : FnG P w K mg base 13 f fd ["_law_dice_here", "_law_line"] (spLines T) := by
  refine goes_byC F sc_l_lines_right (fun vs H Q E h => ?_) (fun A outer s H vs Q E hc hr h => ?_)
  · obtain ⟨d, z, rfl, _⟩ := h
    rfl
  · obtain ⟨d, z, rfl, hd, ht, hz, az, q⟩ := h
    refine ⟨_, (pss_cons (ps_for PassesOwn.never rfl (pi_range1 (by rfl) z_range (pa_cons pe_int pa_nil)) (pg_name (i := 2) sc_l_lines_right.nd rfl (Or.inl rfl))
      (pss_cons (ps_set (i := 5) sc_l_lines_right.nd rfl (Or.inr rfl) (pe_cg G_l_bent hc hr (by rfl) (pa_cons (pv 0) (pa_cons (pv 1) pa_nil))))
      (pss_cons (ps_par (i := 3) (j := 4) (by rfl) sc_l_lines_right.nd rfl rfl (by decide) rfl rfl (pa_cons (pe_cg G_l_read_line hc hr (by rfl) (pa_cons (pv 5) pa_nil)) (pa_cons
        (pe_lamC (k := 10) (T := T) (t := fun E => ClX.tCMeth C (spFrom C CP) E (tC (.ref C)) (tCons (tVar 5) tNil)) hc (by rfl) V3.mT V3.kT V3.lT V3.hT V3.bT sc_l_told rfl (Or.inl rfl) (told_makes V3.TT V3.gN V3.gP V3.z_repr) TB rfl hmT hu (hr.mono (by decide)) (show LamS (defScope s_l_lines_right) _ from lamS_by (by decide +kernel)) rfl (fun _ _ _ _ _ => rfl)
          (fun A' outer' s' H' E' f' c' hc' hr' => pe_cmethE (pe_glob (v := .ref C) (by rfl) V3.gF rfl) V3.rL V3.cL V3.FL V3.bL (hc'.deep _) (hr'.mono (by decide)) (takes_of rfl rfl rfl rfl) (fun _ _ _ _ z => z) (pa_cons (pv 5) pa_nil)) (by decide) (by decide) (by decide)) pa_nil)) (by rfl))
      (pss_one (ps_if (pt_cmpR op_isN (pv 3) pe_non (nomark _))
      (pss_one (ps_if (PW.pt (pw_or (pt_not (pt_val (pe_callB call_isi (by rfl) V3.z_isinstance (by decide +kernel) (pa_cons (pv 4) (pa_cons (pe_bltn (v := .ty "str") (by rfl) V3.z_str (by decide +kernel) rfl) pa_nil))))) (pw_or1 (pt_cmpR op_ne (pv 4) pe_str (nomark _)))))
      (pss_one (ps_ret pe_bl))
      pss_nil))
      (pss_one (ps_if (PW.pt (pw_or (pt_not (pt_val (pe_callB call_isi (by rfl) V3.z_isinstance (by decide +kernel) (pa_cons (pv 4) (pa_cons (pe_glob (v := .ref C) (by rfl) V3.gF rfl) pa_nil))))) (pw_or1 (pt_cmpR (op_neO V3.FE V3.eE V3.tE V3.eNe V3.moE V3.bE hc (hr.mono (by decide))) (pv 4) (pe_makeE (E := fun _ _ _ => False) (W := fun _ _ _ _ => False) V3.M (FnE.of V3.FI) hc (hr.mono (by decide)) (by rfl) V3.gF V3.bI takes0 (fun _ _ _ _ z => z) (pa_cons (pe_ix (ix_tup : IxR _ (rIxT K)) (pv 3) pe_int (fun _ _ => rfl)) (pa_cons (pe_ix (ix_tup : IxR _ (rIxT K)) (pv 3) pe_int (fun _ _ => rfl)) (pa_cons (pe_ix (ix_tup : IxR _ (rIxT K)) (pv 3) pe_int (fun _ _ => rfl)) pa_nil)))) (nomark _)))))
      (pss_one (ps_ret pe_bl))
      pss_nil)))))))
      (pss_cons (ps_set (i := 6) sc_l_lines_right.nd rfl (Or.inr rfl) (pe_cg G_l_pick hc hr (by rfl) (pa_cons (pv 0) (pa_cons (pe_lst (pa_cons pe_non (pa_cons pe_int (pa_cons (pe_tup (pa_cons (pv 1) pa_nil)) (pa_cons (pe_lst (pa_cons (pv 1) pa_nil)) (pa_cons (pe_disp (pps_cons (pv 1) pe_int pps_nil) (by rfl) (by rfl) (fun z => by cases z) (by decide)) (pa_cons pe_bl pa_nil))))))) pa_nil))))
      (pss_one (ps_ret (pe_cmpR op_eq (pe_lamC (k := 10) (T := T) (t := fun E => ClX.tCMeth C (spFrom C CP) E (tC (.ref C)) (tCons (tVar 6) tNil)) hc (by rfl) V3.mT V3.kT V3.lT V3.hT V3.bT sc_l_told rfl (Or.inl rfl) (told_makes V3.TT V3.gN V3.gP V3.z_repr) TB rfl hmT hu (hr.mono (by decide)) (show LamS (defScope s_l_lines_right) _ from lamS_by (by decide +kernel)) rfl (fun _ _ _ _ _ => rfl)
          (fun A' outer' s' H' E' f' c' hc' hr' => pe_cmethE (pe_glob (v := .ref C) (by rfl) V3.gF rfl) V3.rL V3.cL V3.FL V3.bL (hc'.deep _) (hr'.mono (by decide)) (takes_of rfl rfl rfl rfl) (fun _ _ _ _ z => z) (pa_cons (pv 6) pa_nil)) (by decide) (by decide) (by decide)) pe_str (nomark _)))))), ?_⟩
    refine ⟨8, rfl, by decide, by decide, for_range (lo := 0) (fun i σ H' => ∃ x2 x3 x4 x5 x6, σ = [some (.ref d), some (.str z), x2, x3, x4, x5, x6] ∧ Go T d H H') ⟨none, none, none, none, none, rfl, Go.refl hd ht⟩ ?_ ?_⟩
    · rintro i σ H' hi ⟨y2, y3, y4, y5, y6, rfl, g0⟩
      refine ⟨_, rfl, _, rfl, d, z, rfl, g0.dice, hz, az, fun z' H1 p1 lz' az' => ?_⟩
      have g1 := g0.thenP p1
      refine ⟨_, rfl, z', rfl, lz', az', fun due H2 s2 td => ?_⟩
      have g2 := g1.thenS s2
      have next : ∀ (told : V) (H3 : Hp), Go T d H H3 → ∃ x2 x3 x4 x5 x6, ([some (.ref d), some (.str z), some (.int (0 + i)), some due, some told, some (.str z'), y6] : L2.St) = [some (.ref d), some (.str z), x2, x3, x4, x5, x6] ∧ Go T d H H3 := fun told H3 g => ⟨_, _, _, _, y6, rfl, g⟩
      refine told_line (d := d) (i := 5) rfl g2.dice g2.tabs (show Judged H2 (.str z') from ⟨lz', az'⟩) (fun n so cs e a ch ts H3 g3 fa => ?_) (fun e H3 g3 => ?_)
      · have e' : readW (Txt.split z' " ") = some (n, so, cs) := e
        rw [e'] at td
        obtain ⟨p, ch0, ts0, rfl, hp, k0⟩ := td
        have gg := g2.trans g3
        obtain ⟨⟨n1, m1⟩, ⟨n2, m2⟩⟩ := readW_nams (split_plain (n := 1000) lz' az').1 e'
        have k3 := k0.go g3 g2.dice
        obtain ⟨⟨dxa, ha⟩, ka⟩ := id fa
        have hp3 : H3 p = some (.tup [.str n, .str so, .ref ch0]) := by
          refine g3.keep _ _ (fun q => ?_) (fun ps z => nomatch z) hp
          obtain ⟨x, y, z, e⟩ := g2.dice
          rw [q, e] at hp
          cases hp
        have hT : SqT K H3 p [.str n, .str so, .ref ch0] := .inl (.inl hp3)
        refine ⟨_, _, rfl, _, rfl, rfl, _, rfl, ite2 (fun n => absurd (of_decide_eq_true n) (fun z => nomatch z)) (fun _ => ?_)⟩
        refine ⟨_, rfl, _, _, _, _, true, rfl, .own C, .base (.ins ha V3.T.c V3.TI.ca V3.TI.sp V3.TI.tk V3.TI.mo), V3.TI.yes, _, rfl, iteF ?_⟩
        refine ⟨_, rfl, _, rfl, p, _, _, _, rfl, rfl, hT, rfl, _, rfl, p, _, _, _, rfl, rfl, hT, rfl, _, rfl, p, _, _, _, rfl, rfl, hT, rfl, fun x dx nx ndx ne => ?_⟩
        have sd : Same H3 (upd (upd H3 dx (.own x)) x (.ins C dx [])) := (same_new ndx).trans (same_new (by rw [upd_ne ne.symm]; exact nx))
        refine ⟨x, dx, ch0, n, so, ts0, cs, rfl, upd_same, ⟨n1, m1⟩, ⟨n2, m2⟩, k3.same sd, fun H5 s5 => ⟨rfl, ?_⟩⟩
        have sF : Same H3 (upd H5 x (.ins C dx (flds n so ch0))) := same_put nx (sd.trans s5)
        refine ⟨a, x, dxa, dx, _, _, rfl, rfl, sF _ _ ha, upd_same, a, ch, n, so, ts, cs, _, rfl, ⟨⟨dxa, sF _ _ ha⟩, ka.same sF⟩, .inr ⟨x, ch0, n, so, ts0, cs, rfl, ⟨⟨dx, upd_same⟩, k3.same sF⟩, _, rfl, _, rfl, ?_⟩⟩
        rw [decide_eq_true (rfl : n = n), decide_eq_true (rfl : so = so), decide_eq_true (rfl : cs = cs)]
        exact iteF (next _ _ (gg.thenS sF))
      · have e' : readW (Txt.split z' " ") = none := e
        rw [e'] at td
        cases (show due = .non from td)
        have gg := g2.trans g3
        refine ⟨_, _, rfl, _, rfl, rfl, _, rfl, ite2 (fun _ => ?_) (fun n => absurd (by decide) n)⟩
        exact ⟨_, rfl, _, _, _, _, true, rfl, .ty _, .base (.str _), kit_ty ki_ss, _, rfl, iteF ⟨_, rfl, rfl, _, rfl, ite2 (fun n => absurd n (by simp)) (fun _ => next _ _ gg)⟩⟩
    · rintro σ H' ⟨x2, x3, x4, x5, x6, rfl, g0⟩
      have le : ∀ {n : Nat}, n ≤ 11 → n ≤ sizeLine := fun h => Nat.le_trans h (by decide)
      have hd0 := g0.dice
      refine ⟨_, rfl, _, rfl, le (by show 1 ≤ 11; decide), fun p1 n1 => ⟨_, rfl, le (by show 1 ≤ 11; decide), fun p2 n2 => fun p3 n3 => ⟨_, rfl, upd_same, [(Sum.inr z, V.int 1)], rfl, (by show 1 ≤ 15; decide), le (by show 6 ≤ 11; decide), fun l nl => ?_⟩⟩⟩
      have d1 := (Past.new (o := .tup [V.str z]) hd0 n1)
      have s2 := same_new (o := .lst [V.str z]) n2
      have d2 := Past.same d1.dice s2
      have s3 := same_new2 (o := .dK []) (o' := .dK (mergeK [] [(Sum.inr z, V.int 1)])) n3
      have d3 := Past.same d2.dice s3
      have sl := same_new (o := .lst [V.non, .int 7, .ref p1, .ref p2, .ref p3, .bl true]) nl
      have dl := Past.same d3.dice sl
      have r : ∀ {p : Addr}, p ≠ d → V.ref p ≠ V.ref d := fun h e => h (V.ref.inj e)
      refine ⟨d, _, (fun v => Judged (upd (upd (upd (upd (upd H' p1 (.tup [V.str z])) p2 (.lst [V.str z])) p3 (.dK [])) p3 (.dK (mergeK [] [(Sum.inr z, V.int 1)]))) l (.lst [V.non, .int 7, .ref p1, .ref p2, .ref p3, .bl true])) v ∧ v ≠ .ref d ∧ wordsV v = []), rfl, dl.dice, .inl ⟨l, _, rfl, d3.dice.ne nl, .inl (.inl (.inl upd_same)), nofun, by show 6 ≤ 1000000; decide, fun v hv => ?_⟩, fun v H2 pa hv => ?_⟩
      · simp only [List.mem_cons, List.not_mem_nil, or_false] at hv
        rcases hv with rfl | rfl | rfl | rfl | rfl | rfl
        · exact ⟨trivial, nofun, rfl⟩
        · exact ⟨by show (7 : Int).natAbs < 10 ^ 100; decide +kernel, nofun, rfl⟩
        · exact ⟨.inr (.inl ⟨_, sl _ _ (s3 _ _ (s2 _ _ upd_same))⟩), r (hd0.ne n1), rfl⟩
        · exact ⟨.inl ⟨_, sl _ _ (s3 _ _ upd_same)⟩, r (d1.dice.ne n2), rfl⟩
        · exact ⟨.inr (.inr ⟨_, sl _ _ upd_same⟩), r (d2.dice.ne n3), rfl⟩
        · exact ⟨trivial, nofun, rfl⟩
      · have g2 := g0.thenP ((((d1.trans d2).trans d3).trans dl).trans pa)
        refine told_line (d := d) (i := 6) rfl g2.dice g2.tabs (Past.judged pa hv.1 hv.2.1) (fun n so cs e => ?_) (fun e H3 g3 => ?_)
        · rw [hv.2.2] at e
          exact absurd e (by show readW [] ≠ some (n, so, cs); exact fun z => nomatch z)
        · refine ⟨rfl, ?_⟩
          have := q H3 (g2.trans g3)
          simpa using this
end
end K03
set_option Elab.async false
set_option linter.all false
set_option autoImplicit false
set_option maxRecDepth 100000
set_option maxHeartbeats 4000000
namespace K03
open PySem PySem.Spec PyProof.Rows L2 Vb Wd Gd
/-! ### lines written and read -/
/-- a form's names and children are right -/
structure Right (n so : Str) (cs : List (Str × Int)) : Prop where
  n : isNam (.str n) = true
  so : isNam (.str so) = true
  lo : 2 ≤ cs.length
  hi : cs.length ≤ 4
  kid : ∀ c ∈ cs, isNam (.str c.1) = true ∧ 0 ≤ c.2 ∧ c.2 ≤ 3
theorem nam_low {z : Str} (h : isNam (.str z) = true) : Low z := fun c hc => List.all_eq_true.mp (nam_len h).2.2 c hc
theorem nam_plain {z : Str} (h : isNam (.str z) = true) : z.length ≤ 1000 ∧ Asc z := ⟨by have := (nam_len h).2.1; omega, low_asc (nam_low h)⟩
theorem dig_cps {i : Int} (h0 : 0 ≤ i) (h3 : i ≤ 3) : (Str.ofString (toString i)).cps.toList = [48 + i.toNat] := by
  have : i = 0 ∨ i = 1 ∨ i = 2 ∨ i = 3 := by omega
  rcases this with rfl | rfl | rfl | rfl <;> decide +kernel
theorem app_cps (x y : Str) : (x ++ y).cps.toList = x.cps.toList ++ y.cps.toList := by
  show (x.cps ++ y.cps).toList = _
  exact Array.toList_append
theorem word_cps {c : Str × Int} (h0 : 0 ≤ c.2) (h3 : c.2 ≤ 3) : (wordT c).cps.toList = c.1.cps.toList ++ [48 + c.2.toNat] := by
  unfold wordT
  rw [app_cps, dig_cps h0 h3]
theorem word_init {c : Str × Int} (h0 : 0 ≤ c.2) (h3 : c.2 ≤ 3) : initS (wordT c) = c.1 := by
  have e := word_cps h0 h3
  have el : (wordT c).length = c.1.length + 1 := by
    have := congrArg List.length e
    simpa [Str.length] using this
  apply PySem.Str.ext'
  unfold initS cutS
  have e1 : HT.sIx (wordT c).length 0 none = 0 := rfl
  have e2 : HT.sIx (wordT c).length (wordT c).length (some (-1)) = c.1.length := by
    show ((-1 : Int) + ((wordT c).length : Int)).toNat = _
    rw [el]
    omega
  rw [e1, e2, e, List.drop_zero, Nat.sub_zero, List.take_append_of_le_length (by simp [Str.length]), List.take_of_length_le (by simp [Str.length])]
theorem word_last {c : Str × Int} (h0 : 0 ≤ c.2) (h3 : c.2 ≤ 3) : lastC (wordT c) = some (48 + c.2.toNat) := by
  unfold lastC
  rw [word_cps h0 h3, List.getLast?_append]
  rfl
theorem word_child {c : Str × Int} (hn : isNam (.str c.1) = true) (h0 : 0 ≤ c.2) (h3 : c.2 ≤ 3) : childB (wordT c) = true ∧ childV (wordT c) = c := by
  constructor
  · unfold childB
    rw [word_init h0 h3, hn, digC_of (word_last h0 h3), decide_eq_true (show 48 ≤ 48 + c.2.toNat by omega), decide_eq_true (show 48 + c.2.toNat ≤ 51 by omega)]
    rfl
  · unfold childV
    rw [word_init h0 h3, word_last h0 h3]
    obtain ⟨n, s⟩ := c
    simp only [Option.getD_some, Prod.mk.injEq, true_and]
    simp only at h0 h3
    omega
theorem noblank {z : Str} (h : Low z) : (32 : Nat) ∉ TL.tl z := fun hc => by
  have := h 32 hc
  exact absurd this (by decide)
theorem noblank_word {c : Str × Int} (hn : isNam (.str c.1) = true) (h0 : 0 ≤ c.2) (h3 : c.2 ≤ 3) : (32 : Nat) ∉ TL.tl (wordT c) := fun hc => by
  have e : TL.tl (wordT c) = c.1.cps.toList ++ [48 + c.2.toNat] := word_cps h0 h3
  rw [e] at hc
  rcases List.mem_append.mp hc with hc | hc
  · exact noblank (nam_low hn) hc
  · have := List.mem_singleton.mp hc
    omega
theorem line_split {n so : Str} {cs : List (Str × Int)} (r : Right n so cs) : Txt.split (lineT n so cs) " " = ("form" : Str) :: n :: so :: cs.map wordT := by
  refine TL.split_join (y := " ") (s := 32) (S := []) (by decide +kernel) (by decide +kernel) (by simp) fun p hp => ?_
  rcases List.mem_cons.mp hp with rfl | hp
  · decide +kernel
  rcases List.mem_cons.mp hp with rfl | hp
  · exact noblank (nam_low r.n)
  rcases List.mem_cons.mp hp with rfl | hp
  · exact noblank (nam_low r.so)
  · obtain ⟨c, hc, rfl⟩ := List.mem_map.mp hp
    obtain ⟨h1, h2, h3⟩ := r.kid c hc
    exact noblank_word h1 h2 h3
theorem line_read {n so : Str} {cs : List (Str × Int)} (r : Right n so cs) : readW (Txt.split (lineT n so cs) " ") = some (n, so, cs) := by
  rw [line_split r]
  have fb : formB (("form" : Str) :: n :: so :: cs.map wordT) = true := by
    unfold formB
    have e1 : (("form" : Str) :: n :: so :: cs.map wordT).getD 1 "" = n := rfl
    have e2 : (("form" : Str) :: n :: so :: cs.map wordT).getD 2 "" = so := rfl
    have e0 : (("form" : Str) :: n :: so :: cs.map wordT).getD 0 "" = ("form" : Str) := rfl
    have ed : (("form" : Str) :: n :: so :: cs.map wordT).drop 3 = cs.map wordT := rfl
    have el : (("form" : Str) :: n :: so :: cs.map wordT).length = cs.length + 3 := by simp
    have all : (cs.map wordT).all childB = true := by
      rw [List.all_eq_true]
      intro y hy
      obtain ⟨c, hc, rfl⟩ := List.mem_map.mp hy
      obtain ⟨h1, h2, h3⟩ := r.kid c hc
      exact (word_child h1 h2 h3).1
    have := r.lo
    have := r.hi
    rw [e0, e1, e2, ed, el, decide_eq_true (show 5 ≤ cs.length + 3 by omega), decide_eq_true (show cs.length + 3 ≤ 7 by omega), r.n, r.so, all]
    decide
  unfold readW
  rw [if_pos fb]
  have ec : ((("form" : Str) :: n :: so :: cs.map wordT).drop 3).map childV = cs := by
    show (cs.map wordT).map childV = cs
    rw [List.map_map]
    conv => rhs; rw [← List.map_id cs]
    refine List.map_congr_left fun c hc => ?_
    obtain ⟨h1, h2, h3⟩ := r.kid c hc
    exact (word_child h1 h2 h3).2
  rw [ec]
  rfl
theorem word_len' {c : Str × Int} (hn : isNam (.str c.1) = true) (h0 : 0 ≤ c.2) (h3 : c.2 ≤ 3) : (wordT c).length ≤ 9 := by
  unfold wordT
  rw [PySem.Str.length_append, one_sign h0 h3]
  have := (nam_len hn).2.1
  omega
theorem line_plain {n so : Str} {cs : List (Str × Int)} (r : Right n so cs) : (lineT n so cs).length ≤ 100 ∧ Asc (lineT n so cs) := by
  have wl : ∀ y ∈ cs.map wordT, y.length ≤ 9 := fun y hy => by
    obtain ⟨c, hc', rfl⟩ := List.mem_map.mp hy
    obtain ⟨h1, h2, h3⟩ := r.kid c hc'
    exact word_len' h1 h2 h3
  have sm := words_sum (cs.map wordT) 9 wl
  have l4 : ("form" : Str).length = 4 := by decide +kernel
  have l1 : (" " : Str).length = 1 := by decide +kernel
  have h1 := (nam_len r.n).2.1
  have h2 := (nam_len r.so).2.1
  have h4 := r.hi
  constructor
  · unfold lineT
    rw [TL.join_eq]
    refine Nat.le_trans (join_len " " _) ?_
    rw [List.length_map] at sm
    unfold lens
    simp only [List.map_cons, List.sum_cons, List.length_cons, List.length_map]
    rw [l4, l1]
    omega
  · refine asc_joinB fun y hy => ?_
    rcases List.mem_cons.mp hy with rfl | hy
    · exact asc_lit (by decide +kernel)
    rcases List.mem_cons.mp hy with rfl | hy
    · exact (nam_plain r.n).2
    rcases List.mem_cons.mp hy with rfl | hy
    · exact (nam_plain r.so).2
    · obtain ⟨c, hc, rfl⟩ := List.mem_map.mp hy
      obtain ⟨h1, h2, h3⟩ := r.kid c hc
      refine asc_app (nam_plain h1).2 fun x hx => ?_
      rw [dig_cps h2 h3] at hx
      have := List.mem_singleton.mp hx
      omega
theorem Kids.right {H : Hp} {a : Addr} {ts : List Addr} {cs : List (Str × Int)} {n so : Str} (k : Kids H a ts cs) (hn : isNam (.str n) = true) (hso : isNam (.str so) = true) : Right n so cs := by
  have l := k.len
  have lo := k.lo
  have hi := k.hi
  refine ⟨hn, hso, by omega, by omega, fun c hc => ?_⟩
  obtain ⟨i, il, e⟩ := List.mem_iff_getElem.mp hc
  have kk := k.kid i ts[i] c (List.getElem?_eq_getElem (by omega)) (by rw [List.getElem?_eq_getElem il, e])
  exact ⟨kk.nam, kk.lo, kk.hi⟩
/-! ### what is written out -/
theorem repr_str_len {z : Str} (h : Asc z) : (PyData.str z).shown.length ≤ 10 * z.length + 2 := by
  rw [PyData.shown_str]
  exact PySem.StrLaws.reprText_len z fun c hc => Nat.lt_trans (h c hc) (by decide)
theorem shown_list_len : ∀ (ds : List PyData) (m : Nat), (∀ d ∈ ds, d.shown.length ≤ m) → lens (PyData.shownAll ds) ≤ ds.length * m ∧ (PyData.shownAll ds).length = ds.length
  | [], m, _ => by rw [PyData.shownAll_nil]; exact ⟨Nat.zero_le _, rfl⟩
  | d :: ds, m, h => by
    obtain ⟨h1, h2⟩ := shown_list_len ds m fun x hx => h x (List.mem_cons_of_mem _ hx)
    have h0 := h d List.mem_cons_self
    rw [PyData.shownAll_cons]
    unfold lens at h1 ⊢
    rw [List.map_cons, List.sum_cons, List.length_cons, List.length_cons, h2, Nat.succ_mul]
    exact ⟨by omega, rfl⟩
theorem shown_tup_len (ds : List PyData) (m : Nat) (h : ∀ d ∈ ds, d.shown.length ≤ m) : (PyData.tuple ds).shown.length ≤ 3 + ds.length * (m + 2) := by
  obtain ⟨h1, h2⟩ := shown_list_len ds m h
  rw [PyData.shown_tuple, PySem.Str.length_append, PySem.Str.length_append]
  have j := join_len ", " (PyData.shownAll ds)
  have l2 : (", " : Str).length = 2 := by decide +kernel
  have l1 : ("(" : Str).length = 1 := by decide +kernel
  have le : (Str.ofString (if ds.length == 1 then ",)" else ")")).length ≤ 2 := by
    split <;> decide +kernel
  rw [l2, h2] at j
  rw [l1, Nat.mul_add]
  omega
end K03
set_option Elab.async false
set_option linter.all false
set_option autoImplicit false
set_option maxRecDepth 100000
set_option maxHeartbeats 4000000
namespace K03
open PySem PySem.Spec PyProof.Rows L2 Vb Wd Gd
theorem digit_shown {i : Int} (h0 : 0 ≤ i) (h9 : i ≤ 9) : (PyData.int i).shown.length ≤ 13 := PyData.shown_int_le2 (by omega) (by omega)
theorem kids_data : ∀ (cs : List (Str × Int)), (∀ c ∈ cs, isNam (.str c.1) = true ∧ 0 ≤ c.2 ∧ c.2 ≤ 3) → PyData.showableAll (cs.map kidD) = true ∧ PyData.hasDictAll (cs.map kidD) = false ∧ PyData.depthAll (cs.map kidD) ≤ 1 ∧ ∀ d ∈ cs.map kidD, d.shown.length ≤ 171
  | [], _ => ⟨rfl, rfl, Nat.zero_le _, fun d h => nomatch h⟩
  | (n, s) :: cs, h => by
    obtain ⟨h1, h2, h3, h4⟩ := kids_data cs fun c hc => h c (List.mem_cons_of_mem _ hc)
    obtain ⟨k1, k2, k3⟩ := h (n, s) List.mem_cons_self
    simp only at k1 k2 k3
    refine ⟨?_, ?_, ?_, fun d hd => ?_⟩
    · show (PyData.showable (kidD (n, s)) && PyData.showableAll (cs.map kidD)) = true
      rw [h1, Bool.and_true]
      show (true && (decide (s.natAbs.log2 < 1920) && true)) = true
      rw [decide_eq_true (log_small k2 k3)]
      rfl
    · show (PyData.hasDict (kidD (n, s)) || PyData.hasDictAll (cs.map kidD)) = false
      rw [h2]
      rfl
    · show max (PyData.depth (kidD (n, s))) (PyData.depthAll (cs.map kidD)) ≤ 1
      have e : PyData.depth (kidD (n, s)) = 1 := rfl
      omega
    · rcases List.mem_cons.mp hd with rfl | hd
      · refine Nat.le_trans (shown_tup_len [.str n, .int s] 82 fun x hx => ?_) (by show 3 + 2 * 84 ≤ 171; decide)
        rcases List.mem_cons.mp hx with rfl | hx
        · have := repr_str_len (nam_plain k1).2
          have := (nam_len k1).2.1
          omega
        · cases List.mem_singleton.mp hx
          exact Nat.le_trans (digit_shown k2 (by omega)) (by decide)
      · exact h4 d hd
/-- what a form tells, as data -/
def toldD (n so : Str) (cs : List (Str × Int)) : PyData := .tuple [.str n, .str so, .tuple (cs.map kidD), .int (cs.length : Nat), .str (lineT n so cs)]
theorem told_shows {n so : Str} {cs : List (Str × Int)} (r : Right n so cs) : (toldD n so cs).showable = true ∧ (toldD n so cs).hasDict = false ∧ (toldD n so cs).depth < 64 ∧ (toldD n so cs).shown.length ≤ sizeLine := by
  obtain ⟨h1, h2, h3, h4⟩ := kids_data cs r.kid
  have hi := r.hi
  have lo := r.lo
  refine ⟨?_, ?_, ?_, ?_⟩
  · show (true && (true && (PyData.showableAll (cs.map kidD) && (decide (((cs.length : Nat) : Int).natAbs.log2 < 1920) && (true && true))))) = true
    rw [h1]
    have : cs.length = 2 ∨ cs.length = 3 ∨ cs.length = 4 := by omega
    rcases this with e | e | e <;> rw [e] <;> decide
  · show (false || (false || (PyData.hasDictAll (cs.map kidD) || (false || (false || false))))) = false
    rw [h2]
    rfl
  · show max 0 (max 0 (max (PyData.depthAll (cs.map kidD) + 1) (max 0 (max 0 0)))) + 1 < 64
    omega
  · refine Nat.le_trans (shown_tup_len _ 1002 fun d hd => ?_) (by show 3 + 5 * 1004 ≤ sizeLine; decide)
    have p1 := repr_str_len (nam_plain r.n).2
    have p2 := repr_str_len (nam_plain r.so).2
    have p3 := repr_str_len (line_plain r).2
    have l1 := (nam_len r.n).2.1
    have l2 := (nam_len r.so).2.1
    have l3 := (line_plain r).1
    simp only [List.mem_cons, List.not_mem_nil, or_false] at hd
    rcases hd with rfl | rfl | rfl | rfl | rfl
    · omega
    · omega
    · refine Nat.le_trans (shown_tup_len _ 171 h4) ?_
      rw [List.length_map]
      omega
    · exact Nat.le_trans (digit_shown (by omega) (by omega)) (by decide)
    · omega
theorem int_shows {K : PySem.W.Frag} {H : Hp} {i : Int} (h : i.natAbs < 10 ^ 61) : Shows K H (.int i) (.int i) := by
  have big : (10 : Nat) ^ 61 < 2 ^ 1920 := by decide +kernel
  have lg : i.natAbs.log2 < 1920 := by
    by_cases z : i.natAbs = 0
    · rw [z]; decide
    · exact (Nat.log2_lt z).mpr (Nat.lt_trans h big)
  refine ⟨.int i, decide_eq_true lg, rfl, by show 0 < 64; decide, ?_⟩
  rw [PyData.shown_int i]
  have l := int_text_length_le10 (k := 61) (by decide) h
  rw [PySem.ofString_length]
  omega
theorem kids_shapedL {H : Hp} {a : Addr} {ts : List Addr} {cs : List (Str × Int)} (k : Kids H a ts cs) : SeqAt.shaped (.list (cs.map kidD)) = true := kids_shaped k
end K03
set_option Elab.async false
set_option linter.all false
set_option autoImplicit false
set_option maxRecDepth 100000
set_option maxHeartbeats 8000000
namespace K03
open PySem PySem.Spec PyProof.Rows L2 Vb Wd Xd Xo Xq Xl Xt Xv Xg Rd LamX Gd L2
abbrev s_l_right : Stmt := topS 33
theorem sc_l_right : FnScope ["_law_dice_here", "_law_called", "_law_sort", "_law_some", "_law_children", "_law_step", "_law_line", "_law_told_here", "_law_far", "_law_other", "_law_spot", "_law_changed", "_law_form", "_law_odd", "_law_turn", "_law_name_here", "_law_at"] ["_law_dice_here"] (defScope s_l_right) := ⟨rfl, rfl, rfl, by decide +kernel, rfl, by decide +kernel, by decide +kernel⟩
structure Env4 (P : Program) (w : World) (K : PySem.W.Frag) (mg : Str → Option Value) (base : Heap) (C CN : Addr) (T : List (Addr × Str)) where
  FP : FormP P w K mg base C
  fLen : Addr
  fdLen : FuncData
  FLen : FnG P w K mg base 1 fLen fdLen ["self"] (spLenF C)
  eLen : PySem.W.findIn K (.ref C) "__len__" = some (some (.ref fLen))
  tLen : PySem.W.isFn K (.ref fLen) = true
  bLen : Binds K fdLen ["self"] []
  fStr : Addr
  fdStr : FuncData
  FStr : FnG P w K mg base 1 fStr fdStr ["self"] (spStr C)
  eStr : PySem.W.findIn K (.ref C) "__str__" = some (some (.ref fStr))
  tStr : PySem.W.isFn K (.ref fStr) = true
  bStr : Binds K fdStr ["self"] []
  fIt : Addr
  fdIt : FuncData
  FIt : FnE P w K mg base 4 fIt fdIt ["self", "index"] (spItem C CN)
  eIt : PySem.W.findIn K (.ref C) "__getitem__" = some (some (.ref fIt))
  nIt : PySem.W.fnIn K fIt = true
  tIt : PySem.W.isFn K (.ref fIt) = true
  bIt : Binds K fdIt ["self", "index"] []
  fLn : Addr
  fdLn : FuncData
  FLn : FnG P w K mg base 13 fLn fdLn ["_law_dice_here", "_law_line"] (spLines T)
  mLn : mg "_law_lines_right" = some (.ref fLn)
  kLn : PySem.W.keepIn K (.ref fLn) = true
  bLn : Binds K fdLn ["_law_dice_here", "_law_line"] []
  nfT : PySem.W.notFirst K C (.type "tuple") = true
  nfS : PySem.W.notFirst K C (.type "str") = true
def spRight (T : List (Addr × Str)) : Sp := fun vs H Q _ => ∃ d : Addr, vs = [.ref d] ∧ Dice H d ∧ Tabs T H ∧ ∀ H', Go T d H H' → Q (.bl true) H'
theorem Kid.past {d u : Addr} {Ha Hb : Hp} {m : Str} {k : Int} (pp : Past d Ha Hb) (dd : Dice Ha d) (kk : Kid Ha u m k) : Kid Hb u m k := by
  have n : u ≠ d := fun q => by
    obtain ⟨x, y, z, e⟩ := dd
    have a := kk.at_
    rw [q, e] at a
    cases a
  exact ⟨pp.1 _ _ n kk.at_, kk.nam, kk.plain, kk.lo, kk.hi⟩
/-- where the form, its children and its line stand -/
structure Mid (K : PySem.W.Frag) (C d x ch c2 p : Addr) (n so : Str) (ts : List Addr) (cs : List (Str × Int)) (T : List (Addr × Str)) (H : Hp) : Prop where
  fx : FormAt H C x ch n so ts cs
  k2 : Kids H c2 ts cs
  hp : H p = some (.lst (ts.map V.ref))
  pd : p ≠ d
  rt : Right n so cs
  dice : Dice H d
  tabs : Tabs T H
/-- what is no index of a form with m children -/
def OddV (m : Nat) (p0 : Addr) (v : V) : Prop := (∃ i : Int, v = .int i ∧ i.natAbs < 10 ^ 61 ∧ isIdx (.int i) m = false) ∨ (∃ b, v = .bl b) ∨ v = .non ∨ v = .str "0" ∨ v = .ref p0
theorem oddV_facts {K : PySem.W.Frag} {m : Nat} {p0 : Addr} {v : V} {H : Hp} (h : OddV m p0 v) (e : H p0 = some (.tup [.int 0])) : Judged H v ∧ isIdx v m = false ∧ ∃ pd, Shows K H v pd := by
  rcases h with ⟨i, rfl, hi, hx⟩ | ⟨b, rfl⟩ | rfl | rfl | rfl
  · exact ⟨Nat.lt_trans hi (by decide +kernel), hx, _, int_shows hi⟩
  · refine ⟨trivial, rfl, .bool b, .bl b, rfl, rfl, by show 0 < 64; decide, ?_⟩
    cases b <;> decide +kernel
  · exact ⟨trivial, rfl, _, shows_none⟩
  · exact ⟨⟨by decide +kernel, asc_lit (by decide +kernel)⟩, rfl, .str "0", .str _, rfl, rfl, by show 0 < 64; decide, by decide +kernel⟩
  · exact ⟨.inr (.inl ⟨_, e⟩), rfl, .tuple [.int 0], .tup (.inl (.inl e)) (.cons (.int 0) .nil), by decide +kernel, by decide +kernel, by decide +kernel, by decide +kernel⟩
theorem isIdx_out {i : Int} {m : Nat} (h : (m : Int) ≤ i ∨ i < 0) : isIdx (.int i) m = false := by
  show ((isInt (.int i) && decide (0 ≤ i)) && decide (i < (m : Int))) = false
  rcases h with h | h
  · rw [decide_eq_false (show ¬ i < (m : Int) by omega), Bool.and_false]
  · rw [decide_eq_false (show ¬ 0 ≤ i by omega), Bool.and_false, Bool.false_and]
/-- form == C(n', so', c') -/
theorem made_eq {K : PySem.W.Frag} {C x ch c' : Addr} {n so n' so' : Str} {ts ts' : List Addr} {cs cs' : List (Str × Int)} {H : Hp} {Q : VK} (fx : FormAt H C x ch n so ts cs) (hn : isNam (.str n') = true) (hso : isNam (.str so') = true) (k' : Kids H c' ts' cs')
    (q : ∀ H', Same H H' → Q (.bl (decide (n = n') && (decide (so = so') && decide (cs = cs')))) H') :
    ∀ y dy, H y = none → H dy = none → dy ≠ y → spInit K C [.ref y, .str n', .str so', .ref c'] (upd (upd H dy (.own y)) y (.ins C dy [])) (fun v H2 => v = .non ∧ rEqO C (spEq K C) (.ref x) (.ref y) H2 Q) (fun _ _ _ => False) := by
  intro y dy ny ndy ne
  obtain ⟨⟨dx, hx⟩, kx⟩ := id fx
  have sd : Same H (upd (upd H dy (.own y)) y (.ins C dy [])) := (same_new ndy).trans (same_new (by rw [upd_ne ne.symm]; exact ny))
  refine ⟨y, dy, c', n', so', ts', cs', rfl, upd_same, ⟨hn, nam_plain hn⟩, ⟨hso, nam_plain hso⟩, k'.same sd, fun H5 s5 => ⟨rfl, ?_⟩⟩
  have sF : Same H (upd H5 y (.ins C dy (flds n' so' c'))) := same_put ny (sd.trans s5)
  exact ⟨x, y, dx, dy, _, _, rfl, rfl, sF _ _ hx, upd_same, x, ch, n, so, ts, cs, _, rfl, ⟨⟨dx, sF _ _ hx⟩, kx.same sF⟩, .inr ⟨y, c', n', so', ts', cs', rfl, ⟨⟨dy, upd_same⟩, k'.same sF⟩, _, rfl, q _ sF⟩⟩
/-- two tuples one behind the other -/
theorem catA_any {K : PySem.W.Frag} {a b : Addr} {xs ys : List V} {H : Hp} {Q : VK} (ea : H a = some (.tup xs)) (eb : H b = some (.tup ys)) (len : xs.length + ys.length ≤ sizeLine) (k : ∀ p H', Same H H' → H' p = some (.tup (xs ++ ys)) → Q (.ref p) H') : rCatA K (.ref a) (.ref b) H Q :=
  ⟨a, b, xs, ys, rfl, rfl, .inl (.inl ea), .inl (.inl eb), len, fun e => k b H (Same.refl H) (by rw [e]; exact eb), fun _ e => k a H (Same.refl H) (by rw [e, List.append_nil]; exact ea), fun _ _ p np => k p _ (same_new np) upd_same⟩
theorem cut_to {α : Type} (f : α → V) (l : List α) {i : Int} (h0 : 0 ≤ i) (h1 : i < l.length) : cutV (l.map f) none (some i) = (l.take i.toNat).map f := by
  unfold cutV
  have e : HT.sIx (l.map f).length (l.map f).length (some i) = i.toNat := by
    rw [List.length_map]
    unfold HT.sIx
    show (if i < 0 then _ else min i.toNat l.length) = _
    rw [if_neg (by omega)]
    omega
  rw [e, HT.sIx_none, List.drop_zero, Nat.sub_zero, List.map_take]
theorem cut_from {α : Type} (f : α → V) (l : List α) {i : Int} (h0 : 0 ≤ i) (h1 : i ≤ l.length) : cutV (l.map f) (some i) none = (l.drop i.toNat).map f := by
  unfold cutV
  have e : HT.sIx (l.map f).length 0 (some i) = i.toNat := by
    rw [List.length_map]
    unfold HT.sIx
    show (if i < 0 then _ else min i.toNat l.length) = _
    rw [if_neg (by omega)]
    omega
  rw [e, HT.sIx_none, List.take_of_length_le (by rw [List.length_drop]; exact Nat.le_refl _), List.map_drop]
theorem cut_last {α : Type} (f : α → V) (l : List α) (h : 1 ≤ l.length) : cutV (l.map f) (some (-1)) none = (l.drop (l.length - 1)).map f := by
  unfold cutV
  have e : HT.sIx (l.map f).length 0 (some (-1)) = l.length - 1 := by
    rw [List.length_map]
    show ((-1 : Int) + (l.length : Int)).toNat = _
    omega
  rw [e, HT.sIx_none, List.take_of_length_le (by rw [List.length_drop, List.length_map]; exact Nat.le_refl _), List.map_drop]
theorem Kids.set {H : Hp} {a e u : Addr} {ts : List Addr} {cs : List (Str × Int)} {i : Nat} {m : Str} {k : Int} (kk : Kids H a ts cs) (ku : Kid H u m k) (he : H e = some (.tup ((ts.set i u).map V.ref))) : Kids H e (ts.set i u) (cs.set i (m, k)) := by
  refine ⟨he, by rw [List.length_set, List.length_set]; exact kk.len, by rw [List.length_set]; exact kk.lo, by rw [List.length_set]; exact kk.hi, fun j t c ht hc => ?_⟩
  rw [List.getElem?_set] at ht hc
  by_cases ij : i = j
  · subst ij
    rw [if_pos rfl] at ht hc
    have l := kk.len
    by_cases hi : i < ts.length
    · rw [if_pos hi] at ht
      rw [if_pos (by omega)] at hc
      cases ht
      cases hc
      exact ku
    · rw [if_neg hi] at ht
      cases ht
  · rw [if_neg ij] at ht hc
    exact kk.kid j t c ht hc
theorem Kids.more {H : Hp} {a e : Addr} {ts : List Addr} {cs : List (Str × Int)} (kk : Kids H a ts cs) (lt : ts.length < 4) (he : H e = some (.tup ((ts ++ ts.drop (ts.length - 1)).map V.ref))) : Kids H e (ts ++ ts.drop (ts.length - 1)) (cs ++ cs.drop (ts.length - 1)) := by
  have l := kk.len
  have lo := kk.lo
  refine ⟨he, by rw [List.length_append, List.length_append, List.length_drop, List.length_drop]; omega, by rw [List.length_append]; omega, by rw [List.length_append, List.length_drop]; omega, fun j t c ht hc => ?_⟩
  by_cases hj : j < ts.length
  · rw [List.getElem?_append_left hj] at ht
    rw [List.getElem?_append_left (by omega)] at hc
    exact kk.kid j t c ht hc
  · rw [List.getElem?_append_right (by omega), List.getElem?_drop] at ht hc
    rw [← l] at hc
    exact kk.kid _ t c ht hc
section
variable {P : Program} {w : World} {K : PySem.W.Frag} {mg : Str → Option Value} {base : Heap} {C CN CP : Addr}
theorem right_tail {f c Pt : Addr} {T : List (Addr × Str)} (V3 : Env3 P w K mg base C CN CP) (V4 : Env4 P w K mg base C CN T) (TB : TabB base mg c Pt) (hmT : (Pt, ("_law_right.<locals>.<lambda>" : Str)) ∈ T) (hu : ∀ p ∈ T, p.1 = Pt → p.2 = "_law_right.<locals>.<lambda>")
    (G_l_name : Cg P w K mg base 3 "_law_name" spName) (G_l_roll : Cg P w K mg base 1 "_law_roll" spRoll) (G_l_pick : Cg P w K mg base 2 "_law_pick" (spPick K)) (z_range : mg "range" = none) (z_tuple : mg "tuple" = none) (z_len : mg "len" = none)
    {A : Around} {outer : List Env} {s : Shared} {H0 : Hp} {E : XK} (hc : Calm (A.deeper (envOfC "_law_right" (defScope s_l_right) s.heap.objs.size f (.ref c)))) (hr : Room 15 (A.deeper (envOfC "_law_right" (defScope s_l_right) s.heap.objs.size f (.ref c)))) :
    ∃ t, PSs (cxOf CX0 P w K mg base ["_law_dice_here", "_law_called", "_law_sort", "_law_some", "_law_children", "_law_step", "_law_line", "_law_told_here", "_law_far", "_law_other", "_law_spot", "_law_changed", "_law_form", "_law_odd", "_law_turn", "_law_name_here", "_law_at"] "_law_right" (defScope s_l_right) f (.ref c) A outer s H0 E).nox ((defBody s_l_right).drop 4) t ∧
      ∀ (d x ch c2 p : Addr) (n so : Str) (ts : List Addr) (cs : List (Str × Int)) (H : Hp) (Q : VK), Mid K C d x ch c2 p n so ts cs T H → (∀ H', Go T d H H' → Q (.bl true) H') →
        t { nx := fun _ H' => Q .non H', rt := Q } [some (.ref d), some (.str n), some (.str so), some (.ref p), some (.ref c2), none, some (.str (lineT n so cs)), none, none, none, none, none, some (.ref x), none, none, none, none] H := by
  obtain ⟨p1, g1, fd1, o1, G1, b1⟩ := V4.FP.get _ (List.mem_cons_self)
  obtain ⟨p2, g2, fd2, o2, G2, b2⟩ := V4.FP.get ("sort_name", "_sort_name") (by simp)
  obtain ⟨p3, g3, fd3, o3, G3, b3⟩ := V4.FP.get ("children", "_children") (by simp)
  refine ⟨_, (pss_cons (ps_set (i := 7) sc_l_right.nd rfl (by first | exact Or.inl rfl | exact Or.inr rfl) (pe_tup (pa_cons (pe_propG (n := "called") (pv 12) V3.T.c o1 G1 hc (hr.mono (by decide)) b1) (pa_cons (pe_propG (n := "sort_name") (pv 12) V3.T.c o2 G2 hc (hr.mono (by decide)) b2) (pa_cons (pe_propG (n := "children") (pv 12) V3.T.c o3 G3 hc (hr.mono (by decide)) b3) (pa_cons (pe_callB (call_lenO V4.FLen V4.eLen V4.tLen V4.bLen hc (hr.mono (by decide))) (by rfl) z_len PySem.boot_len (pa_cons (pv 12) pa_nil)) (pa_cons (pe_callTy (call_strO V4.FStr V4.eStr V4.tStr V4.bStr hc (hr.mono (by decide))) (by rfl) V3.z_str (by decide +kernel) (pa_cons (pv 12) pa_nil)) pa_nil)))))))
      (pss_cons (ps_if (pt_cmpR op_ne (pe_callB (cr_reprD hc hr.units : CallR _ (.builtin "repr") (rReprD K)) (by rfl) V3.z_repr (by decide +kernel) (pa_cons (pv 7) pa_nil)) (pe_callB (cr_reprD hc hr.units : CallR _ (.builtin "repr") (rReprD K)) (by rfl) V3.z_repr (by decide +kernel) (pa_cons (pe_tup (pa_cons (pv 1) (pa_cons (pv 2) (pa_cons (pv 4) (pa_cons (pe_callB call_len_seq (by rfl) z_len PySem.boot_len (pa_cons (pv 3) pa_nil)) (pa_cons (pv 6) pa_nil)))))) pa_nil)) (nomark _))
      (pss_one (ps_ret pe_bl))
      pss_nil)
      (pss_cons (ps_if (PW.pt (pw_or (pt_cmpR (op_neD hr.units) (pe_lc (own := [("_law_at", 16)]) (g := gName 16) (by rfl) sc_l_right.nd (pi_range1 (by rfl) z_range (pa_cons (pe_callB call_len_seq (by rfl) z_len PySem.boot_len (pa_cons (pv 3) pa_nil)) pa_nil)) (blkOk_by (own := [("_law_at", 16)]) (N := ["_law_dice_here", "_law_called", "_law_sort", "_law_some", "_law_children", "_law_step", "_law_line", "_law_told_here", "_law_far", "_law_other", "_law_spot", "_law_changed", "_law_form", "_law_odd", "_law_turn", "_law_name_here", "_law_at"]) (sc := defScope s_l_right) (by decide +kernel)) (fun _ _ _ _ _ => pg_name (i := 16) sc_l_right.nd rfl (by first | exact Or.inl rfl | exact Or.inr rfl)) (fun _ _ _ _ _ => pts_nil) (fun _ _ _ _ _ => (pe_itemO (E := fun _ _ _ => False) (W := fun _ _ _ _ => False) (pv 12) (pv 16) V4.FIt V4.eIt V4.nIt V4.tIt V4.bIt hc (hr.mono (by decide)) takes0 (fun _ _ _ _ z => z)))) (pv 3) (nomark _)) (pw_or1 (pt_cmpR (op_neO V3.FE V3.eE V3.tE V3.eNe V3.moE V3.bE hc (hr.mono (by decide))) (pe_cmethE (E := fun _ _ _ => False) (W := fun _ _ _ _ => False) (pe_glob (v := .ref C) (by rfl) V3.gF rfl) V3.rL V3.cL V3.FL V3.bL hc (hr.mono (by decide)) takes0 (fun _ _ _ _ z => z) (pa_cons (pv 6) pa_nil)) (pv 12) (nomark _)))))
      (pss_one (ps_ret pe_bl))
      pss_nil)
      (pss_cons (ps_set (i := 8) sc_l_right.nd rfl (by first | exact Or.inl rfl | exact Or.inr rfl) (pe_op op_add (pe_callB call_len_seq (by rfl) z_len PySem.boot_len (pa_cons (pv 3) pa_nil)) (pe_cg G_l_roll hc hr (by rfl) (pa_cons (pv 0) (pa_cons (pe_op op_powW pe_int pe_int) pa_nil)))))
      (pss_cons (ps_for PassesOwn.never rfl (pi_list (pe_lst (pa_cons (pe_callB call_len_seq (by rfl) z_len PySem.boot_len (pa_cons (pv 3) pa_nil)) (pa_cons (pv 8) (pa_cons (pe_un un_neg pe_int) (pa_cons (pe_un un_neg (pe_callB call_len_seq (by rfl) z_len PySem.boot_len (pa_cons (pv 3) pa_nil))) (pa_cons pe_bl (pa_cons pe_bl (pa_cons pe_non (pa_cons pe_str (pa_cons (pe_tup (pa_cons pe_int pa_nil)) (pa_cons (pe_op op_powW pe_int pe_int) pa_nil)))))))))))) (pg_name (i := 13) sc_l_right.nd rfl (by first | exact Or.inl rfl | exact Or.inr rfl))
      (pss_one (ps_if (pt_cmpR op_ne (pe_lamC (k := 10) (T := T) (t := fun E => tItO C (spItem C CN) E (tVar 12) (tVar 13)) hc (by rfl) V3.mT V3.kT V3.lT V3.hT V3.bT sc_l_told rfl (by first | exact Or.inl rfl | exact Or.inr rfl) (told_makes V3.TT V3.gN V3.gP V3.z_repr) TB rfl hmT hu (hr.mono (by decide)) (show LamS (defScope s_l_right) _ from lamS_by (by decide +kernel)) rfl (fun _ _ _ _ _ => rfl)
          (fun A' outer' s' H' E' f' c' hc' hr' => pe_itemO (pv 12) (pv 13) V4.FIt V4.eIt V4.nIt V4.tIt V4.bIt (hc'.deep _) (hr'.mono (by decide)) (takes_of rfl rfl rfl rfl) (fun _ _ _ _ z => z)) (by decide) (by decide) (by decide)) (pe_op op_add_str pe_str (pe_callB (cr_reprD hc hr.units : CallR _ (.builtin "repr") (rReprD K)) (by rfl) V3.z_repr (by decide +kernel) (pa_cons (pv 13) pa_nil))) (nomark _))
      (pss_one (ps_ret pe_bl))
      pss_nil)))
      (pss_cons (ps_set (i := 9) sc_l_right.nd rfl (by first | exact Or.inl rfl | exact Or.inr rfl) (pe_cg G_l_name hc hr (by rfl) (pa_cons (pv 0) pa_nil)))
      (pss_cons (ps_if (pt_cmpR op_ne (pe_cmpR (op_eqO V3.FE V3.eE V3.tE V3.bE hc (hr.mono (by decide))) (pv 12) (pe_makeE (E := fun _ _ _ => False) (W := fun _ _ _ _ => False) V3.M (FnE.of V3.FI) hc (hr.mono (by decide)) (by rfl) V3.gF V3.bI takes0 (fun _ _ _ _ z => z) (pa_cons (pv 9) (pa_cons (pv 2) (pa_cons (pv 4) pa_nil)))) (nomark _)) (pe_cmpR op_eq (pv 9) (pv 1) (nomark _)) (nomark _))
      (pss_one (ps_ret pe_bl))
      pss_nil)
      (pss_cons (ps_if (pt_cmpR op_ne (pe_cmpR (op_eqO V3.FE V3.eE V3.tE V3.bE hc (hr.mono (by decide))) (pv 12) (pe_makeE (E := fun _ _ _ => False) (W := fun _ _ _ _ => False) V3.M (FnE.of V3.FI) hc (hr.mono (by decide)) (by rfl) V3.gF V3.bI takes0 (fun _ _ _ _ z => z) (pa_cons (pv 1) (pa_cons (pv 9) (pa_cons (pv 4) pa_nil)))) (nomark _)) (pe_cmpR op_eq (pv 9) (pv 2) (nomark _)) (nomark _))
      (pss_one (ps_ret pe_bl))
      pss_nil)
      (pss_cons (ps_par (i := 10) (j := 5) (by rfl) sc_l_right.nd rfl rfl (by decide) rfl rfl (pa_cons (pe_cg G_l_roll hc hr (by rfl) (pa_cons (pv 0) (pa_cons (pe_callB call_len_seq (by rfl) z_len PySem.boot_len (pa_cons (pv 3) pa_nil)) pa_nil))) (pa_cons (pe_cg G_l_roll hc hr (by rfl) (pa_cons (pv 0) (pa_cons pe_int pa_nil))) pa_nil)) (by rfl))
      (pss_cons (ps_set (i := 11) sc_l_right.nd rfl (by first | exact Or.inl rfl | exact Or.inr rfl) (pe_op op_catA (pe_op op_catA (pe_slice (sl_tup : SlR _ (rSlT K)) (pv 4) po_none (po_some (pv 10))) (pe_tup (pa_cons (pe_tup (pa_cons (pe_ix (ix_tup : IxR _ (rIxT K)) (pe_ix (ix_tup : IxR _ (rIxT K)) (pv 4) (pv 10) (fun _ _ => rfl)) pe_int (fun _ _ => rfl)) (pa_cons (pv 5) pa_nil))) pa_nil))) (pe_slice (sl_tup : SlR _ (rSlT K)) (pv 4) (po_some (pe_op op_add (pv 10) pe_int)) po_none)))
      (pss_cons (ps_if (pt_cmpR op_ne (pe_cmpR (op_eqO V3.FE V3.eE V3.tE V3.bE hc (hr.mono (by decide))) (pv 12) (pe_makeE (E := fun _ _ _ => False) (W := fun _ _ _ _ => False) V3.M (FnE.of V3.FI) hc (hr.mono (by decide)) (by rfl) V3.gF V3.bI takes0 (fun _ _ _ _ z => z) (pa_cons (pv 1) (pa_cons (pv 2) (pa_cons (pv 11) pa_nil)))) (nomark _)) (pe_cmpR (op_eqD hr.units) (pv 11) (pv 4) (nomark _)) (nomark _))
      (pss_one (ps_ret pe_bl))
      pss_nil)
      (pss_cons (ps_if (PW.pt (pw_or (pt_cmpR (op_eqA V3.FE V3.eE V3.tE V3.bE hc (hr.mono (by decide))) (pv 12) (pv 4) (nomark _)) (pw_or (pt_cmpR (op_eqA V3.FE V3.eE V3.tE V3.bE hc (hr.mono (by decide))) (pv 12) (pv 6) (nomark _)) (pw_or1 (pt_cmpR (op_neO V3.FE V3.eE V3.tE V3.eNe V3.moE V3.bE hc (hr.mono (by decide))) (pv 12) (pv 12) (nomark _))))))
      (pss_one (ps_ret pe_bl))
      pss_nil)
      (pss_cons (ps_if (PW.pt (pw_and (pt_cmpR op_lt (pe_callB call_len_seq (by rfl) z_len PySem.boot_len (pa_cons (pv 3) pa_nil)) pe_int (nomark _)) (pw_and1 (pt_cmpR (op_eqO V3.FE V3.eE V3.tE V3.bE hc (hr.mono (by decide))) (pv 12) (pe_makeE (E := fun _ _ _ => False) (W := fun _ _ _ _ => False) V3.M (FnE.of V3.FI) hc (hr.mono (by decide)) (by rfl) V3.gF V3.bI takes0 (fun _ _ _ _ z => z) (pa_cons (pv 1) (pa_cons (pv 2) (pa_cons (pe_op op_catA (pv 4) (pe_slice (sl_tup : SlR _ (rSlT K)) (pv 4) (po_some (pe_un un_neg pe_int)) po_none)) pa_nil)))) (nomark _)))))
      (pss_one (ps_ret pe_bl))
      pss_nil)
      (pss_one (ps_ret (pe_callG V4.FLn hc (hr.mono (by decide)) (by rfl) V4.mLn V4.kLn V4.bLn .nil pass0 (pa_cons (pv 0) (pa_cons (pv 6) pa_nil)))))))))))))))))), fun d x ch c2 p n so ts cs H Q M q => ?_⟩
  have le : ∀ {n : Nat}, n ≤ 11 → n ≤ sizeLine := fun h => Nat.le_trans h (by decide)
  have scal_ss : ∀ a b : Str, scal (.str a) (.str b) = true := fun _ _ => rfl
  have ne_self : ∀ a : Str, (!decide (V.str a = V.str a)) = false := fun a => by rw [decide_eq_true rfl]; rfl
  obtain ⟨⟨dx, hx⟩, kx⟩ := id M.fx
  have tl := kx.len
  have lo := M.rt.lo
  have hi := M.rt.hi
  obtain ⟨sh1, sh2, sh3, sh4⟩ := told_shows M.rt
  have e64 : (cs.length : Int) < 2 ^ 63 := by omega
  refine ⟨_, rfl, x, dx, _, rfl, hx, x, ch, dx, n, so, .str n, rfl, hx, by rfl, _, rfl, x, dx, _, rfl, hx, x, ch, dx, n, so, .str so, rfl, hx, by rfl, _, rfl, x, dx, _, rfl, hx, x, ch, dx, n, so, .ref ch, rfl, hx, by rfl, _, rfl, x, dx, _, rfl, hx, x, ch, n, so, ts, cs, rfl, M.fx, _, rfl, by omega, by omega,
    _, rfl, x, dx, _, rfl, hx, x, ch, n, so, ts, cs, rfl, M.fx, (nam_plain M.rt.n).1, (nam_plain M.rt.so).1, fun H1 s1 => ⟨_, rfl, le (by show 5 ≤ 11; decide), fun t nt => ?_⟩⟩
  rw [show ((ts.length : Nat) : Int) = ((cs.length : Nat) : Int) from by rw [tl]]
  have st := same_new (o := .tup [V.str n, .str so, .ref ch, .int (cs.length : Nat), .str (lineT n so cs)]) nt
  have d1 : Dp K (upd H1 t (.tup [V.str n, .str so, .ref ch, .int (cs.length : Nat), .str (lineT n so cs)])) (.ref t) (toldD n so cs) := .tup (.inl (.inl upd_same)) (.cons (.str _) (.cons (.str _) (.cons (kx.same (s1.trans st)).dp (.cons (.int _) (.cons (.str _) .nil)))))
  have hp1 := (s1.trans st) _ _ M.hp
  refine ⟨_, rfl, _, toldD n so cs, rfl, d1, sh1, sh2, sh3, sh4, _, rfl, _, rfl, _, rfl, _, rfl, p, _, rfl, .inl (.inl (.inl hp1)), _, rfl, le (by show 5 ≤ 11; decide), fun t' nt' => ?_⟩
  rw [show (((ts.map V.ref).length : Nat) : Int) = ((cs.length : Nat) : Int) from by rw [List.length_map, tl]]
  have st' := same_new (o := .tup [V.str n, .str so, .ref c2, .int (cs.length : Nat), .str (lineT n so cs)]) nt'
  have s13 := (s1.trans st).trans st'
  have d2 : Dp K (upd (upd H1 t (.tup [V.str n, .str so, .ref ch, .int (cs.length : Nat), .str (lineT n so cs)])) t' (.tup [V.str n, .str so, .ref c2, .int (cs.length : Nat), .str (lineT n so cs)])) (.ref t') (toldD n so cs) := .tup (.inl (.inl upd_same)) (.cons (.str _) (.cons (.str _) (.cons (M.k2.same s13).dp (.cons (.int _) (.cons (.str _) .nil)))))
  refine ⟨_, toldD n so cs, rfl, d2, sh1, sh2, sh3, sh4, scal_ss _ _, _, rfl, ?_⟩
  rw [ne_self]
  refine iteF ?_
  generalize upd (upd H1 t (.tup [V.str n, .str so, .ref ch, .int (cs.length : Nat), .str (lineT n so cs)])) t' (.tup [V.str n, .str so, .ref c2, .int (cs.length : Nat), .str (lineT n so cs)]) = H2 at s13 ⊢
  -- its children, and its line read again
  have hp2 := s13 _ _ M.hp
  refine ⟨_, rfl, p, _, rfl, .inl (.inl (.inl hp2)), (ts.map V.ref).length, rfl, by rw [List.length_map]; omega, by rw [List.length_map]; omega, fun D nD => ?_⟩
  refine lc_range (lo := 0) (n := (((ts.map V.ref).length : Nat) : Int).toNat) (fun i H' => Same H2 H' ∧ H' D = some (.lst ((ts.take i).map V.ref))) ⟨same_put nD (Same.refl _), upd_same⟩ (fun i H' hi ⟨s', eD⟩ => ?_) (fun H3 ⟨s', eD⟩ => ?_)
  · have hi : i < ts.length := by simpa using hi
    have sx := s13.trans s'
    refine ⟨rfl, _, rfl, _, rfl, x, dx, _, rfl, sx _ _ hx, x, ch, n, so, ts, cs, .int (0 + i), rfl, ⟨⟨dx, sx _ _ hx⟩, kx.same sx⟩, ?_, fun e i' u ei hu H4 s4 => ?_, fun e => ?_⟩
    · show (0 + (i : Int)).natAbs < 10 ^ 100
      exact Nat.lt_of_le_of_lt (show _ ≤ 10 by omega) (by decide)
    · have ei' : i' = i := by
        have := V.int.inj ei
        omega
      subst ei'
      refine ⟨_, s4 _ _ eD, ?_, same_put nD (s'.trans s4), ?_⟩
      · rw [List.length_map, List.length_take]
        exact Nat.lt_of_le_of_lt (show _ ≤ 10 by omega) (by decide)
      · rw [upd_same, List.take_add_one, hu, List.map_append]
        rfl
    · exfalso
      have e' : ((isInt (.int (0 + (i : Int))) && notNeg (.int (0 + (i : Int)))) && decide ((0 + (i : Int)) < (ts.length : Int))) = false := e
      have h1 : isInt (.int (0 + (i : Int))) = true := decide_eq_true (Nat.lt_of_le_of_lt (show (0 + (i : Int)).natAbs ≤ 10 by omega) (by decide))
      have h2 : notNeg (.int (0 + (i : Int))) = true := (show decide (0 ≤ 0 + (i : Int)) = true from decide_eq_true (by omega))
      rw [h1, h2, decide_eq_true (show 0 + (i : Int) < (ts.length : Int) by omega)] at e'
      cases e'
  · rw [List.take_of_length_le (by rw [Int.toNat_natCast, List.length_map]; exact Nat.le_refl _)] at eD
    have s3 := s13.trans s'
    have k3 := M.k2.same s3
    have eqk : (!PyData.eqv (.list (cs.map kidD)) (.list (cs.map kidD))) = false := by
      have h := eqv_kids cs cs
      rw [decide_eq_true rfl] at h
      have : PyData.eqv (.list (cs.map kidD)) (.list (cs.map kidD)) = PyData.eqvAll (cs.map kidD) (cs.map kidD) := by simp [PyData.eqv]
      rw [this, h]
      rfl
    refine ⟨_, rfl, .list (cs.map kidD), .list (cs.map kidD), .lst (.inl (.inl eD)) (Kids.dpAll ts cs k3.len k3.kid), .lst (.inl (.inl (s3 _ _ M.hp))) (Kids.dpAll ts cs k3.len k3.kid), kids_shapedL k3, kids_shapedL k3, _, rfl, ?_⟩
    rw [eqk]
    refine iteF ?_
    have lp := line_plain M.rt
    refine ⟨rfl, _, rfl, .str (lineT n so cs), rfl, ⟨by have := lp.1; omega, lp.2⟩, fun n' so' cs' e a ch' ts' H4 s4 fa => ?_, fun e => absurd ((line_read M.rt).symm.trans e) (fun z => nomatch z)⟩
    cases (line_read M.rt).symm.trans (show readW (Txt.split (lineT n so cs) " ") = _ from e)
    obtain ⟨⟨dxa, ha⟩, ka⟩ := id fa
    have s34 := s3.trans s4
    refine ⟨_, rfl, a, x, dxa, dx, _, _, rfl, rfl, ha, s34 _ _ hx, a, ch', n, so, ts', cs, _, rfl, fa, .inr ⟨x, ch, n, so, ts, cs, rfl, ⟨⟨dx, s34 _ _ hx⟩, kx.same s34⟩, _, rfl, _, rfl, ?_⟩⟩
    rw [decide_eq_true (rfl : n = n), decide_eq_true (rfl : so = so), decide_eq_true (rfl : cs = cs)]
    refine iteF ?_
    have g4 := Go.same M.dice M.tabs s34
    -- what is no index
    have w59 : CPowW 10 59 := ⟨by decide, by decide +kernel⟩
    have w60 : CPowW 10 60 := ⟨by decide, by decide +kernel⟩
    have hp4 : SqL K H4 p (ts.map V.ref) := .inl (.inl (s34 _ _ M.hp))
    refine ⟨_, rfl, p, _, rfl, .inl hp4, _, rfl, _, _, rfl, rfl, w59, d, _, rfl, g4.dice, by decide +kernel, by decide +kernel, fun r H5 p5 r0 r1 => ⟨_, _, rfl, rfl, ?_⟩⟩
    have g5 := g4.thenP p5
    have hp5 : SqL K H5 p (ts.map V.ref) := .inl (.inl (p5.keep M.pd (s34 _ _ M.hp)))
    have f5 := FormAt.go g5 M.dice M.fx
    refine ⟨_, rfl, p, _, rfl, .inl hp5, _, rfl, _, rfl, _, rfl, p, _, rfl, .inl hp5, _, rfl, le (by show 1 ≤ 11; decide), fun p0 n0 => ?_⟩
    have pd0 : p0 ≠ d := g5.dice.ne n0
    have g6 := g5.thenS (same_new (o := .tup [.int 0]) n0)
    refine ⟨_, _, rfl, rfl, w60, le (by show 10 ≤ 11; decide), fun L nL => ?_⟩
    have Ld : L ≠ d := g6.dice.ne nL
    have g7 := g6.thenS (same_new (o := .lst [V.int ((ts.map V.ref).length : Nat), .int (((ts.map V.ref).length : Nat) + r), .int (-1), .int (-((ts.map V.ref).length : Nat)), .bl true, .bl false, .non, .str "0", .ref p0, .int (10 ^ (60 : Int).toNat)]) nL)
    have all : ∀ v ∈ [V.int ((ts.map V.ref).length : Nat), .int (((ts.map V.ref).length : Nat) + r), .int (-1), .int (-((ts.map V.ref).length : Nat)), .bl true, .bl false, .non, .str "0", .ref p0, .int (10 ^ (60 : Int).toNat)], OddV ts.length p0 v := fun v hv => by
      have eL : (ts.map V.ref).length = ts.length := List.length_map ..
      have r1' : r < 10 ^ 59 := r1
      have big : (10 : Int) ^ 59 = 10 * 10 ^ 58 := by decide +kernel
      have b61 : (10 : Nat) ^ 61 = 1000 * 10 ^ 58 := by decide +kernel
      have p58 : 1 ≤ (10 : Nat) ^ 58 := by decide +kernel
      have c58 : ((10 : Nat) ^ 58 : Nat) = ((10 : Int) ^ 58).toNat := by decide +kernel
      have z58 : (0 : Int) ≤ 10 ^ 58 := by decide +kernel
      simp only [List.mem_cons, List.not_mem_nil, or_false] at hv
      rw [eL] at hv
      rcases hv with rfl | rfl | rfl | rfl | rfl | rfl | rfl | rfl | rfl | rfl
      · exact .inl ⟨_, rfl, by omega, isIdx_out (.inl (by omega))⟩
      · exact .inl ⟨_, rfl, by omega, isIdx_out (.inl (by omega))⟩
      · exact .inl ⟨_, rfl, by decide +kernel, isIdx_out (.inr (by decide))⟩
      · exact .inl ⟨_, rfl, by omega, isIdx_out (.inr (by omega))⟩
      · exact .inr (.inl ⟨_, rfl⟩)
      · exact .inr (.inl ⟨_, rfl⟩)
      · exact .inr (.inr (.inl rfl))
      · exact .inr (.inr (.inr (.inl rfl)))
      · exact .inr (.inr (.inr (.inr rfl)))
      · refine .inl ⟨_, rfl, by decide +kernel, ?_⟩
        have e : isInt (.int (10 ^ (60 : Int).toNat)) = false := by decide +kernel
        have u : isIdx (.int (10 ^ (60 : Int).toNat)) ts.length = ((isInt (.int (10 ^ (60 : Int).toNat)) && notNeg (.int (10 ^ (60 : Int).toNat))) && decide ((10 ^ (60 : Int).toNat : Int) < (ts.length : Int))) := rfl
        rw [u, e]
        rfl
    have h7L : (upd (upd H5 p0 (.tup [V.int 0])) L (.lst [V.int ((ts.map V.ref).length : Nat), .int (((ts.map V.ref).length : Nat) + r), .int (-1), .int (-((ts.map V.ref).length : Nat)), .bl true, .bl false, .non, .str "0", .ref p0, .int (10 ^ (60 : Int).toNat)])) L = some (.lst [V.int ((ts.map V.ref).length : Nat), .int (((ts.map V.ref).length : Nat) + r), .int (-1), .int (-((ts.map V.ref).length : Nat)), .bl true, .bl false, .non, .str "0", .ref p0, .int (10 ^ (60 : Int).toNat)]) := upd_same
    have h7p : (upd (upd H5 p0 (.tup [V.int 0])) L (.lst [V.int ((ts.map V.ref).length : Nat), .int (((ts.map V.ref).length : Nat) + r), .int (-1), .int (-((ts.map V.ref).length : Nat)), .bl true, .bl false, .non, .str "0", .ref p0, .int (10 ^ (60 : Int).toNat)])) p0 = some (.tup [.int 0]) := by
      rw [upd_ne (ne_of_none upd_same nL), upd_same]
    refine ⟨L, rfl, ⟨_, .inl (.inl h7L)⟩, for_list (K := K) (a := L) (xs := [V.int ((ts.map V.ref).length : Nat), .int (((ts.map V.ref).length : Nat) + r), .int (-1), .int (-((ts.map V.ref).length : Nat)), .bl true, .bl false, .non, .str "0", .ref p0, .int (10 ^ (60 : Int).toNat)])
      (fun i σ H' => (∃ o, σ = [some (.ref d), some (.str n), some (.str so), some (.ref p), some (.ref c2), none, some (.str (lineT n so cs)), some (.ref t), some (.int (((ts.map V.ref).length : Nat) + r)), none, none, none, some (.ref x), o, none, none, none]) ∧ Go T d H H' ∧ H' L = some (.lst [V.int ((ts.map V.ref).length : Nat), .int (((ts.map V.ref).length : Nat) + r), .int (-1), .int (-((ts.map V.ref).length : Nat)), .bl true, .bl false, .non, .str "0", .ref p0, .int (10 ^ (60 : Int).toNat)]) ∧ H' p0 = some (.tup [.int 0]))
      ⟨⟨none, rfl⟩, g7, h7L, h7p⟩ (fun i σ H' _ h => .inl (.inl h.2.2.1)) (fun i v σ H' hv h => ?_) (fun σ H' h => ?_)⟩
    · obtain ⟨⟨o, rfl⟩, gg, hL', hp'⟩ := h
      have ov := all v (List.mem_of_getElem? hv)
      refine ⟨gg.tabs, fun H8 eN T8 => ?_⟩
      have g8 := gg.thenE eN T8
      have p8 := eN _ _ hp' (fun ps z => nomatch z)
      have f8 := FormAt.go g8 M.dice M.fx
      obtain ⟨⟨dx8, hx8⟩, k8⟩ := id f8
      obtain ⟨jv, ix, _⟩ := oddV_facts (K := K) ov p8
      refine ⟨_, rfl, _, rfl, x, dx8, _, rfl, hx8, x, ch, n, so, ts, cs, v, rfl, f8, jv, fun e => ?_, fun _ H9 d9 s9 n9 => ?_⟩
      · rw [ix] at e
        cases e
      · have sn := s9.trans (same_new (o := .xd [("value", v)]) n9)
        obtain ⟨_, _, pd, S⟩ := oddV_facts (K := K) ov (sn _ _ p8)
        refine .inl ⟨rfl, d9, v, pd, rfl, upd_same, S, ?_⟩
        have ln : ("number " : Str).length = 7 := by decide +kernel
        refine ⟨_, rfl, v, pd, rfl, S.dp, S.sh, S.nd, S.dep, fits_million (by have := S.len; omega), _, _, rfl, rfl, fits_million (by have := S.len; rw [ln]; omega), scal_ss _ _, _, rfl, ?_⟩
        rw [ne_self]
        refine iteF ⟨⟨_, rfl⟩, g8.thenS sn, sn _ _ (eN _ _ hL' (fun ps z => nomatch z)), sn _ _ p8⟩
    · obtain ⟨⟨o, rfl⟩, gg, hL', hp'⟩ := h
      have sc_bb : ∀ a b : Bool, scal (.bl a) (.bl b) = true := fun _ _ => rfl
      have dstr : ∀ a b : Str, decide (V.str a = V.str b) = decide (b = a) := fun a b => by
        by_cases e : a = b
        · rw [e, decide_eq_true rfl, decide_eq_true rfl]
        · rw [decide_eq_false (fun z => e (V.str.inj z)), decide_eq_false (fun z => e z.symm)]
      have nebl : ∀ a : Bool, (!decide (V.bl a = V.bl a)) = false := fun a => by rw [decide_eq_true rfl]; rfl
      -- another name, another sort
      refine ⟨_, rfl, d, rfl, gg.dice, fun ot H8 p8 hot => ?_⟩
      have g8 := gg.thenP p8
      refine ⟨_, rfl, _, rfl, _, rfl, _, rfl, made_eq (FormAt.go g8 M.dice M.fx) hot M.rt.so (M.k2.go g8 M.dice) fun H9 s9 => ?_⟩
      have g9 := g8.thenS s9
      refine ⟨_, rfl, _, rfl, scal_ss _ _, sc_bb _ _, _, rfl, ?_⟩
      rw [dstr, decide_eq_true (rfl : so = so), decide_eq_true (rfl : cs = cs), Bool.and_true, Bool.and_true, nebl]
      refine iteF ?_
      refine ⟨_, rfl, _, rfl, _, rfl, _, rfl, made_eq (FormAt.go g9 M.dice M.fx) M.rt.n hot (M.k2.go g9 M.dice) fun H10 s10 => ?_⟩
      have g10 := g9.thenS s10
      refine ⟨_, rfl, _, rfl, scal_ss _ _, sc_bb _ _, _, rfl, ?_⟩
      rw [dstr, decide_eq_true (rfl : n = n), decide_eq_true (rfl : cs = cs), Bool.and_true, Bool.true_and, nebl]
      refine iteF ?_
      -- one child changed
      have hp10 : SqL K H10 p (ts.map V.ref) := g10.seq M.pd (.inl (.inl M.hp))
      have eL : (ts.map V.ref).length = ts.length := List.length_map ..
      refine ⟨_, rfl, _, rfl, p, _, rfl, .inl hp10, d, _, rfl, g10.dice, by rw [eL]; omega, by rw [eL]; exact small8000 (by omega), fun sp H11 p11 a0 a1 => ⟨_, rfl, d, 4, rfl, p11.dice, by decide, by decide +kernel, fun k H12 p12 k0 k1 => ⟨_, _, rfl, ?_⟩⟩⟩
      have g12 := (g10.thenP p11).thenP p12
      have k12 := M.k2.go g12 M.dice
      rw [eL] at a1
      have il : sp.toNat < ts.length := by omega
      obtain ⟨⟨m, k'⟩, hcm, ku⟩ := k12.get (List.getElem?_eq_getElem il)
      have at_ : atI (ts.map V.ref) sp = some (.ref ts[sp.toNat]) := at_of' (j := sp.toNat) (by omega) (by rw [List.getElem?_map, List.getElem?_eq_getElem il]; rfl)
      have hc2 : SqT K H12 c2 (ts.map V.ref) := .inl (.inl k12.at_)
      refine ⟨_, rfl, _, rfl, _, rfl, c2, _, rfl, hc2, ?_, fun q1 nq1 => ?_⟩
      · intro z
        have e : HT.sIx (ts.map V.ref).length (ts.map V.ref).length (some sp) = sp.toNat := by
          rw [eL]
          unfold HT.sIx
          show (if sp < 0 then _ else min sp.toNat ts.length) = _
          rw [if_neg (by omega)]
          omega
        rw [e, eL] at z
        omega
      rw [cut_to V.ref ts a0 a1]
      have sq1 := same_new (o := .tup ((ts.take sp.toNat).map V.ref)) nq1
      refine ⟨_, rfl, _, rfl, c2, _, _, _, rfl, rfl, .inl (.inl (sq1 _ _ k12.at_)), at_, _, _, _, _, rfl, rfl, .inl (.inl (sq1 _ _ ku.at_)), rfl, _, rfl, le (by show 2 ≤ 11; decide), fun u2 nu2 => ⟨le (by show 1 ≤ 11; decide), fun q2 nq2 => ?_⟩⟩
      have su2 := same_new (o := .tup [V.str m, .int k]) nu2
      have sq2 := same_new (o := .tup [V.ref u2]) nq2
      refine catA_any (xs := (ts.take sp.toNat).map V.ref) (ys := [.ref u2]) (sq2 _ _ (su2 _ _ upd_same)) upd_same (by rw [List.length_map, List.length_take]; exact le (by show min sp.toNat ts.length + 1 ≤ 11; omega)) fun e1 H13 s13 h13 => ?_
      have s12 := ((sq1.trans su2).trans sq2).trans s13
      have hu13 : H13 u2 = some (.tup [V.str m, .int k]) := s13 _ _ (sq2 _ _ upd_same)
      refine ⟨_, rfl, _, rfl, _, _, rfl, rfl, _, rfl, c2, _, rfl, .inl (.inl (s12 _ _ k12.at_)), ?_, fun q3 nq3 => ?_⟩
      · intro z
        have e : HT.sIx (ts.map V.ref).length 0 (some (sp + 1)) = min (sp + 1).toNat (ts.map V.ref).length := by
          unfold HT.sIx
          show (if sp + 1 < 0 then _ else min (sp + 1).toNat _) = _
          rw [if_neg (by omega)]
        rw [e, eL] at z
        omega
      rw [cut_from V.ref ts (show 0 ≤ sp + 1 by omega) (by omega)]
      have sq3 := same_new (o := .tup ((ts.drop (sp + 1).toNat).map V.ref)) nq3
      refine catA_any (xs := (ts.take sp.toNat).map V.ref ++ [.ref u2]) (ys := (ts.drop (sp + 1).toNat).map V.ref) (sq3 _ _ h13) upd_same (by rw [List.length_append, List.length_map, List.length_map, List.length_take, List.length_drop]; exact le (by show min sp.toNat ts.length + 1 + _ ≤ 11; omega)) fun e2 H14 s14 h14 => ?_
      have s14' := (s12.trans sq3).trans s14
      have g14 := g12.thenS s14'
      have k14 : Kid H14 u2 m k := ⟨s14 _ _ (sq3 _ _ hu13), ku.nam, ku.plain, k0, by omega⟩
      have e14 : H14 e2 = some (.tup ((ts.set sp.toNat u2).map V.ref)) := by
        rw [h14, List.set_eq_take_append_cons_drop, if_pos il, List.map_append, List.map_cons, show (sp + 1).toNat = sp.toNat + 1 by omega, List.append_assoc]
        rfl
      have kc := (k12.same s14').set k14 e14
      have f14 := FormAt.go g14 M.dice M.fx
      have k214 := M.k2.go g14 M.dice
      refine ⟨_, rfl, _, rfl, _, rfl, _, rfl, made_eq f14 M.rt.n M.rt.so kc fun H15 s15 => ?_⟩
      have kc' := kc.same s15
      have k215 := k214.same s15
      refine ⟨_, rfl, _, rfl, _, _, kc'.dp, k215.dp, kids_shaped kc', kids_shaped k215, sc_bb _ _, _, rfl, ?_⟩
      have ek : PyData.eqv (.tuple ((cs.set sp.toNat (m, k)).map kidD)) (.tuple (cs.map kidD)) = decide (cs = cs.set sp.toNat (m, k)) := by
        have h : PyData.eqv (.tuple ((cs.set sp.toNat (m, k)).map kidD)) (.tuple (cs.map kidD)) = PyData.eqvAll ((cs.set sp.toNat (m, k)).map kidD) (cs.map kidD) := by simp [PyData.eqv]
        rw [h, eqv_kids]
        exact decide_eq_decide.mpr ⟨Eq.symm, Eq.symm⟩
      rw [ek, decide_eq_true (rfl : n = n), decide_eq_true (rfl : so = so), Bool.true_and, Bool.true_and, nebl]
      refine iteF ?_
      have g15 := g14.thenS s15
      have f15 := FormAt.go g15 M.dice M.fx
      obtain ⟨⟨dx15, hx15⟩, kx15⟩ := id f15
      -- no form is equal to what is none, nor unequal to itself
      refine ⟨_, rfl, _, rfl, x, dx15, _, .type "tuple", rfl, hx15, .base (.tup k215.at_), V4.nfT, x, ch, n, so, ts, cs, _, rfl, f15, .inl ⟨"tuple", by simp, .base (.tup k215.at_), _, rfl, _, rfl, iteF ?_⟩⟩
      refine ⟨_, rfl, _, rfl, x, dx15, _, .type "str", rfl, hx15, .base (.str _), V4.nfS, x, ch, n, so, ts, cs, _, rfl, f15, .inl ⟨"str", by simp, .base (.str _), _, rfl, _, rfl, iteF ?_⟩⟩
      refine ⟨_, rfl, _, rfl, x, x, dx15, dx15, _, _, rfl, rfl, hx15, hx15, x, ch, n, so, ts, cs, _, rfl, f15, .inr ⟨x, ch, n, so, ts, cs, rfl, f15, _, rfl, _, rfl, ?_⟩⟩
      rw [decide_eq_true (rfl : n = n), decide_eq_true (rfl : so = so), decide_eq_true (rfl : cs = cs)]
      refine iteF ?_
      -- one child more
      have hp15 : SqL K H15 p (ts.map V.ref) := g15.seq M.pd (.inl (.inl M.hp))
      refine ⟨_, rfl, p, _, rfl, .inl hp15, _, _, rfl, rfl, _, rfl, ite2 (fun lt => ?_) (fun _ => ?_)⟩
      · have lt4 : ts.length < 4 := by
          have := of_decide_eq_true lt
          rw [eL] at this
          omega
        refine ⟨_, rfl, _, rfl, _, rfl, _, rfl, _, rfl, _, rfl, _, rfl, c2, _, rfl, .inl (.inl k215.at_), ?_, fun q4 nq4 => ?_⟩
        · intro z
          have e : HT.sIx (ts.map V.ref).length 0 (some (-1)) = ts.length - 1 := by
            rw [eL]
            show ((-1 : Int) + (ts.length : Int)).toNat = _
            omega
          rw [e] at z
          omega
        rw [cut_last V.ref ts (by omega)]
        have sq4 := same_new (o := .tup ((ts.drop (ts.length - 1)).map V.ref)) nq4
        refine catA_any (xs := ts.map V.ref) (ys := (ts.drop (ts.length - 1)).map V.ref) (sq4 _ _ k215.at_) upd_same (by rw [List.length_map, List.length_map, List.length_drop]; exact le (by omega)) fun e3 H16 s16 h16 => ?_
        have s16' := sq4.trans s16
        have g16 := g15.thenS s16'
        have km := (k215.same s16').more lt4 (by rw [h16, List.map_append])
        refine made_eq (FormAt.go g16 M.dice M.fx) M.rt.n M.rt.so km fun H17 s17 => ⟨_, rfl, ?_⟩
        rw [decide_eq_false (show ¬ cs = cs ++ cs.drop (ts.length - 1) from fun z => by
          have := congrArg List.length z
          rw [List.length_append, List.length_drop] at this
          omega), Bool.and_false, Bool.and_false]
        refine iteF ?_
        have g17 := g16.thenS s17
        exact ⟨_, rfl, _, rfl, d, _, rfl, g17.dice, g17.tabs, lp.1, lp.2, fun H' g => q H' (g17.trans g)⟩
      · exact ⟨_, rfl, _, rfl, d, _, rfl, g15.dice, g15.tabs, lp.1, lp.2, fun H' g => q H' (g15.trans g)⟩
end
end K03
set_option Elab.async false
set_option linter.all false
set_option autoImplicit false
set_option maxRecDepth 100000
set_option maxHeartbeats 8000000
namespace K03
open PySem PySem.Spec PyProof.Rows L2 Vb Wd Xd Xo Xq Xl Xt Xv Xg Rd LamX Gd
theorem FormAt.same {H H' : Hp} {C a ch : Addr} {n so : Str} {ts : List Addr} {cs : List (Str × Int)} (s : Same H H') (f : FormAt H C a ch n so ts cs) : FormAt H' C a ch n so ts cs := by
  obtain ⟨⟨dx, e⟩, k⟩ := f
  exact ⟨⟨dx, s _ _ e⟩, k.same s⟩
section
variable {P : Program} {w : World} {K : PySem.W.Frag} {mg : Str → Option Value} {base : Heap} {C CN CP : Addr}
theorem ok_right {f c Pt : Addr} {fd : FuncData} {T : List (Addr × Str)} (F : FunC K "_law_right" "_law_right" s_l_right f fd (.ref c)) (V3 : Env3 P w K mg base C CN CP) (V4 : Env4 P w K mg base C CN T) (TB : TabB base mg c Pt) (hmT : (Pt, ("_law_right.<locals>.<lambda>" : Str)) ∈ T) (hu : ∀ p ∈ T, p.1 = Pt → p.2 = "_law_right.<locals>.<lambda>")
    (G_l_name : Cg P w K mg base 3 "_law_name" spName) (G_l_roll : Cg P w K mg base 1 "_law_roll" spRoll) (G_l_pick : Cg P w K mg base 2 "_law_pick" (spPick K)) (z_range : mg "range" = none) (z_tuple : mg "tuple" = none) (z_len : mg "len" = none) : FnG P w K mg base 16 f fd ["_law_dice_here"] (spRight T) := by
  obtain ⟨p1, g1, fd1, o1, G1, b1⟩ := V4.FP.get _ (List.mem_cons_self)
  obtain ⟨p2, g2, fd2, o2, G2, b2⟩ := V4.FP.get ("sort_name", "_sort_name") (by simp)
  obtain ⟨p3, g3, fd3, o3, G3, b3⟩ := V4.FP.get ("children", "_children") (by simp)
  refine goes_byC F sc_l_right (fun vs H Q E h => ?_) (fun A outer s H vs Q E hc hr h => ?_)
  · obtain ⟨d, rfl, _⟩ := h
    rfl
  · obtain ⟨d, rfl, hd, ht, q⟩ := h
    obtain ⟨tt, htt, rtt⟩ := right_tail V3 V4 TB hmT hu G_l_name G_l_roll G_l_pick z_range z_tuple z_len hc hr
    refine ⟨_, (pss_cons (ps_asg (pe_tup (pa_cons (pe_cg G_l_name hc hr (by rfl) (pa_cons (pv 0) pa_nil)) (pa_cons (pe_cg G_l_name hc hr (by rfl) (pa_cons (pv 0) pa_nil)) pa_nil))) (pg_tup (by rfl) (pgs_cons (pg_name (i := 1) sc_l_right.nd rfl (by first | exact Or.inl rfl | exact Or.inr rfl)) (pgs_cons (pg_name (i := 2) sc_l_right.nd rfl (by first | exact Or.inl rfl | exact Or.inr rfl)) pgs_nil))))
      (pss_cons (ps_setLc (i := 3) (own := [("_law_turn", 14)]) (g := gName 14) (by rfl) sc_l_right.nd rfl rfl (sw_true rfl rfl rfl (by decide +kernel)) (pi_range1 (by rfl) z_range (pa_cons (pe_op op_add pe_int (pe_cg G_l_roll hc hr (by rfl) (pa_cons (pv 0) (pa_cons pe_int pa_nil)))) pa_nil)) (blkOk_by (own := [("_law_turn", 14)]) (N := ["_law_dice_here", "_law_called", "_law_sort", "_law_some", "_law_children", "_law_step", "_law_line", "_law_told_here", "_law_far", "_law_other", "_law_spot", "_law_changed", "_law_form", "_law_odd", "_law_turn", "_law_name_here", "_law_at"]) (sc := defScope s_l_right) (by decide +kernel)) (fun _ _ _ _ _ => pg_name (i := 14) sc_l_right.nd rfl (by first | exact Or.inl rfl | exact Or.inr rfl)) (fun _ _ _ _ _ => pts_nil) (fun _ _ _ _ _ => (pe_tup (pa_cons (pe_cg G_l_pick hc hr (by rfl) (pa_cons (pv 0) (pa_cons (pe_lst (pa_cons (pv 2) (pa_cons (pe_cg G_l_name hc hr (by rfl) (pa_cons (pv 0) pa_nil)) pa_nil))) pa_nil))) (pa_cons (pe_cg G_l_roll hc hr (by rfl) (pa_cons (pv 0) (pa_cons pe_int pa_nil))) pa_nil)))))
      (pss_cons (ps_asg (pe_tup (pa_cons (pe_makeE (E := fun _ _ _ => False) (W := fun _ _ _ _ => False) V3.M (FnE.of V3.FI) hc (hr.mono (by decide)) (by rfl) V3.gF V3.bI takes0 (fun _ _ _ _ z => z) (pa_cons (pv 1) (pa_cons (pv 2) (pa_cons (pe_callTy (cr_tuple : CallR _ _ (rTup K)) (by rfl) z_tuple (by decide +kernel) (pa_cons (pv 3) pa_nil)) pa_nil)))) (pa_cons (pe_callTy (cr_tuple : CallR _ _ (rTup K)) (by rfl) z_tuple (by decide +kernel) (pa_cons (pv 3) pa_nil)) pa_nil))) (pg_tup (by rfl) (pgs_cons (pg_name (i := 12) sc_l_right.nd rfl (by first | exact Or.inl rfl | exact Or.inr rfl)) (pgs_cons (pg_name (i := 4) sc_l_right.nd rfl (by first | exact Or.inl rfl | exact Or.inr rfl)) pgs_nil))))
      (pss_cons (ps_set (i := 6) sc_l_right.nd rfl (by first | exact Or.inl rfl | exact Or.inr rfl) (pe_join pe_str (pe_op op_cat (pe_lst (pa_cons pe_str (pa_cons (pv 1) (pa_cons (pv 2) pa_nil)))) (pe_lc (own := [("_law_name_here", 15), ("_law_step", 5)]) (g := gTup K 2 (gCons (gName 15) (gCons (gName 5) gNil))) (by rfl) sc_l_right.nd (pi_list (pv 3)) (blkOk_by (own := [("_law_name_here", 15), ("_law_step", 5)]) (N := ["_law_dice_here", "_law_called", "_law_sort", "_law_some", "_law_children", "_law_step", "_law_line", "_law_told_here", "_law_far", "_law_other", "_law_spot", "_law_changed", "_law_form", "_law_odd", "_law_turn", "_law_name_here", "_law_at"]) (sc := defScope s_l_right) (by decide +kernel)) (fun _ _ _ _ _ => pg_tup (by rfl) (pgs_cons (pg_name (i := 15) sc_l_right.nd rfl (by first | exact Or.inl rfl | exact Or.inr rfl)) (pgs_cons (pg_name (i := 5) sc_l_right.nd rfl (by first | exact Or.inl rfl | exact Or.inr rfl)) pgs_nil))) (fun _ _ _ _ _ => pts_nil) (fun _ _ _ _ _ => (pe_op op_add_str (pv 15) (pe_callTy call_str_int (by rfl) V3.z_str (by decide +kernel) (pa_cons (pv 5) pa_nil))))))))
      htt)))), ?_⟩
    have le : ∀ {n : Nat}, n ≤ 11 → n ≤ sizeLine := fun h => Nat.le_trans h (by decide)
    refine ⟨_, rfl, d, rfl, hd, fun n H1 p1 hn => ⟨_, rfl, d, rfl, p1.dice, fun so H2 p2 hso => ⟨le (by show 2 ≤ 11; decide), fun t nt => ⟨t, _, rfl, .inl (.inl upd_same), rfl, .str n, _, rfl, .str so, _, rfl, rfl, ?_⟩⟩⟩⟩
    have pa := (p1.trans p2).trans (Past.new (o := .tup [.str n, .str so]) (p1.trans p2).dice nt)
    generalize upd H2 t (.tup [.str n, .str so]) = H3 at pa ⊢
    refine ⟨_, rfl, d, 3, rfl, pa.dice, by decide, by decide +kernel, fun r H4 p4 r0 r1 => ⟨_, _, rfl, rfl, 2 + r, rfl, by omega, by omega, fun p np => ?_⟩⟩
    have pb := pa.trans p4
    have pd : p ≠ d := pb.dice.ne np
    refine lc_range (lo := 0) (n := (2 + r).toNat) (fun i H' => Past d H H' ∧ ∃ ts : List Addr, ts.length = i ∧ H' p = some (.lst (ts.map V.ref)) ∧ ∃ cs : List (Str × Int), cs.length = i ∧ ∀ (j : Nat) (u : Addr) (c : Str × Int), ts[j]? = some u → cs[j]? = some c → Kid H' u c.1 c.2)
      ⟨pb.trans (Past.new pb.dice np), [], rfl, upd_same, [], rfl, fun j u c z => nomatch z⟩ (fun i H' hi ⟨pH, ts, tl, hp, cs, cl, kk⟩ => ?_) (fun H' ⟨pH, ts, tl, hp, cs, cl, kk⟩ => ?_)
    · refine ⟨rfl, _, rfl, _, rfl, _, rfl, d, rfl, pH.dice, fun m H5 p5 hm => ⟨le (by show 2 ≤ 11; decide), fun l nl => ⟨d, _, (fun v => ∃ z : Str, v = .str z ∧ isNam (.str z) = true), rfl, (Past.new p5.dice nl).dice, .inl ⟨l, _, rfl, p5.dice.ne nl, .inl (.inl (.inl upd_same)), nofun, by show 2 ≤ 1000000; decide, fun v hv => ?_⟩, fun v H6 p6 hv => ?_⟩⟩⟩
      · simp only [List.mem_cons, List.not_mem_nil, or_false] at hv
        rcases hv with rfl | rfl
        · exact ⟨_, rfl, hso⟩
        · exact ⟨_, rfl, hm⟩
      · obtain ⟨z, rfl, hz⟩ := hv
        have q6 := (p5.trans (Past.new (o := .lst [.str so, .str m]) p5.dice nl)).trans p6
        refine ⟨_, rfl, d, 4, rfl, q6.dice, by decide, by decide +kernel, fun k H7 p7 k0 k1 => ⟨le (by show 2 ≤ 11; decide), fun u nu => ?_⟩⟩
        have q7 := (q6.trans p7).trans (Past.new (o := .tup [.str z, .int k]) (q6.trans p7).dice nu)
        have h7p : (upd H7 u (.tup [.str z, .int k])) p = some (.lst (ts.map V.ref)) := q7.keep pd hp
        have up : u ≠ p := fun q => by
          rw [← q, upd_same] at h7p
          cases h7p
        have back : ∀ {b : Addr} {o o' : HO}, (upd H7 u (.tup [.str z, .int k])) b = some o → (∀ xs, o ≠ .lst xs) → (upd (upd H7 u (.tup [.str z, .int k])) p o') b = some o := fun {b o o'} e no => by
          have bp : b ≠ p := fun q => by
            rw [q, h7p] at e
            exact no _ (Option.some.inj e).symm
          rw [upd_ne bp]
          exact e
        refine ⟨ts.map V.ref, h7p, ?_, ?_, ts ++ [u], by rw [List.length_append, tl]; rfl, by rw [upd_same, List.map_append]; rfl, cs ++ [(z, k)], by rw [List.length_append, cl]; rfl, fun j x c hx hc => ?_⟩
        · rw [List.length_map, tl]
          exact Nat.lt_of_lt_of_le (show i < 10 by omega) (by decide)
        · have pp := pH.trans q7
          refine ⟨fun b o n e => ?_, ?_⟩
          · have bp : b ≠ p := fun z => by
              rw [z] at e
              have := pb.1 p o pd e
              rw [np] at this
              cases this
            rw [upd_ne bp]
            exact pp.1 b o n e
          · obtain ⟨g, s, c, e⟩ := pp.dice
            exact ⟨g, s, c, by rw [upd_ne pd.symm]; exact e⟩
        · have jx : j < (ts ++ [u]).length := (List.getElem?_eq_some_iff.mp hx).1
          rw [List.length_append, List.length_singleton] at jx
          by_cases hj : j < ts.length
          · rw [List.getElem?_append_left hj] at hx
            rw [List.getElem?_append_left (by omega)] at hc
            have k1 := (kk j x c hx hc).past q7 pH.dice
            exact ⟨back k1.at_ (fun xs z => nomatch z), k1.nam, k1.plain, k1.lo, k1.hi⟩
          · have ej : j = i := by omega
            subst ej
            rw [List.getElem?_append_right (by omega), ← tl, Nat.sub_self] at hx
            rw [List.getElem?_append_right (by omega)] at hc
            cases hx
            have e0 : ts.length - cs.length = 0 := by omega
            rw [cl, Nat.sub_self] at hc
            cases hc
            exact ⟨by rw [upd_ne up]; exact upd_same, hz, nam_plain hz, k0, by omega⟩
    · have ml : ts.length = cs.length := by omega
      have K0 : ∀ {ch : Addr} {Hx : Hp}, Same H' Hx → Hx ch = some (.tup (ts.map V.ref)) → Kids Hx ch ts cs := fun s e => ⟨e, ml, by omega, by omega, fun j u c hu hc => (kk j u c hu hc).same s⟩
      refine ⟨_, rfl, _, rfl, _, rfl, p, _, rfl, .inl ⟨.inl (.inl hp), fun ch nch => fun x dx nx ndx ne => ?_⟩⟩
      have sc := same_new (o := .tup (ts.map V.ref)) nch
      have sd : Same (upd H' ch (.tup (ts.map V.ref))) (upd (upd (upd H' ch (.tup (ts.map V.ref))) dx (.own x)) x (.ins C dx [])) := (same_new ndx).trans (same_new (by rw [upd_ne ne.symm]; exact nx))
      refine ⟨x, dx, ch, n, so, ts, cs, rfl, upd_same, ⟨hn, nam_plain hn⟩, ⟨hso, nam_plain hso⟩, (K0 sc upd_same).same sd, fun H5 s5 => ⟨rfl, ?_⟩⟩
      have s6 : Same (upd H' ch (.tup (ts.map V.ref))) (upd H5 x (.ins C dx (flds n so ch))) := same_put nx (sd.trans s5)
      have s7 := sc.trans s6
      refine ⟨_, rfl, p, _, rfl, .inl ⟨.inl (.inl (s7 _ _ hp)), fun c2 nc2 => ⟨le (by show 2 ≤ 11; decide), fun t2 nt2 => ⟨t2, _, rfl, .inl (.inl upd_same), rfl, .ref x, _, rfl, .ref c2, _, rfl, rfl, ?_⟩⟩⟩⟩
      have s8 := same_new (o := .tup (ts.map V.ref)) nc2
      have s9 := same_new (o := .tup [.ref x, .ref c2]) nt2
      have s79 := (s7.trans s8).trans s9
      have fx : FormAt (upd (upd (upd H5 x (.ins C dx (flds n so ch))) c2 (.tup (ts.map V.ref))) t2 (.tup [.ref x, .ref c2])) C x ch n so ts cs := ⟨⟨dx, (s8.trans s9) _ _ upd_same⟩, K0 s79 ((s6.trans (s8.trans s9)) _ _ upd_same)⟩
      have k2 : Kids (upd (upd (upd H5 x (.ins C dx (flds n so ch))) c2 (.tup (ts.map V.ref))) t2 (.tup [.ref x, .ref c2])) c2 ts cs := K0 s79 (s9 _ _ upd_same)
      have hp' := s79 _ _ hp
      have pc := pH.trans (Past.same pH.dice s79)
      have rt : Right n so cs := k2.right hn hso
      generalize upd (upd (upd H5 x (.ins C dx (flds n so ch))) c2 (.tup (ts.map V.ref))) t2 (.tup [.ref x, .ref c2]) = HF at fx k2 hp' pc ⊢
      have ld := pc.dice
      -- the line
      refine ⟨⟨_, rfl⟩, _, rfl, _, rfl, le (by show 3 ≤ 11; decide), fun l1 nl1 => ⟨_, rfl, p, rfl, ⟨_, .inl (.inl ((same_new nl1) _ _ hp'))⟩, fun D nD => ?_⟩⟩
      have sl1 := same_new (o := .lst [.str "form", .str n, .str so]) nl1
      refine lc_list (K := K) (a := p) (xs := ts.map V.ref) (g := gTup K 2 (gCons (gName 15) (gCons (gName 5) gNil))) (vs := [15, 5]) (fun i H' => Same (upd HF l1 (.lst [.str "form", .str n, .str so])) H' ∧ H' D = some (.lst (((cs.take i).map wordT).map V.str))) ⟨same_put nD (Same.refl _), upd_same⟩
        (fun i H' _ h => .inl (.inl (h.1 _ _ (sl1 _ _ hp')))) (fun i y H6 hy h => ?_) (fun H6 h => ?_)
      · obtain ⟨s6', e6⟩ := h
        rw [List.getElem?_map] at hy
        obtain ⟨u, hu, rfl⟩ := Option.map_eq_some_iff.mp hy
        obtain ⟨⟨m, k⟩, hc', kt⟩ := k2.get hu
        have kt1 := kt.same (sl1.trans s6')
        have ml' := (nam_len kt.nam).2.1
        refine ⟨u, _, rfl, .inl (.inl kt1.at_), rfl, .str m, _, rfl, .int k, _, rfl, rfl, rfl, _, rfl, _, rfl, k, rfl, log_small kt.lo kt.hi, m, _, rfl, rfl, ?_, ?_⟩
        · rw [one_sign kt.lo kt.hi]
          exact fits_million (by simp only at ml'; omega)
        · refine ⟨_, e6, ?_, same_put nD s6', ?_⟩
          · rw [List.length_map, List.length_map, List.length_take]
            exact Nat.lt_of_le_of_lt (show _ ≤ 10 by omega) (by decide)
          · rw [upd_same, List.take_add_one, hc', List.map_append, List.map_append]
            rfl
      · obtain ⟨s6', e6⟩ := h
        rw [List.length_map, ml, List.take_of_length_le (Nat.le_refl _)] at e6
        refine ⟨l1, D, _, _, rfl, rfl, s6' _ _ upd_same, e6, ?_, fun l3 nl3 => ⟨" ", l3, "form" :: n :: so :: cs.map wordT, rfl, rfl, .inl (.inl (.inl ?_)), ?_, ?_⟩⟩
        · simp only [List.length_cons, List.length_nil, List.length_map]
          exact le (by omega)
        · rw [upd_same]
          rfl
        · have wl : ∀ y ∈ cs.map wordT, y.length ≤ 9 := fun y hy => by
            obtain ⟨c, hc', rfl⟩ := List.mem_map.mp hy
            obtain ⟨h1, h2, h3⟩ := rt.kid c hc'
            exact word_len' h1 h2 h3
          have sm := words_sum (cs.map wordT) 9 wl
          have l4 : ("form" : Str).length = 4 := by decide +kernel
          have l1' : (" " : Str).length = 1 := by decide +kernel
          have h1 := (nam_len hn).2.1
          have h2 := (nam_len hso).2.1
          rw [List.length_map] at sm
          simp only [List.map_cons, List.sum_cons, List.length_cons, List.length_map]
          rw [l4, l1']
          omega
        · have sE := (sl1.trans s6').trans (same_new (o := .lst ([.str "form", .str n, .str so] ++ ((cs.map wordT).map V.str))) nl3)
          have gE := (Go.past hd ht pc).thenS sE
          exact rtt d x ch c2 p n so ts cs _ Q ⟨FormAt.same sE fx, k2.same sE, sE _ _ hp', pd, rt, gE.dice, gE.tabs⟩ fun H' g => q H' (gE.trans g)
end
end K03
set_option Elab.async false
set_option linter.all false
set_option autoImplicit false
set_option maxRecDepth 100000
set_option maxHeartbeats 8000000
namespace K03
open PySem PySem.Spec PyProof.Rows L2 Vb Wd Xd Xo Xq Xl Xt Xv Xg Rd LamX Gd
abbrev s_law : Stmt := topS 34
theorem sc_law : FnScope ["_law_script", "_law_spot"] ["_law_script"] (defScope s_law) := ⟨rfl, rfl, rfl, by decide +kernel, rfl, by decide +kernel, by decide +kernel⟩
def spLaw (K : PySem.W.Frag) (T : List (Addr × Str)) : Sp := fun vs H Q _ => ∃ (a : Addr) (ns : List Int), vs = [.ref a] ∧ SqL K H a (ns.map V.int) ∧ ns.length ≤ 63 ∧ Tabs T H ∧ ∀ H', Q (.bl true) H'
section
variable {P : Program} {w : World} {K : PySem.W.Frag} {mg : Str → Option Value} {base : Heap} {C CN CP : Addr}
theorem ok_law {f fR : Addr} {fd fdR : FuncData} {T : List (Addr × Str)} {tk1 tk2 : Tok} (F : Fun K "law" "law" s_law f fd) (FR : FnG P w K mg base 16 fR fdR ["_law_dice_here"] (spRight T)) (mR : mg "_law_right" = some (.ref fR)) (kR : PySem.W.keepIn K (.ref fR) = true) (bR : Binds K fdR ["_law_dice_here"] [])
    (G_l_dice : Cg P w K mg base 1 "_law_dice" (spDice K)) (z_range : mg "range" = none) (z_max : mg "max" = none) (z_min : mg "min" = none) (z_len : mg "len" = none) (c_MAX_CHILDREN : mg "MAX_CHILDREN" = some (.int 4 tk1)) (c_MAX_STEP : mg "MAX_STEP" = some (.int 3 tk2)) : FnG P w K mg base 17 f fd ["_law_script"] (spLaw K T) := by
  refine goes_by F sc_law (fun vs H Q E h => ?_) (fun cdv A outer s H vs Q E hc hr h => ?_)
  · obtain ⟨a, ns, rfl, _⟩ := h
    rfl
  · obtain ⟨a, ns, rfl, hS, hl, ht, q⟩ := h
    refine ⟨_, (pss_cons (ps_for PassesOwn.never rfl (pi_range1 (by rfl) z_range (pa_cons (pe_callB (call_max2 rfl) (by rfl) z_max (by decide +kernel) (pa_cons pe_int (pa_cons (pe_callB (call_min2 rfl) (by rfl) z_min (by decide +kernel) (pa_cons pe_int (pa_cons (pe_callB call_len_seq (by rfl) z_len PySem.boot_len (pa_cons (pv 0) pa_nil)) pa_nil))) pa_nil))) pa_nil)) (pg_name (i := 1) sc_law.nd rfl (Or.inl rfl))
      (pss_one (ps_if (pt_not (pt_val (pe_callG FR hc (hr.mono (by decide)) (by rfl) mR kR bR .nil pass0 (pa_cons (pe_cg G_l_dice hc hr (by rfl) (pa_cons (pv 0) (pa_cons (pv 1) pa_nil))) pa_nil))))
      (pss_one (ps_ret pe_bl))
      pss_nil)))
      (pss_one (ps_ret (pe_cmpR (op_eqD hr.units) (pe_lst (pa_cons (pe_glob (v := .int 4) rfl c_MAX_CHILDREN ⟨_, rfl⟩) (pa_cons (pe_glob (v := .int 3) rfl c_MAX_STEP ⟨_, rfl⟩) pa_nil))) (pe_lst (pa_cons pe_int (pa_cons pe_int pa_nil))) (nomark _))))), ?_⟩
    refine ⟨_, rfl, a, _, rfl, .inl hS, _, _, rfl, _, _, rfl, _, rfl, ?_, ?_, for_range (lo := 0) (fun i σ H' => (∃ o, σ = [some (.ref a), o]) ∧ SqL K H' a (ns.map V.int) ∧ Tabs T H') ⟨⟨none, rfl⟩, hS, ht⟩ ?_ ?_⟩
    · rw [List.length_map]
      split <;> split <;> omega
    · rw [List.length_map]
      split <;> split <;> omega
    · rintro i σ H' hi ⟨⟨o, rfl⟩, hS', ht'⟩
      refine ⟨_, rfl, _, rfl, a, ns, _, rfl, hS', by omega, fun d g s nd => ?_⟩
      have sn := same_new (o := dz g s 0) nd
      have dd : Dice (upd H' d (dz g s 0)) d := ⟨g, s, 0, upd_same⟩
      refine ⟨d, rfl, dd, ht'.ext sn, fun H2 gg => ⟨_, rfl, iteF ⟨⟨_, rfl⟩, ?_, gg.tabs⟩⟩⟩
      rcases hS' with (h | ⟨ob, h⟩) | h
      · exact gg.seq (ne_of_none h nd) (.inl (.inl (sn _ _ h)))
      · exact gg.seq (ne_of_none h nd) (.inl (.inr ⟨ob, sn _ _ h⟩))
      · exact .inr h
    · rintro σ H' ⟨⟨o, rfl⟩, hS', ht'⟩
      refine ⟨by show 2 ≤ sizeLine; decide, fun l1 n1 => ⟨by show 2 ≤ sizeLine; decide, fun l2 n2 => ?_⟩⟩
      have s2 := same_new (o := .lst [V.int 4, .int 3]) n2
      refine ⟨.list [.int 4, .int 3], .list [.int 4, .int 3], .lst (.inl (.inl (s2 _ _ upd_same))) (.cons (.int 4) (.cons (.int 3) .nil)), .lst (.inl (.inl upd_same)) (.cons (.int 4) (.cons (.int 3) .nil)), by decide +kernel, by decide +kernel, ?_⟩
      exact q _
end
end K03
set_option Elab.async false
set_option linter.all false
set_option autoImplicit false
set_option maxRecDepth 100000
set_option maxHeartbeats 4000000
/-! Vt: the law's end in calm room, with tables of code objects that may grow. -/
namespace Vt
open PySem PySem.Spec PyProof.Rows L2 Vb LamX
section
variable {P : Program} {w : World} {K : PySem.W.Frag} {mg mb : Str → Option Value} {s₁ : Shared} {H : Hp} {a : Addr} {ts : List Addr}
/-- what is seen behind the top: the script and the tables alone may be tracked -/
structure Few (K : PySem.W.Frag) (s₁ : Shared) (H : Hp) (a : Addr) (ts : List Addr) : Prop where
  only : ∀ b, H b = none ∨ (b ∈ ts ∧ H b = some (.tbl #[])) ∨ (b = a ∧ ∃ o xs, H b = some (.frz o (.lst xs)))
  noK : ∀ b, H b ≠ none → K.lookup b = none
  isL : ∃ vs n cl, s₁.heap.get? a = some { cls := cl, data := .seq vs n }
  isT : ∀ b ∈ ts, s₁.heap.get? b = some { cls := .none, data := .fields #[] }
theorem Few.off (L : Few K s₁ H a ts) {b : Addr} {o : Obj} (e : s₁.heap.get? b = some o) (h1 : ∀ vs n, o.data ≠ .seq vs n) (h2 : o.data ≠ .fields #[]) : H b = none := by
  rcases L.only b with h | ⟨hb, _⟩ | ⟨rfl, _⟩
  · exact h
  · have q := (L.isT b hb).symm.trans e
    cases q
    exact (h2 rfl).elim
  · obtain ⟨vs, n, cl, q⟩ := L.isL
    have q := q.symm.trans e
    cases q
    exact (h1 _ _ rfl).elim
theorem Few.offK (L : Few K s₁ H a ts) {b : Addr} {o : Obj} (e : K.lookup b = some o) : H b = none := Classical.byContradiction fun n => by
  have q := (L.noK b n).symm.trans e
  cases q
theorem Few.ns (L : Few K s₁ H a ts) {b : Addr} {m : Str → Option Value} (h : s₁.heap.Ns b m) : (hidT s₁.heap H).Ns b m := by
  obtain ⟨o, es, ep, e, d, r⟩ := h
  refine ⟨o, es, ep, hidT_get e (L.off e (fun vs n z => ?_) fun z => ?_), d, r⟩
  · rw [d] at z
    cases z
  · rw [d] at z
    cases z
theorem Few.kin (L : Few K s₁ H a ts) (KX : K.In s₁.heap) : K.In (hidT s₁.heap H) := fun b o e => hidT_get (KX b o e) (L.offK e)
theorem Few.tab (L : Few K s₁ H a ts) {c p : Addr} (hp : p ∈ ts) (C : PySem.W.CodeHd s₁.heap c p) (hns : s₁.heap.Ns mainGlobals mg)
    (hbm : ∃ (bm : Addr) (ob : Obj), mg "__builtins__" = some (.ref bm) ∧ bm ≠ builtinsNs ∧ s₁.heap.get? bm = some ob ∧ ob.cls = .type "module" ∧ ob.dict = some builtinsNs ∧ ob.data = .plain) : TabB (hidT s₁.heap H) mg c p := by
  have tp := L.isT p hp
  obtain ⟨o, us, file, tf, flags, tg, inF, text, tt, e1, r1, r2, r3, r4, r5, r6, r7, r8, hne⟩ := C
  obtain ⟨bm, ob, b1, b2, b3, b4, b5, b6⟩ := hbm
  obtain ⟨og, es, ep, eg, dg, _⟩ := hns
  have plainOff : H bm = none := L.off b3 (fun vs n z => by rw [b6] at z; cases z) fun z => by rw [b6] at z; cases z
  have codeOff : H c = none := L.off e1 (fun vs n z => by rw [r2] at z; cases z) fun z => by
    rw [r2] at z
    cases z
    simp at r3
  refine ⟨⟨o, us, file, tf, flags, tg, inF, text, tt, hidT_get e1 codeOff, r1, r2, r3, r4, r5, r6, r7, r8, hne⟩, ⟨bm, ob, b1, b2, fun q => ?_, fun q => ?_, hidT_get b3 plainOff, b4, b5, b6⟩, fun q => ?_⟩
  · rw [q, eg] at b3
    cases b3
    rw [dg] at b6
    cases b6
  · rw [q, tp] at b3
    cases b3
    cases b6
  · rw [q, tp] at eg
    cases eg
    cases dg
end
section
variable {P : Program} {w : World} {K : PySem.W.Frag} {mg mb : Str → Option Value} {s₁ : Shared} {a : Addr} {cs : List (Addr × Addr)} {k : Nat} {fa : Addr} {fd : FuncData} {x : Str} {sp : Sp} {vs : List Value} {ns : List Int}
/-- the law's call, from its promise in calm room -/
theorem law_goesT (KX : K.In s₁.heap) (hns : s₁.heap.Ns mainGlobals mg) (hb : s₁.heap.Ns builtinsNs mb) (hbb : ∀ x : Str, x ≠ "__name__" → mb x = bootBuiltins x) (hlim : s₁.heap.NoLimit) (hg : s₁.gens = #[])
    (hT : ∀ p ∈ cs, s₁.heap.get? p.2 = some { cls := .none, data := .fields #[] }) (nT : ∀ p ∈ cs, K.lookup p.2 = none) (C : ∀ p ∈ cs, PySem.W.CodeHd s₁.heap p.1 p.2)
    (hbm : ∃ (bm : Addr) (ob : Obj), mg "__builtins__" = some (.ref bm) ∧ bm ≠ builtinsNs ∧ s₁.heap.get? bm = some ob ∧ ob.cls = .type "module" ∧ ob.dict = some builtinsNs ∧ ob.data = .plain)
    (ha : s₁.heap.get? a = some { cls := .type "list", data := .seq vs.toArray }) (hi : IntsAre vs ns) (hl : ns.length ≤ sizeLine) (hr : Room k callerA)
    (F : ∀ base : Heap, K.In base → base.Ns mainGlobals mg → (∀ p ∈ cs, TabB base mg p.1 p.2) → FnG P w K mg base k fa fd [x] sp) (bind : ∀ (s : Shared) (u : Value), BindsTo s fd ⟨[u], []⟩ [(x, u)])
    (hsp : ∀ H : Hp, (∀ p ∈ cs, H p.2 = some (.tbl #[])) → SqL K H a (ns.map V.int) → sp [.ref a] H (fun v _ => v = .bl true) fun _ _ _ => False) :
    codeAny (model P w) callerA (.call (.ref fa) ⟨[.ref a], []⟩) (fun r s' => r = .ok (.ret (.bool true)) ∧ OldK s₁.heap s'.heap ∧ s'.os = s₁.os ∧ AllBare s'.gens) s₁ := by
  have rv := vals_ints hi
  have memT : ∀ p ∈ cs, p.2 ∈ cs.map (·.2) := fun p hp => List.mem_map.mpr ⟨p, hp, rfl⟩
  have tabT : ∀ b ∈ cs.map (·.2), s₁.heap.get? b = some { cls := .none, data := .fields #[] } := fun b hb => by
    obtain ⟨p, hp, rfl⟩ := List.mem_map.mp hb
    exact hT p hp
  have tabK : ∀ b ∈ cs.map (·.2), K.lookup b = none := fun b hb => by
    obtain ⟨p, hp, rfl⟩ := List.mem_map.mp hb
    exact nT p hp
  have aT : a ∉ cs.map (·.2) := fun z => by
    have q := ha.symm.trans (tabT a z)
    cases (show Data.seq vs.toArray _ = Data.fields #[] from congrArg Obj.data (Option.some.inj q))
  have core : ∀ H : Hp, Few K s₁ H a (cs.map (·.2)) → (∀ p ∈ cs, H p.2 = some (.tbl #[])) → SqL K H a (ns.map V.int) → HOk P w H s₁.heap →
      codeAny (model P w) callerA (.call (.ref fa) ⟨[.ref a], []⟩) (fun r s' => r = .ok (.ret (.bool true)) ∧ OldK s₁.heap s'.heap ∧ s'.os = s₁.os ∧ AllBare s'.gens) s₁ := by
    intro H L hH hS hok
    obtain ⟨mc, c1, c2⟩ := hlim
    have e0 : Env0 P w K mg (hidT s₁.heap H) callerA [] s₁ H := ⟨rfl, ⟨L.kin KX, L.ns hns, ⟨mb, L.ns hb, hbb⟩, ⟨mc, L.ns c1, c2⟩⟩, fun b o e => of_hidT e, Nat.le_of_eq (hidT_size _ _), trivial, fun b z => (List.not_mem_nil z).elim, hok, .of_eq hg⟩
    have G := F _ (L.kin KX) (L.ns hns) fun p hp => L.tab (memT p hp) (C p hp) hns hbm
    refine codeAny_mono (G.goes callerA [] s₁ H ⟨[.ref a], []⟩ [.ref a] [.ref a] _ _ calm_caller hr e0 (bind s₁ (.ref a)) (.cons rfl .nil) (hsp H hH hS)) fun r s' h => ?_
    match r, h with
    | .error _, h => exact h.elim
    | .ok .next, h => exact h.elim
    | .ok .brk, h => exact h.elim
    | .ok .cont, h => exact h.elim
    | .ok (.ret u), h =>
      obtain ⟨v, H', os, bare, un, hok', r', q⟩ := h
      cases (show v = .bl true from q)
      cases (show u = Value.bool true from r')
      have stays : ∀ b o, b ∉ cs.map (·.2) → s₁.heap.get? b = some o → s'.heap.get? b = some o := fun b o nb e => by
        rcases L.only b with z | ⟨z, _⟩ | ⟨_, ob, xs, z⟩
        · exact un.keep b o e z (fun z => (List.not_mem_nil z).elim) (fun z => (List.not_mem_nil z).elim)
        · exact absurd z nb
        · have before := (hok b _ z).1
          have after := (hok' b _ (un.frzs b ob _ z)).1
          cases before.symm.trans e
          exact after
      have grows : ∀ p ∈ cs, ∃ more : Array Value, s'.heap.get? p.2 = some { cls := .none, data := .fields more } := fun p hp => by
        obtain ⟨more, z⟩ := un.tbls p.2 #[] (hH p hp)
        exact ⟨_, hok' p.2 _ z⟩
      refine ⟨rfl, ⟨fun b o e => ?_, fun b o e => ?_⟩, os, bare⟩
      · by_cases hb' : b ∈ cs.map (·.2)
        · obtain ⟨p, hp, rfl⟩ := List.mem_map.mp hb'
          obtain ⟨more, hm⟩ := grows p hp
          cases (hT p hp).symm.trans e
          exact .inr (.inl ⟨((C p hp).tab (hT p hp)).isCodeTable, rfl, #[], more, rfl, by rw [Array.empty_append]; exact hm⟩)
        · exact .inl (stays b o hb' e)
      · by_cases hb' : b ∈ cs.map (·.2)
        · obtain ⟨p, hp, rfl⟩ := List.mem_map.mp hb'
          obtain ⟨more, hm⟩ := grows p hp
          exact ⟨_, hm⟩
        · exact ⟨o, stays b o hb' e⟩
  cases hk : K.lookup a with
  | some o =>
    cases ha.symm.trans (KX a o hk)
    have at_ : ∀ b u, (if b ∈ cs.map (·.2) then some (HO.tbl #[]) else none) = some u → b ∈ cs.map (·.2) ∧ u = .tbl #[] := fun b u z => by
      by_cases hb' : b ∈ cs.map (·.2)
      · rw [if_pos hb'] at z
        exact ⟨hb', (Option.some.inj z).symm⟩
      · rw [if_neg hb'] at z
        cases z
    refine core (fun b => if b ∈ cs.map (·.2) then some (.tbl #[]) else none) ⟨fun b => ?_, fun b n => ?_, ⟨_, _, _, ha⟩, tabT⟩ (fun p hp => if_pos (memT p hp)) (.inr ⟨_, vs.toArray, _, hk, rfl, rfl, rfl, by rw [List.size_toArray, hi.length]; exact hl, by simpa using rv⟩) (fun b u z => ?_)
    · by_cases hb' : b ∈ cs.map (·.2)
      · exact .inr (.inl ⟨hb', if_pos hb'⟩)
      · exact .inl (if_neg hb')
    · by_cases hb' : b ∈ cs.map (·.2)
      · exact tabK b hb'
      · exact absurd (if_neg hb') n
    · obtain ⟨h1, rfl⟩ := at_ b u z
      exact tabT b h1
  | none =>
    let S : HO := .frz { cls := .type "list", data := .seq vs.toArray } (.lst (ns.map V.int))
    have nTa : ∀ b ∈ cs.map (·.2), ¬ b = a := fun b hb z => aT (z ▸ hb)
    refine core (fun b => if b = a then some S else if b ∈ cs.map (·.2) then some (.tbl #[]) else none) ⟨fun b => ?_, fun b n => ?_, ⟨_, _, _, ha⟩, tabT⟩ (fun p hp => (if_neg (nTa _ (memT p hp))).trans (if_pos (memT p hp))) (.inl (.inr ⟨{ cls := .type "list", data := .seq vs.toArray }, if_pos rfl⟩)) (fun b u z => ?_)
    · by_cases q : b = a
      · exact .inr (.inr ⟨q, _, _, if_pos q⟩)
      · by_cases hb' : b ∈ cs.map (·.2)
        · exact .inr (.inl ⟨hb', (if_neg q).trans (if_pos hb')⟩)
        · exact .inl ((if_neg q).trans (if_neg hb'))
    · by_cases q : b = a
      · rw [q]
        exact hk
      · by_cases hb' : b ∈ cs.map (·.2)
        · exact tabK b hb'
        · exact absurd ((if_neg q).trans (if_neg hb')) n
    · by_cases q : b = a
      · have z' := (if_pos q).symm.trans z
        cases z'
        rw [q]
        exact ⟨ha, by rw [List.length_map]; exact hl, vs, _, rv, ha⟩
      · have z1 := (if_neg q).symm.trans z
        by_cases hb' : b ∈ cs.map (·.2)
        · have z' := (if_pos hb').symm.trans z1
          cases z'
          exact tabT b hb'
        · have z' := (if_neg hb').symm.trans z1
          cases z'
end
/-- the tables' part left out of the written part -/
def less (K : PySem.W.Frag) (ts : List Addr) : PySem.W.Frag := K.filter fun p => !ts.contains p.1
theorem less_at (ts : List Addr) : ∀ (K : PySem.W.Frag) (b : Addr), (less K ts).lookup b = if ts.contains b then none else K.lookup b
  | [], b => by simp [less]
  | (c, o) :: K, b => by
    have ih := less_at ts K b
    unfold less at ih ⊢
    rw [List.filter_cons]
    by_cases hc : ts.contains c = true
    · rw [hc]
      simp only [Bool.not_true, Bool.false_eq_true, if_false]
      rw [ih]
      by_cases hb : ts.contains b = true
      · rw [if_pos hb, if_pos hb]
      · rw [if_neg hb, if_neg hb]
        have ne : (b == c) = false := by
          rw [beq_eq_false_iff_ne]
          intro z
          rw [z] at hb
          exact hb hc
        rw [List.lookup_cons, ne]
    · have hc' : ts.contains c = false := by simpa using hc
      rw [hc']
      simp only [Bool.not_false, if_true]
      rw [List.lookup_cons, List.lookup_cons, ih]
      by_cases e : (b == c) = true
      · have : b = c := by simpa using e
        rw [e, this, hc']
        rfl
      · have e' : (b == c) = false := by simpa using e
        rw [e']
theorem less_in {K : PySem.W.Frag} {ts : List Addr} {h : Heap} (X : K.In h) : (less K ts).In h := fun b o e => by
  rw [less_at] at e
  by_cases hb : ts.contains b = true
  · rw [if_pos hb] at e
    cases e
  · rw [if_neg hb] at e
    exact X b o e
theorem less_no {K : PySem.W.Frag} {ts : List Addr} {b : Addr} (h : b ∈ ts) : (less K ts).lookup b = none := by
  rw [less_at, if_pos (by simpa using h)]
end Vt
set_option Elab.async false
set_option linter.all false
set_option autoImplicit false
set_option maxRecDepth 100000
set_option maxHeartbeats 4000000
namespace K03
open PySem PySem.Spec PyProof.Rows L2 Vb Wd Xd Xe Xi Xm Xo Xq Xl Xt Xv Xg Rd LamX Gd
/-- the end with tables, where nothing is being written out -/
theorem walk_calmT {l : PySem.W.OpenLaw} {n k : Nat} {q : Program} {loose : List Str} {XP : (Str → Option Value) → Heap → Prop} {YP : World → Heap → Prop} {d : DefRec} {K : Params → PySem.W.Frag} {cs : List (Addr × Addr)} {sp : PySem.W.Frag → Sp} {x : Str}
    (hn : l.most = some n) (hn2 : n ≤ sizeLine) (hdf : d.params.defaults = []) (hr : Room k callerA) (hY : ∀ (w : World) (h : Heap), YP w h → (K w.params).In h)
    (hT : ∀ (w : World) (h : Heap), YP w h → ∀ p ∈ cs, h.get? p.2 = some { cls := .none, data := .fields #[] }) (nT : ∀ (w : World), ∀ p ∈ cs, (K w.params).lookup p.2 = none) (C : ∀ (w : World) (h : Heap), (K w.params).In h → ∀ p ∈ cs, PySem.W.CodeHd h p.1 p.2)
    (F : ∀ (w : World) (mg : Str → Option Value) (fa : Addr) (h : Heap), (K w.params).In h → h.Ns mainGlobals mg → XP mg h → mg d.name = some (.ref fa) →
      ∃ fd : FuncData, (∀ (s : Shared) (u : Value), BindsTo s fd ⟨[u], []⟩ [(x, u)]) ∧ ∀ base : Heap, (K w.params).In base → base.Ns mainGlobals mg → (∀ p ∈ cs, TabB base mg p.1 p.2) → FnG l.prog w (K w.params) mg base k fa fd [x] (sp (K w.params)))
    (hsp : ∀ (K : PySem.W.Frag) (H : Hp) (a : Addr) (ns : List Int), ns.length ≤ n → (∀ p ∈ cs, H p.2 = some (.tbl #[])) → SqL K H a (ns.map V.int) → sp K [.ref a] H (fun v _ => v = .bl true) fun _ _ _ => False) :
    PySem.W.WalkO q loose XP YP l.row.toRowW d [] (fun f vs => PySem.call f vs) := by
  refine Att.attach_callB hn hdf fun w s₀ s₁ mg mb fa o pm cd doc a vs ns G Y ho hd hcd hmg hobj hints hlen hbits hg => ?_
  have KX := hY w _ Y
  obtain ⟨fd, hb, hF⟩ := F w mg fa _ KX G.T.g G.X hmg
  exact Vt.law_goesT KX G.T.g G.T.b G.T.builtins G.T.nolimit hg (hT w _ Y) (nT w) (C w _ KX) G.T.bmain hobj hints (Nat.le_trans hlen hn2) hr hF hb fun H hH hS => hsp _ H a ns hlen hH hS
/-- the def st of a class -/
def Mt (K : PySem.W.Frag) (x qual : Str) (st : Stmt) (f : Addr) (ps : List Str) : Prop := ∃ fd : FuncData, Fun K x qual st f fd ∧ Binds K fd ps []
theorem Mt.mk {K : PySem.W.Frag} {x qual : Str} {st : Stmt} {ps : List Str} {f : Addr} {oc : Value} {od an : Option Addr} {osl : Array (Option Value)} {kV doc pm cdv ct : Value}
    (l : K.lookup f = some ⟨oc, od, .func (PySem.W.fnOf x qual (defArgs st) (defBody st) (defScope st) .none kV doc pm an cdv ct), osl⟩) (c : PySem.W.codeIn K cdv qual = true) (k : PySem.W.keepIn K (.ref f) = true)
    (b : ∀ (kV doc pm : Value) (an : Option Addr) (cdv ct : Value) (us : List Value), us.length = ps.length → bindArgs (PySem.W.fnOf x qual (defArgs st) (defBody st) (defScope st) .none kV doc pm an cdv ct) ⟨us, []⟩ = pure (ps.zip us)) : Mt K x qual st f ps :=
  ⟨_, fun_mk (st := st) l c k, (fun_mk (st := st) l c k).binds b⟩
/-- a def that makes lambdas: its code object is known -/
def Mc (K : PySem.W.Frag) (mg : Str → Option Value) (x : Str) (st : Stmt) (c : Addr) (ps : List Str) : Prop := ∃ (f : Addr) (fd : FuncData), FunC K x x st f fd (.ref c) ∧ mg x = some (.ref f) ∧ PySem.W.keepIn K (.ref f) = true ∧ Binds K fd ps []
theorem Mc.mk {K : PySem.W.Frag} {mg : Str → Option Value} {x : Str} {st : Stmt} {ps : List Str} {h : Heap} {f c : Addr} {oc : Value} {od an : Option Addr} {osl : Array (Option Value)} {kV doc pm ct : Value} (X : K.In h) (G : h.Ns mainGlobals mg) (a : PySem.W.nsIn K mainGlobals x = some (some (.ref f)))
    (l : K.lookup f = some ⟨oc, od, .func (PySem.W.fnOf x x (defArgs st) (defBody st) (defScope st) .none kV doc pm an (.ref c) ct), osl⟩) (hc : PySem.W.codeIn K (.ref c) x = true) (k : PySem.W.keepIn K (.ref f) = true)
    (b : ∀ (kV doc pm : Value) (an : Option Addr) (cdv ct : Value) (us : List Value), us.length = ps.length → bindArgs (PySem.W.fnOf x x (defArgs st) (defBody st) (defScope st) .none kV doc pm an cdv ct) ⟨us, []⟩ = pure (ps.zip us)) : Mc K mg x st c ps :=
  ⟨f, _, ⟨_, _, _, _, _, _, _, _, rfl, l, hc⟩, PySem.W.mg_of X G a, k, (fun_mk (st := st) l hc k).binds b⟩
/-- the def of the text with all that its frame shows -/
def Tl (K : PySem.W.Frag) (mg : Str → Option Value) : Prop := ∃ (f : Addr) (oc : Value) (od an : Option Addr) (osl : Array (Option Value)) (kV doc pm cdv ct : Value), mg "_law_told" = some (.ref f) ∧ PySem.W.keepIn K (.ref f) = true ∧
  K.lookup f = some ⟨oc, od, .func (PySem.W.fnOf "_law_told" "_law_told" (defArgs s_l_told) (defBody s_l_told) (defScope s_l_told) .none kV doc pm an cdv ct), osl⟩ ∧ PySem.W.codeIn K cdv "_law_told" = true ∧
  Binds K (PySem.W.fnOf "_law_told" "_law_told" (defArgs s_l_told) (defBody s_l_told) (defScope s_l_told) .none kV doc pm an cdv ct) ["_law_call"] []
theorem Tl.mk {K : PySem.W.Frag} {mg : Str → Option Value} {h : Heap} {f : Addr} {oc : Value} {od an : Option Addr} {osl : Array (Option Value)} {kV doc pm cdv ct : Value} (X : K.In h) (G : h.Ns mainGlobals mg) (a : PySem.W.nsIn K mainGlobals "_law_told" = some (some (.ref f)))
    (l : K.lookup f = some ⟨oc, od, .func (PySem.W.fnOf "_law_told" "_law_told" (defArgs s_l_told) (defBody s_l_told) (defScope s_l_told) .none kV doc pm an cdv ct), osl⟩) (hc : PySem.W.codeIn K cdv "_law_told" = true) (k : PySem.W.keepIn K (.ref f) = true)
    (b : ∀ (kV doc pm : Value) (an : Option Addr) (cdv ct : Value) (us : List Value), us.length = (["_law_call"] : List Str).length → bindArgs (PySem.W.fnOf "_law_told" "_law_told" (defArgs s_l_told) (defBody s_l_told) (defScope s_l_told) .none kV doc pm an cdv ct) ⟨us, []⟩ = pure ((["_law_call"] : List Str).zip us)) : Tl K mg :=
  ⟨f, oc, od, an, osl, kV, doc, pm, cdv, ct, PySem.W.mg_of X G a, k, l, hc, (fun_mk (st := s_l_told) l hc k).binds b⟩
/-- a property of a class, with its def -/
def Pt (K : PySem.W.Frag) (C : Addr) (n qual : Str) (st : Stmt) : Prop := ∃ (p g : Addr), PropOf K C n p g ∧ Mt K n qual st g ["self"]
abbrev s_iP : Stmt := inB (topS 12) 0
theorem sc_iP : FnScope ["self", "number"] ["self", "number"] (defScope s_iP) := ⟨rfl, rfl, rfl, by decide +kernel, rfl, by decide +kernel, by decide +kernel⟩
abbrev s_iN : Stmt := inB (topS 13) 0
theorem sc_iN : FnScope ["self", "value"] ["self", "value"] (defScope s_iN) := ⟨rfl, rfl, rfl, by decide +kernel, rfl, by decide +kernel, by decide +kernel⟩
section
variable {P : Program} {w : World} {K : PySem.W.Frag} {mg : Str → Option Value} {base : Heap}
theorem ok_iP {f C fI : Addr} {fd : FuncData} (F : Fun K "__init__" "ParseError.__init__" s_iP f fd) : FnG P w K mg base 1 f fd ["self", "number"] (spSet K C fI "number") := by
  refine goes_by F sc_iP (fun vs H Q E h => ?_) (fun cdv A outer s H vs Q E hc hr h => ?_)
  · obtain ⟨a, y, rfl, _⟩ := h
    rfl
  · obtain ⟨a, y, rfl, T, no, e, q⟩ := h
    exact ⟨_, pss_one (ps_setE (f := "number") (pv 0) (pv 1)), _, rfl, _, rfl, a, C, fI, rfl, T, no, e, fun d nd ne => q d nd ne⟩
theorem ok_iN {f C fI : Addr} {fd : FuncData} (F : Fun K "__init__" "InvalidNumber.__init__" s_iN f fd) : FnG P w K mg base 1 f fd ["self", "value"] (spSet K C fI "value") := by
  refine goes_by F sc_iN (fun vs H Q E h => ?_) (fun cdv A outer s H vs Q E hc hr h => ?_)
  · obtain ⟨a, y, rfl, _⟩ := h
    rfl
  · obtain ⟨a, y, rfl, T, no, e, q⟩ := h
    exact ⟨_, pss_one (ps_setE (f := "value") (pv 0) (pv 1)), _, rfl, _, rfl, a, C, fI, rfl, T, no, e, fun d nd ne => q d nd ne⟩
end
abbrev ieT : List Value := [.type "IndexError", .type "LookupError", .type "Exception", .type "BaseException", .type "object"]
/-- what is asked of the class Form, as one question to the written part -/
def askF (K : PySem.W.Frag) (C : Addr) : Bool :=
  PySem.W.plainGet K C Str.empty && (PySem.W.hasDictIn K C && (PySem.W.plainOver K C && (decide (PySem.W.findIn K (.ref C) "__setattr__" = some (some (.builtin "object.__setattr__"))) &&
  (decide (PySem.W.findIn K (.ref C) "_called" = some none) && (decide (PySem.W.findIn K (.ref C) "_sort_name" = some none) && (decide (PySem.W.findIn K (.ref C) "_children" = some none) &&
  (decide (PySem.W.findIn K (.ref C) "__class__" = some (some (.builtin "object.__class__"))) && (decide (PySem.W.specialIn K (.builtin "object.__class__") "__get__" = some (some (.builtin "getset_descriptor.__get__"))) &&
  (decide (PySem.W.takesIn K (.builtin "object.__class__") = some true) && (decide (PySem.W.mroIn K C (.type "object") = some true) && (decide (PySem.W.kitOne K (.ref C) (.ref C) = some true) &&
  ((["str", "tuple", "list", "NoneType"].all fun t => decide (PySem.W.kitOne K (.type t) (.ref C) = some false)) &&
  (decide (PySem.W.findIn K (.ref C) "__ne__" = some (some (.builtin "object.__ne__"))) && (PySem.W.notFirst K C (.type "tuple") && PySem.W.notFirst K C (.type "str")))))))))))))))
structure OfF (K : PySem.W.Frag) (C : Addr) : Prop where
  c : FormC K C
  i : FormI K C
  ne : PySem.W.findIn K (.ref C) "__ne__" = some (some (.builtin "object.__ne__"))
  nfT : PySem.W.notFirst K C (.type "tuple") = true
  nfS : PySem.W.notFirst K C (.type "str") = true
theorem of_askF {K : PySem.W.Frag} {C : Addr} (h : askF K C = true) : OfF K C := by
  unfold askF at h
  simp only [Bool.and_eq_true, decide_eq_true_eq, List.all_eq_true] at h
  obtain ⟨a1, a2, a3, a4, a5, a6, a7, a8, a9, a10, a11, a12, a13, a14, a15, a16⟩ := h
  exact ⟨⟨⟨a1, a2, a3, a4⟩, a5, a6, a7⟩, ⟨a8, a9, a10, a11, a12, a13⟩, a14, a15, a16⟩
/-- of the two errors -/
def askE (K : PySem.W.Frag) (CN CP fN fP : Addr) : Bool :=
  xfB K CN && (xfB K CP && (decide (PySem.W.findIn K (.ref CN) "value" = some none) && (decide (PySem.W.findIn K (.ref CP) "number" = some none) &&
  (decide (PySem.W.exmOne K (.ref CN) (.ref CN) = some true) && (decide (PySem.W.exmOne K (.ref CP) (.ref CN) = some false) && (decide (PySem.W.exmOne K (.ref CP) (.ref CP) = some true) &&
  (eiB K CN fN ieT "IndexError.__new__" && eiB K CP fP PX.veTail "ValueError.__new__")))))))
theorem of_askE {K : PySem.W.Frag} {CN CP fN fP : Addr} (h : askE K CN CP fN fP = true) : ToldT K CN CP ∧ EI K CN fN ∧ EI K CP fP := by
  unfold askE at h
  simp only [Bool.and_eq_true, decide_eq_true_eq] at h
  obtain ⟨a1, a2, a3, a4, a5, a6, a7, a8, a9⟩ := h
  exact ⟨⟨xfB_ok a1, a3, xfB_ok a2, a4, a5, a6, a7⟩, ei_of PySem.F.store_IndexError PySem.F.excBase_IndexError ⟨by decide +kernel, by decide +kernel, by decide +kernel⟩ a8, ei_of PySem.F.store_ValueError PySem.F.excBase_ValueError ⟨by decide +kernel, by decide +kernel, by decide +kernel⟩ a9⟩
theorem fin {l : PySem.W.OpenLaw} {w : World} {K : PySem.W.Frag} {mg : Str → Option Value} {fa C CN CP fI fN fP fE fLn fS fX fL pL c1 c2 P1 P2 : Addr} {t1 t2 t3 t4 : Tok}
    (L : ∃ fd : FuncData, (∀ (s : Shared) (v : Value), BindsTo s fd ⟨[v], []⟩ [("_law_script", v)]) ∧ Fun K "law" "law" s_law fa fd)
    (D1 : Df K mg "is_integer" s_is_integer ["value"]) (D2 : Df K mg "is_count" s_is_count ["value"]) (D3 : Df K mg "is_index" s_is_index ["value", "many"]) (D4 : Df K mg "is_name" s_is_name ["value"]) (D5 : Df K mg "words_of" s_words_of ["value"])
    (D6 : Df K mg "_is_step" s_is_step ["value"]) (D7 : Df K mg "_is_child" s_is_child ["value"]) (D8 : Df K mg "_is_children" s_is_children ["value"]) (D9 : Df K mg "_is_form_line" s_is_form_line ["words"]) (D10 : Df K mg "_is_child_word" s_is_child_word ["word"])
    (D11 : Df K mg "_law_dice" s_l_dice ["_law_script", "_law_spot"]) (D12 : Df K mg "_law_roll" s_l_roll ["_law_dice_here", "_law_total"]) (D13 : Df K mg "_law_pick" s_l_pick ["_law_dice_here", "_law_items"]) (D14 : Df K mg "_law_name" s_l_name ["_law_dice_here"])
    (D15 : Df K mg "_law_is_name" s_l_is_name ["_law_word"]) (D16 : Df K mg "_law_read_line" s_l_read_line ["_law_line"]) (D17 : Df K mg "_law_bent" s_l_bent ["_law_dice_here", "_law_line"])
    (MT : Tl K mg) (M1 : Mc K mg "_law_lines_right" s_l_lines_right c1 ["_law_dice_here", "_law_line"]) (M2 : Mc K mg "_law_right" s_l_right c2 ["_law_dice_here"])
    (gF : mg "Form" = some (.ref C)) (gN : mg "InvalidNumber" = some (.ref CN)) (gP : mg "ParseError" = some (.ref CP))
    (k1 : mg "MAX_LETTERS" = some (.int 8 t1)) (k2 : mg "_TOO_LONG" = some (.int (10 ^ 60) t2)) (k3 : mg "MAX_CHILDREN" = some (.int 4 t3)) (k4 : mg "MAX_STEP" = some (.int 3 t4))
    (jm : PySem.W.makesIn K C = true) (jI : PySem.W.findIn K (.ref C) "__init__" = some (some (.ref fI))) (jf : PySem.W.isFn K (.ref fI) = true) (jk : PySem.W.keepIn K (.ref C) = true)
    (eE : PySem.W.findIn K (.ref C) "__eq__" = some (some (.ref fE))) (tE : PySem.W.isFn K (.ref fE) = true) (eL : PySem.W.findIn K (.ref C) "__len__" = some (some (.ref fLn))) (tL : PySem.W.isFn K (.ref fLn) = true)
    (eS : PySem.W.findIn K (.ref C) "__str__" = some (some (.ref fS))) (tS : PySem.W.isFn K (.ref fS) = true) (eX : PySem.W.findIn K (.ref C) "__getitem__" = some (some (.ref fX))) (tX : PySem.W.isFn K (.ref fX) = true) (nX : PySem.W.fnIn K fX = true)
    (rL : ClX.CRead K C (.type "type")) (cL : ClX.CMet K C (.type "type") "from_line" pL fL)
    (jN : PySem.W.findIn K (.ref CN) "__init__" = some (some (.ref fN))) (jP : PySem.W.findIn K (.ref CP) "__init__" = some (some (.ref fP)))
    (mI : Mt K "__init__" "Form.__init__" s_init fI ["self", "called", "sort", "children"]) (mE : Mt K "__eq__" "Form.__eq__" s_eq fE ["self", "other"]) (mL : Mt K "__len__" "Form.__len__" s_len fLn ["self"]) (mS : Mt K "__str__" "Form.__str__" s_str fS ["self"])
    (mX : Mt K "__getitem__" "Form.__getitem__" s_getitem fX ["self", "index"]) (mF : Mt K "from_line" "Form.from_line" s_from_line fL ["cls", "line"])
    (mN : Mt K "__init__" "InvalidNumber.__init__" s_iN fN ["self", "value"]) (mP : Mt K "__init__" "ParseError.__init__" s_iP fP ["self", "number"])
    (p1 : Pt K C "called" "Form.called" s_called) (p2 : Pt K C "sort_name" "Form.sort_name" s_sort_name) (p3 : Pt K C "children" "Form.children" s_children)
    (aF : askF K C = true) (aE : askE K CN CP fN fP = true) (ne : P1 ≠ P2)
    (z_int : mg "int" = none) (z_bool : mg "bool" = none) (z_len : mg "len" = none) (z_abs : mg "abs" = none) (z_max : mg "max" = none) (z_min : mg "min" = none) (z_range : mg "range" = none) (z_isinstance : mg "isinstance" = none) (z_repr : mg "repr" = none) (z_str : mg "str" = none) (z_tuple : mg "tuple" = none) (z_all : mg "all" = none) :
    ∃ fd : FuncData, (∀ (s : Shared) (v : Value), BindsTo s fd ⟨[v], []⟩ [("_law_script", v)]) ∧ ∀ base : Heap, K.In base → base.Ns mainGlobals mg → (∀ p ∈ [(c1, P1), (c2, P2)], TabB base mg p.1 p.2) →
      FnG l.prog w K mg base 17 fa fd ["_law_script"] (spLaw K [(P1, "_law_lines_right.<locals>.<lambda>"), (P2, "_law_right.<locals>.<lambda>")]) := by
  obtain ⟨fd, b, F⟩ := L
  refine ⟨fd, b, fun base _ _ TB => ?_⟩
  have TB1 : TabB base mg c1 P1 := TB (c1, P1) List.mem_cons_self
  have TB2 : TabB base mg c2 P2 := TB (c2, P2) (by simp)
  obtain ⟨TF, TI, jne, nfT, nfS⟩ := of_askF aF
  obtain ⟨TT, EN, EP⟩ := of_askE aE
  have gRoll : Cg l.prog w K mg base 1 "_law_roll" spRoll := ok_roll D12 z_int
  have gPick : Cg l.prog w K mg base 2 "_law_pick" (spPick K) := ok_pick D13 gRoll z_len
  have gInt := ok_is_integer (P := l.prog) (w := w) (base := base) D1 z_isinstance z_int z_bool z_abs k2
  have gCount := ok_is_count D2 gInt
  have gName := ok_is_name (P := l.prog) (w := w) (base := base) D4 z_isinstance z_str z_len k1
  have gIndex := ok_is_index D3 gCount
  have gStep := ok_is_step D6 gCount k4
  have gChild := ok_is_child D7 gName gStep z_isinstance z_tuple z_len
  have gChildren := ok_is_children D8 gChild z_isinstance z_tuple z_len z_all k3
  have gWords := ok_words_of (P := l.prog) (w := w) (base := base) D5 z_isinstance z_str z_tuple
  have gCW := ok_is_child_word D10 gName z_str k4
  have gFL := ok_is_form_line D9 gName gCW z_len z_all k3
  have gLName := ok_l_name D14 gPick z_range
  have gLIs := ok_l_is_name (P := l.prog) (w := w) (base := base) D15 z_len
  have gRead := ok_l_read_line D16 gLIs z_len z_int z_tuple
  have gBent := ok_l_bent D17 gRoll gPick z_len
  have M : L2.Mk K C fI := ⟨jm, jI, jf, jk⟩
  obtain ⟨fdI, FI, bI⟩ := mI
  obtain ⟨fdE, FE, bE⟩ := mE
  obtain ⟨fdL, FL, bL⟩ := mL
  obtain ⟨fdS, FS, bS⟩ := mS
  obtain ⟨fdX, FX, bX⟩ := mX
  obtain ⟨fdF, FF, bF⟩ := mF
  obtain ⟨fdN, FN, bN⟩ := mN
  obtain ⟨fdP, FP, bP⟩ := mP
  obtain ⟨q1, g1, o1, fd1, G1, b1⟩ := p1
  obtain ⟨q2, g2, o2, fd2, G2, b2⟩ := p2
  obtain ⟨q3, g3, o3, fd3, G3, b3⟩ := p3
  obtain ⟨gT, ocT, odT, anT, oslT, kVT, docT, pmT, cdT, ctT, mT, kT, lT, hT, bT⟩ := MT
  obtain ⟨f1, fdl1, C1, m1, kp1, bl1⟩ := M1
  obtain ⟨f2, fdl2, C2, m2, kp2, bl2⟩ := M2
  have PF : FormP l.prog w K mg base C := ⟨fun x hx => by
    simp only [List.mem_cons, List.not_mem_nil, or_false] at hx
    rcases hx with rfl | rfl | rfl
    · exact ⟨q1, g1, fd1, o1, ok_called G1 TF, b1⟩
    · exact ⟨q2, g2, fd2, o2, ok_sort_name G2 TF, b2⟩
    · exact ⟨q3, g3, fd3, o3, ok_children G3 TF, b3⟩⟩
  have GI : FnG l.prog w K mg base 6 fI fdI ["self", "called", "sort", "children"] (spInit K C) := ok_init FI TF gName gChildren
  have GN : FnG l.prog w K mg base 1 fN fdN ["self", "value"] (spSet K CN fN "value") := ok_iN FN
  have GP : FnG l.prog w K mg base 1 fP fdP ["self", "number"] (spSet K CP fP "number") := ok_iP FP
  have V3 : Env3 l.prog w K mg base C CN CP := { T := TF, TI := TI, TT := TT, gF := gF, gN := gN, gP := gP, fI := fI, fdI := fdI, M := M, FI := GI, bI := bI, fE := fE, fdE := fdE, FE := ok_eq FE TF TI PF gF z_isinstance, bE := bE, eE := eE, tE := tE, eNe := jne, moE := TI.mo, fL := fL, fdL := fdF, FL := ok_from_line FF TF M GI bI EP TT.nP GP bP gP gWords gFL z_int z_tuple, bL := bF, mc := .type "type", pL := pL, rL := rL, cL := cL, gT := gT, ocT := ocT, odT := odT, oslT := oslT, kVT := kVT, docT := docT, pmT := pmT, anT := anT, cdT := cdT, ctT := ctT, mT := mT, kT := kT, lT := lT, hT := hT, bT := bT, z_repr := z_repr, z_str := z_str, z_isinstance := z_isinstance }
  let T : List (Addr × Str) := [(P1, "_law_lines_right.<locals>.<lambda>"), (P2, "_law_right.<locals>.<lambda>")]
  have u1 : ∀ p ∈ T, p.1 = P1 → p.2 = "_law_lines_right.<locals>.<lambda>" := fun p hp e => by
    simp only [T, List.mem_cons, List.not_mem_nil, or_false] at hp
    rcases hp with rfl | rfl
    · rfl
    · exact absurd e.symm ne
  have u2 : ∀ p ∈ T, p.1 = P2 → p.2 = "_law_right.<locals>.<lambda>" := fun p hp e => by
    simp only [T, List.mem_cons, List.not_mem_nil, or_false] at hp
    rcases hp with rfl | rfl
    · exact absurd e ne
    · rfl
  have GL : FnG l.prog w K mg base 13 f1 fdl1 ["_law_dice_here", "_law_line"] (spLines T) := ok_lines_right C1 V3 TB1 List.mem_cons_self u1 gBent gRead gPick z_range
  have V4 : Env4 l.prog w K mg base C CN T := { FP := PF, fLen := fLn, fdLen := fdL, FLen := ok_len FL TF z_len, eLen := eL, tLen := tL, bLen := bL, fStr := fS, fdStr := fdS, FStr := ok_str FS TF, eStr := eS, tStr := tS, bStr := bS, fIt := fX, fdIt := fdX, FIt := ok_getitem FX TF EN TT.nN GN bN gN gIndex z_len, eIt := eX, nIt := nX, tIt := tX, bIt := bX, fLn := f1, fdLn := fdl1, FLn := GL, mLn := m1, kLn := kp1, bLn := bl1, nfT := nfT, nfS := nfS }
  have GR : FnG l.prog w K mg base 16 f2 fdl2 ["_law_dice_here"] (spRight T) := ok_right C2 V3 V4 TB2 (by simp [T]) u2 gLName gRoll gPick z_range z_tuple z_len
  exact ok_law F GR m2 kp2 bl2 (ok_dice D11 z_int z_len z_abs z_max) z_range z_max z_min z_len k3 k4
end K03
namespace K03
open PySem PySem.Spec PyProof.Rows L2
/-- the record at p of the kind T begins with the def at g -/
def askR (K : PySem.W.Frag) (p g : Addr) (T : String) : Bool := match PySem.W.recIn K p T with
  | some (.ref g' :: _) => g' == g
  | _ => false
theorem of_askR {K : PySem.W.Frag} {p g : Addr} {T : String} (h : askR K p g T = true) : ∃ rest, PySem.W.recIn K p T = some (.ref g :: rest) := by
  unfold askR at h
  split at h
  · rename_i g' rest e
    have q : g' = g := by simpa using h
    rw [q] at e
    exact ⟨rest, e⟩
  · cases h
end K03
set_option Elab.async false
set_option linter.all false
open PySem PySem.W PyProof.Rows
set_option maxRecDepth 100000 in
set_option maxHeartbeats 0 in
theorem PySem.Challenge.cw_mendbooks_k03_forms_holds : PySem.Challenge.rw_mendbooks_k03_forms.Holds := by
  w_on; o_law; k_head; (case hw => w_witness2)
  k_fill
  refine K03.walk_calmT (l := PySem.Challenge.rw_mendbooks_k03_forms) (n := 63) (k := 17) (x := "_law_script") (cs := [(300, 296), (305, 303)]) (sp := fun K => K03.spLaw K [(296, "_law_lines_right.<locals>.<lambda>"), (303, "_law_right.<locals>.<lambda>")]) rfl (by decide) rfl ⟨rfl, by decide, by decide⟩ (fun w h Y => PySem.W.km_in_of Y) ?hT ?hN ?hC ?F ?hS
  case hT =>
    intro w h Y p hp
    simp only [List.mem_cons, List.not_mem_nil, or_false] at hp
    rcases hp with rfl | rfl
    · exact PySem.W.km_tabs_of Y 296 (by simp)
    · exact PySem.W.km_tabs_of Y 303 (by simp)
  case hN =>
    intro w p hp
    simp only [List.mem_cons, List.not_mem_nil, or_false] at hp
    rcases hp with rfl | rfl
    · kernel_rfl
    · kernel_rfl
  case hC =>
    intro w h KX p hp
    simp only [List.mem_cons, List.not_mem_nil, or_false] at hp
    rcases hp with rfl | rfl
    · exact PySem.W.codeHd_of_K (c := 300) (P := 296) KX (by kernel_rfl)
    · exact PySem.W.codeHd_of_K (c := 305) (P := 303) KX (by kernel_rfl)
  case hS =>
    intro K H a ns hl hH hS
    refine ⟨a, ns, rfl, hS, hl, fun p hp => ?_, fun _ => rfl⟩
    simp only [List.mem_cons, List.not_mem_nil, or_false] at hp
    rcases hp with rfl | rfl
    · exact LamX.TabS.nil (hH (300, 296) (by simp))
    · exact LamX.TabS.nil (hH (305, 303) (by simp))
  case F =>
    intro w mg fa h KX G XQ hmg
    refine' K03.fin (c1 := 300) (P1 := 296) (c2 := 305) (P2 := 303) (Vb.law_def KX G hmg ?lb ?la ?ll ?lc ?lk) (Vb.Df.mk KX G ?a1 ?l1 ?c1 ?k1 ?b1) (Vb.Df.mk KX G ?a2 ?l2 ?c2 ?k2 ?b2) (Vb.Df.mk KX G ?a3 ?l3 ?c3 ?k3 ?b3) (Vb.Df.mk KX G ?a4 ?l4 ?c4 ?k4 ?b4) (Vb.Df.mk KX G ?a5 ?l5 ?c5 ?k5 ?b5) (Vb.Df.mk KX G ?a6 ?l6 ?c6 ?k6 ?b6) (Vb.Df.mk KX G ?a7 ?l7 ?c7 ?k7 ?b7) (Vb.Df.mk KX G ?a8 ?l8 ?c8 ?k8 ?b8) (Vb.Df.mk KX G ?a9 ?l9 ?c9 ?k9 ?b9) (Vb.Df.mk KX G ?a10 ?l10 ?c10 ?k10 ?b10) (Vb.Df.mk KX G ?a11 ?l11 ?c11 ?k11 ?b11) (Vb.Df.mk KX G ?a12 ?l12 ?c12 ?k12 ?b12) (Vb.Df.mk KX G ?a13 ?l13 ?c13 ?k13 ?b13) (Vb.Df.mk KX G ?a14 ?l14 ?c14 ?k14 ?b14) (Vb.Df.mk KX G ?a15 ?l15 ?c15 ?k15 ?b15) (Vb.Df.mk KX G ?a16 ?l16 ?c16 ?k16 ?b16) (Vb.Df.mk KX G ?a17 ?l17 ?c17 ?k17 ?b17) (K03.Tl.mk KX G ?ta ?tl ?tc ?tk ?tb) (K03.Mc.mk KX G ?xa1 ?xl1 ?xc1 ?xk1 ?xb1) (K03.Mc.mk KX G ?xa2 ?xl2 ?xc2 ?xk2 ?xb2) (PySem.W.mg_of KX G ?n1) (PySem.W.mg_of KX G ?n2) (PySem.W.mg_of KX G ?n3) (PySem.W.mg_of KX G ?n4) (PySem.W.mg_of KX G ?n5) (PySem.W.mg_of KX G ?n6) (PySem.W.mg_of KX G ?n7) ?jm ?jI ?jf ?jk ?eE ?tE ?eL ?tL ?eS ?tS ?eX ?tX ?nX ⟨?r1, ?r2⟩ ⟨?r3, K03.of_askR (g := 144) ?r4, ?r5⟩ ?jN ?jP (K03.Mt.mk ?mlI ?mcI ?mkI ?mbI) (K03.Mt.mk ?mlE ?mcE ?mkE ?mbE) (K03.Mt.mk ?mlL ?mcL ?mkL ?mbL) (K03.Mt.mk ?mlS ?mcS ?mkS ?mbS) (K03.Mt.mk ?mlX ?mcX ?mkX ?mbX) (K03.Mt.mk ?mlF ?mcF ?mkF ?mbF) (K03.Mt.mk ?mlN ?mcN ?mkN ?mbN) (K03.Mt.mk ?mlP ?mcP ?mkP ?mbP) ⟨_, _, ⟨?pa1, ?pb1, ?pc1, K03.of_askR (g := 154) ?pd1⟩, K03.Mt.mk ?pl1 ?pe1 ?pk1 ?pf1⟩ ⟨_, _, ⟨?pa2, ?pb2, ?pc2, K03.of_askR (g := 162) ?pd2⟩, K03.Mt.mk ?pl2 ?pe2 ?pk2 ?pf2⟩ ⟨_, _, ⟨?pa3, ?pb3, ?pc3, K03.of_askR (g := 170) ?pd3⟩, K03.Mt.mk ?pl3 ?pe3 ?pk3 ?pf3⟩ ?aF ?aE (by decide) (PySem.W.mg_none_of KX G ?z1) (PySem.W.mg_none_of KX G ?z2) (PySem.W.mg_none_of KX G ?z3) (PySem.W.mg_none_of KX G ?z4) (PySem.W.mg_none_of KX G ?z5) (PySem.W.mg_none_of KX G ?z6) (PySem.W.mg_none_of KX G ?z7) (PySem.W.mg_none_of KX G ?z8) (PySem.W.mg_none_of KX G ?z9) (PySem.W.mg_none_of KX G ?z10) (PySem.W.mg_none_of KX G ?z11) (PySem.W.mg_none_of KX G ?z12)
    (case lb => exact fun _ _ _ _ _ _ _ _ => .of_eq rfl); (case la => k_is); (case ll => k_is); (case lc => k_is); (case lk => k_is)
    (case a1 => k_is); (case l1 => k_is); (case c1 => k_is); (case k1 => k_is); (case b1 => exact fun _ _ _ _ _ _ us hl => match us, hl with | [_], _ => rfl)
    (case a2 => k_is); (case l2 => k_is); (case c2 => k_is); (case k2 => k_is); (case b2 => exact fun _ _ _ _ _ _ us hl => match us, hl with | [_], _ => rfl)
    (case a3 => k_is); (case l3 => k_is); (case c3 => k_is); (case k3 => k_is); (case b3 => exact fun _ _ _ _ _ _ us hl => match us, hl with | [_, _], _ => rfl)
    (case a4 => k_is); (case l4 => k_is); (case c4 => k_is); (case k4 => k_is); (case b4 => exact fun _ _ _ _ _ _ us hl => match us, hl with | [_], _ => rfl)
    (case a5 => k_is); (case l5 => k_is); (case c5 => k_is); (case k5 => k_is); (case b5 => exact fun _ _ _ _ _ _ us hl => match us, hl with | [_], _ => rfl)
    (case a6 => k_is); (case l6 => k_is); (case c6 => k_is); (case k6 => k_is); (case b6 => exact fun _ _ _ _ _ _ us hl => match us, hl with | [_], _ => rfl)
    (case a7 => k_is); (case l7 => k_is); (case c7 => k_is); (case k7 => k_is); (case b7 => exact fun _ _ _ _ _ _ us hl => match us, hl with | [_], _ => rfl)
    (case a8 => k_is); (case l8 => k_is); (case c8 => k_is); (case k8 => k_is); (case b8 => exact fun _ _ _ _ _ _ us hl => match us, hl with | [_], _ => rfl)
    (case a9 => k_is); (case l9 => k_is); (case c9 => k_is); (case k9 => k_is); (case b9 => exact fun _ _ _ _ _ _ us hl => match us, hl with | [_], _ => rfl)
    (case a10 => k_is); (case l10 => k_is); (case c10 => k_is); (case k10 => k_is); (case b10 => exact fun _ _ _ _ _ _ us hl => match us, hl with | [_], _ => rfl)
    (case a11 => k_is); (case l11 => k_is); (case c11 => k_is); (case k11 => k_is); (case b11 => exact fun _ _ _ _ _ _ us hl => match us, hl with | [_, _], _ => rfl)
    (case a12 => k_is); (case l12 => k_is); (case c12 => k_is); (case k12 => k_is); (case b12 => exact fun _ _ _ _ _ _ us hl => match us, hl with | [_, _], _ => rfl)
    (case a13 => k_is); (case l13 => k_is); (case c13 => k_is); (case k13 => k_is); (case b13 => exact fun _ _ _ _ _ _ us hl => match us, hl with | [_, _], _ => rfl)
    (case a14 => k_is); (case l14 => k_is); (case c14 => k_is); (case k14 => k_is); (case b14 => exact fun _ _ _ _ _ _ us hl => match us, hl with | [_], _ => rfl)
    (case a15 => k_is); (case l15 => k_is); (case c15 => k_is); (case k15 => k_is); (case b15 => exact fun _ _ _ _ _ _ us hl => match us, hl with | [_], _ => rfl)
    (case a16 => k_is); (case l16 => k_is); (case c16 => k_is); (case k16 => k_is); (case b16 => exact fun _ _ _ _ _ _ us hl => match us, hl with | [_], _ => rfl)
    (case a17 => k_is); (case l17 => k_is); (case c17 => k_is); (case k17 => k_is); (case b17 => exact fun _ _ _ _ _ _ us hl => match us, hl with | [_, _], _ => rfl)
    (case ta => k_is); (case tl => k_is); (case tc => k_is); (case tk => k_is); (case tb => exact fun _ _ _ _ _ _ us hl => match us, hl with | [_], _ => rfl)
    (case xa1 => k_is); (case xl1 => k_is); (case xc1 => k_is); (case xk1 => k_is); (case xb1 => exact fun _ _ _ _ _ _ us hl => match us, hl with | [_, _], _ => rfl)
    (case xa2 => k_is); (case xl2 => k_is); (case xc2 => k_is); (case xk2 => k_is); (case xb2 => exact fun _ _ _ _ _ _ us hl => match us, hl with | [_], _ => rfl)
    (case n1 => k_is); (case n2 => k_is); (case n3 => k_is); (case n4 => k_is); (case n5 => k_is); (case n6 => k_is); (case n7 => k_is)
    (case jm => k_is); (case jI => k_is); (case jf => k_is); (case jk => k_is); (case eE => k_is); (case tE => k_is); (case eL => k_is); (case tL => k_is); (case eS => k_is); (case tS => k_is); (case eX => k_is); (case tX => k_is); (case nX => k_is); (case r1 => k_is); (case r2 => k_is); (case r3 => k_is); (case r4 => kernel_rfl); (case r5 => k_is); (case jN => k_is); (case jP => k_is)
    (case mlI => k_is); (case mcI => k_is); (case mkI => k_is); (case mbI => exact fun _ _ _ _ _ _ us hl => match us, hl with | [_, _, _, _], _ => rfl)
    (case mlE => k_is); (case mcE => k_is); (case mkE => k_is); (case mbE => exact fun _ _ _ _ _ _ us hl => match us, hl with | [_, _], _ => rfl)
    (case mlL => k_is); (case mcL => k_is); (case mkL => k_is); (case mbL => exact fun _ _ _ _ _ _ us hl => match us, hl with | [_], _ => rfl)
    (case mlS => k_is); (case mcS => k_is); (case mkS => k_is); (case mbS => exact fun _ _ _ _ _ _ us hl => match us, hl with | [_], _ => rfl)
    (case mlX => k_is); (case mcX => k_is); (case mkX => k_is); (case mbX => exact fun _ _ _ _ _ _ us hl => match us, hl with | [_, _], _ => rfl)
    (case mlF => k_is); (case mcF => k_is); (case mkF => k_is); (case mbF => exact fun _ _ _ _ _ _ us hl => match us, hl with | [_, _], _ => rfl)
    (case mlN => k_is); (case mcN => k_is); (case mkN => k_is); (case mbN => exact fun _ _ _ _ _ _ us hl => match us, hl with | [_, _], _ => rfl)
    (case mlP => k_is); (case mcP => k_is); (case mkP => k_is); (case mbP => exact fun _ _ _ _ _ _ us hl => match us, hl with | [_, _], _ => rfl)
    (case pa1 => k_is); (case pb1 => k_is); (case pc1 => k_is); (case pd1 => kernel_rfl); (case pl1 => k_is); (case pe1 => k_is); (case pk1 => k_is); (case pf1 => exact fun _ _ _ _ _ _ us hl => match us, hl with | [_], _ => rfl)
    (case pa2 => k_is); (case pb2 => k_is); (case pc2 => k_is); (case pd2 => kernel_rfl); (case pl2 => k_is); (case pe2 => k_is); (case pk2 => k_is); (case pf2 => exact fun _ _ _ _ _ _ us hl => match us, hl with | [_], _ => rfl)
    (case pa3 => k_is); (case pb3 => k_is); (case pc3 => k_is); (case pd3 => kernel_rfl); (case pl3 => k_is); (case pe3 => k_is); (case pk3 => k_is); (case pf3 => exact fun _ _ _ _ _ _ us hl => match us, hl with | [_], _ => rfl)
    (case aF => kernel_rfl); (case aE => kernel_rfl)
    (case z1 => k_is); (case z2 => k_is); (case z3 => k_is); (case z4 => k_is); (case z5 => k_is); (case z6 => k_is); (case z7 => k_is); (case z8 => k_is); (case z9 => k_is); (case z10 => k_is); (case z11 => k_is); (case z12 => k_is)
