import PyProof.Rows.All
import Wide.All
import OpenK.AllK
import Wide.FinOn
import HandS.ForMost
import HandS.IsInst
import HandS.Wide
import HandS.WideMore
import HandS.Flow
import HandS.Style
import HandS.StrMore
import HandS.RaiseMore
import HandS.FStr
import KE.KxText
import HandS.Walk
import KE.KExcIs
import KE.KExcInit
import HandS.ExcInit
import HandS.ExcValue
import HandS.ExcField
import HandS.TryMany
import HandS.HotCalls
import HandS.ExcOwn
import PySem.Challenge.RW_mendbooks_k02_errors
set_option Elab.async false
set_option linter.all false
set_option autoImplicit false
set_option maxRecDepth 100000
set_option maxHeartbeats 4000000
/-! Vb: the layer below all laws: defs that are entered where no container is being written out (calm room), repr of data, powers. -/
namespace Vb
open PySem PySem.Spec PyProof.Rows L2

/-- nothing is being written out by repr around here -/
def Calm (A : Around) : Prop := A.guards = some []
theorem Calm.deep {A : Around} (h : Calm A) (env : Env) : Calm (A.deeper env) := h
theorem calm_caller : Calm callerA := rfl

/-- a promise that is kept where nothing is being written out -/
structure FnG (P : Program) (w : World) (K : PySem.W.Frag) (mg : Str → Option Value) (base : Heap) (k : Nat) (f : Addr) (fd : FuncData) (ps : List Str) (sp : Sp) : Prop where
  count : ∀ vs H Q E, sp vs H Q E → vs.length = ps.length
  goes : ∀ (A : Around) (outer : List Env) (s : Shared) (H : Hp) (args : Args) (us : List Value) (vs : List V) (Q : VK) (E : XK), Calm A → Room k A →
    Env0 P w K mg base A outer s H → BindsTo s fd args (ps.zip us) → Vals vs us → sp vs H Q E → codeAny (model P w) A (.call (.ref f) args) (CR CX0 outer P w H s Q E) s

section
variable {P : Program} {w : World} {K : PySem.W.Frag} {mg : Str → Option Value} {base : Heap}
theorem FnG.of {k : Nat} {f : Addr} {fd : FuncData} {ps : List Str} {sp : Sp} (F : FnOk P w K mg base CX0 k f fd ps sp) : FnG P w K mg base k f fd ps sp :=
  ⟨F.len, fun A outer s H args us vs Q E _ hr => F.run A outer s H args us vs Q E hr⟩

/-- a def's promise by its body, entered in calm room -/
theorem goes_by {x qual : Str} {st : Stmt} {f : Addr} {fd : FuncData} {N ps : List Str} {k : Nat} {sp : Sp} (F : Fun K x qual st f fd) (S : FnScope N ps (defScope st)) (len : ∀ vs H Q E, sp vs H Q E → vs.length = ps.length)
    (body : ∀ (cdv : Value) (A : Around) (outer : List Env) (s : Shared) (H : Hp) (vs : List V) (Q : VK) (E : XK), Calm (A.deeper (envOfC qual (defScope st) s.heap.objs.size f cdv)) → Room k (A.deeper (envOfC qual (defScope st) s.heap.objs.size f cdv)) → sp vs H Q E →
      ∃ t, PSs (cxOf CX0 P w K mg base N qual (defScope st) f cdv A outer s H E).nox (defBody st) t ∧ t { nx := fun _ H' => Q .non H', rt := Q } (start N vs) H) : FnG P w K mg base (k + 1) f fd ps sp := by
  obtain ⟨oc, od, kV, doc, pm, an, cdv, ct, osl, rfl, lk, hcd⟩ := F.ex
  refine ⟨len, fun A outer s H args us vs Q E hc hr e0 hb r hsp => ?_⟩
  have hl := len _ _ _ _ hsp
  have KX : K.In s.heap := e0.mod.kin.keeps fun b o e => (e0.bs b o e).1
  have lim : s.heap.NoLimit := e0.mod.nolimit.keeps fun b o e => (e0.bs b o e).1
  have kinds : ∀ y ∈ ps.zip us, (defScope st).names.lookup y.1 = some .local ∨ ((defScope st).names.lookup y.1 = some .cell ∧ ((cellsFrom (s.heap.objs.size + 1) (defScope st).names []).lookup y.1).isSome = true) := by
    intro y hy
    obtain ⟨n, v⟩ := y
    exact (S.par n (List.of_mem_zip hy).1).imp id fun q => ⟨q, PySem.W.cellsFrom_some _ _ _ (Or.inl q)⟩
  refine codeAny_call_function hr.depth (KX _ _ lk) rfl S.co S.gen rfl (PySem.W.codeRec_of KX hcd) (hb _ _ _ _ ?_)
  refine wpAny_newFunctionEnv_cells S.kind kinds fun env he s1 x => ?_
  cases he
  refine ⟨lim.keeps x.toInCall.keep, codeAny_func ?_⟩
  obtain ⟨t, ht, hq⟩ := body cdv A outer s H vs Q E (hc.deep _) (hr.deeper _) hsp
  have I := inv_start (CX := CX0) (E := E) S hr.hd e0 hl r x
  refine wpAny_mono (ht.nox.run [] s1 (start N vs) H _ I hq) (fun fl s' hs => ?_) (fun _ _ z => z)
  cases fl with
  | brk => exact hs.elim fun _ z => z.elim fun _ z => z.2.elim
  | cont => exact hs.elim fun _ z => z.elim fun _ z => z.2.elim
  | ret u =>
    obtain ⟨v, σ', H', J, rv, q⟩ := hs
    exact ⟨v, H', J.os, J.bare, J.base, J.hok, rv, q⟩
  | next =>
    obtain ⟨σ', H', J, q⟩ := hs
    exact ⟨V.non, H', J.os, J.bare, J.base, J.hok, rfl, q⟩
end

section
variable {X : Cx} {k : Nat} {f : Addr} {fd : FuncData} {ps : List Str} {sp : Sp} {dvs : List V} {ds : List Value} {E : XK} {x : Str} {p pos : Pos} {e : Expr} {es : List Expr} {t : TA}
theorem goes_in {pins : List (Addr × Obj)} {σ : L2.St} {H : Hp} {s : Shared} {Q : VK} {us : List Value} {vs : List V} (F : FnG X.prog X.w X.K X.mg X.base k f fd ps sp) (hc : Calm X.A) (hr : Room k X.A) (hb : Binds X.K fd ps ds) (hd : Vals dvs ds) (hx : Passes CX0 X E)
    (I : Inv X pins σ H s) (r : Vals vs us) (h : sp (vs ++ dvs) H Q E) : wpAny (model X.prog X.w) X.A (call (.ref f) us) (EP X pins σ Q) X.xe s := by
  have both : Vals (vs ++ dvs) (us ++ ds) := r.append hd
  have hl : (us ++ ds).length = ps.length := both.length ▸ F.count _ _ _ _ h
  have go := F.goes X.A X.stack s H ⟨us, []⟩ (us ++ ds) (vs ++ dvs) Q E hc hr I.env0 (hb s us I.kIn hl) both h
  refine wpAny_call (codeAny_mono go fun r s' hq => ?_)
  match r, hq with
  | .error e, hq => exact hx pins σ H s e s' I hq
  | .ok (.ret u), hq => exact I.after hq
  | .ok .next, hq => exact hq.elim
  | .ok .brk, hq => exact hq.elim
  | .ok .cont, hq => exact hq.elim
/-- f(e, ..), f entered in calm room -/
theorem pe_callG (F : FnG X.prog X.w X.K X.mg X.base k f fd ps sp) (hc : Calm X.A) (hr : Room k X.A) (hg : Gl X x) (hm : X.mg x = some (.ref f)) (hk : PySem.W.keepIn X.K (.ref f) = true) (hb : Binds X.K fd ps ds) (hd : Vals dvs ds) (hx : Passes CX0 X E)
    (ha : PA X (e :: es) t) (hdb : (x == ("__debug__" : Str)) = false := by decide) (he : starEach (e :: es) X.env = (false, eval e X.env) :: starEach es X.env := by rfl) (hpl : (backTo pos (starEach es X.env)).any (·.1) = false := by rfl) :
    PE X (.Call (.Name x p) (e :: es) [] pos) (tCall sp dvs E t) :=
  ⟨fun pins s σ H Q I h => wpAny_Call_Name_kw (ld_glob I hg hm
    (PySem.W.callWith_K (h₀ := X.base) I.ok.mod.kin hk (thn (ha.run pos pins s σ H _ I h) fun us s1 ⟨vs, H1, I1, r, q⟩ => ⟨I1.kIn, goes_in F hc hr hb hd hx I1 r q⟩) he hpl) hdb)⟩
/-- f() -/
theorem pe_callG0 (F : FnG X.prog X.w X.K X.mg X.base k f fd ps sp) (hc : Calm X.A) (hr : Room k X.A) (hg : Gl X x) (hm : X.mg x = some (.ref f)) (hk : PySem.W.keepIn X.K (.ref f) = true) (hb : Binds X.K fd ps ds) (hd : Vals dvs ds) (hx : Passes CX0 X E)
    (hdb : (x == ("__debug__" : Str)) = false := by decide) : PE X (.Call (.Name x p) [] [] pos) (tCall sp dvs E tNil) :=
  ⟨fun pins s σ H Q I h => wpAny_Call_Name_kw (ld_glob I hg hm (PySem.W.callWith_K0 I.kIn hk (goes_in (us := []) F hc hr hb hd hx I .nil h)) hdb)⟩
end
/-! ### the law's own end, in calm room -/
section
variable {P : Program} {w : World} {K : PySem.W.Frag} {mg mb : Str → Option Value} {s₁ : Shared} {H : Hp} {a : Addr}
/-- what is seen behind the top once the script alone may be tracked -/
structure Lone (K : PySem.W.Frag) (s₁ : Shared) (H : Hp) (a : Addr) : Prop where
  only : Only H
  at_a : ∀ b, H b ≠ none → b = a
  noK : H a ≠ none → K.lookup a = none
  noD : ∀ o, s₁.heap.get? a = some o → ∀ es ep, o.data ≠ .dict es ep
theorem Lone.bare (L : Lone K s₁ H a) {b : Addr} {o : Obj} (e : s₁.heap.get? b = some o) (h : (∃ es ep, o.data = .dict es ep) ∨ K.lookup b = some o) : H b = none := by
  refine Classical.byContradiction fun n => ?_
  have eb := L.at_a b n
  subst eb
  rcases h with ⟨es, ep, d⟩ | h
  · exact L.noD o e es ep d
  · exact nomatch (L.noK n).symm.trans h
theorem Lone.env (L : Lone K s₁ H a) (KX : K.In s₁.heap) (hns : s₁.heap.Ns mainGlobals mg) (hb : s₁.heap.Ns builtinsNs mb) (hbb : ∀ x : Str, x ≠ "__name__" → mb x = bootBuiltins x) (hlim : s₁.heap.NoLimit) (hg : s₁.gens = #[])
    (hok : HOk P w H s₁.heap) : K.In (hidT s₁.heap H) ∧ (hidT s₁.heap H).Ns mainGlobals mg ∧ Env0 P w K mg (hidT s₁.heap H) callerA [] s₁ H := by
  have ns : ∀ {b : Addr} {m : Str → Option Value}, s₁.heap.Ns b m → (hidT s₁.heap H).Ns b m := fun ⟨o, es, ep, e, d, r⟩ => ⟨o, es, ep, hidT_get e (L.bare e (.inl ⟨es, ep, d⟩)), d, r⟩
  have kin : K.In (hidT s₁.heap H) := fun b o e => hidT_get (KX b o e) (L.bare (KX b o e) (.inr e))
  obtain ⟨mc, c1, c2⟩ := hlim
  exact ⟨kin, ns hns, rfl, ⟨kin, ns hns, ⟨mb, ns hb, hbb⟩, ⟨mc, ns c1, c2⟩⟩, fun b o e => of_hidT e, Nat.le_of_eq (hidT_size _ _), trivial, fun b z => (List.not_mem_nil z).elim, hok, .of_eq hg⟩
theorem Lone.kept (L : Lone K s₁ H a) {s' : Shared} (hok : HOk P w H s₁.heap) {u : Value} (c : CE [] P w H s₁ (fun v _ => v = .bl true) u s') : Flow.ret u = .ret (.bool true) ∧ OldK s₁.heap s'.heap ∧ s'.os = s₁.os ∧ AllBare s'.gens := by
  obtain ⟨v, H', os, bare, un, hok', r', q⟩ := c
  cases (show v = .bl true from q)
  cases (show u = Value.bool true from r')
  refine ⟨rfl, OldK.of_keep fun b o e => ?_, os, bare⟩
  cases q : H b with
  | none => exact un.keep b o e q (fun z => (List.not_mem_nil z).elim) (fun z => (List.not_mem_nil z).elim)
  | some u =>
    rcases L.only b with z | ⟨ob, xs, z⟩
    · exact nomatch q.symm.trans z
    · have before := (hok b _ z).1
      have after := (hok' b _ (un.frzs b ob _ z)).1
      cases before.symm.trans e
      exact after
variable {k : Nat} {fa : Addr} {fd : FuncData} {x : Str} {sp : Sp} {vs : List Value} {ns : List Int}
theorem law_goes (KX : K.In s₁.heap) (hns : s₁.heap.Ns mainGlobals mg) (hb : s₁.heap.Ns builtinsNs mb) (hbb : ∀ x : Str, x ≠ "__name__" → mb x = bootBuiltins x) (hlim : s₁.heap.NoLimit) (hg : s₁.gens = #[])
    (ha : s₁.heap.get? a = some { cls := .type "list", data := .seq vs.toArray }) (hi : IntsAre vs ns) (hl : ns.length ≤ sizeLine) (hr : Room k callerA)
    (F : ∀ base : Heap, K.In base → base.Ns mainGlobals mg → FnG P w K mg base k fa fd [x] sp) (bind : ∀ (s : Shared) (u : Value), BindsTo s fd ⟨[u], []⟩ [(x, u)])
    (hsp : ∀ H : Hp, Only H → SqL K H a (ns.map V.int) → sp [.ref a] H (fun v _ => v = .bl true) fun _ _ _ => False) :
    codeAny (model P w) callerA (.call (.ref fa) ⟨[.ref a], []⟩) (fun r s' => r = .ok (.ret (.bool true)) ∧ OldK s₁.heap s'.heap ∧ s'.os = s₁.os ∧ AllBare s'.gens) s₁ := by
  have rv := vals_ints hi
  have core : ∀ H : Hp, Lone K s₁ H a → SqL K H a (ns.map V.int) → HOk P w H s₁.heap → codeAny (model P w) callerA (.call (.ref fa) ⟨[.ref a], []⟩) (fun r s' => r = .ok (.ret (.bool true)) ∧ OldK s₁.heap s'.heap ∧ s'.os = s₁.os ∧ AllBare s'.gens) s₁ := by
    intro H L hS hok
    obtain ⟨kin, kns, e0⟩ := L.env (P := P) (w := w) KX hns hb hbb hlim hg hok
    refine codeAny_mono ((F _ kin kns).goes callerA [] s₁ H ⟨[.ref a], []⟩ [.ref a] [.ref a] _ _ calm_caller hr e0 (bind s₁ (.ref a)) (.cons rfl .nil) (hsp H L.only hS)) fun r s' h => ?_
    match r, h with
    | .error _, h => exact h.elim
    | .ok .next, h => exact h.elim
    | .ok .brk, h => exact h.elim
    | .ok .cont, h => exact h.elim
    | .ok (.ret u), h =>
      obtain ⟨e, rest⟩ := L.kept hok h
      exact ⟨congrArg Except.ok e, rest⟩
  have noD : ∀ o, s₁.heap.get? a = some o → ∀ es ep, o.data ≠ .dict es ep := fun o e es ep d => by
    cases ha.symm.trans e
    cases (show Data.seq vs.toArray _ = Data.dict es ep from d)
  cases hk : K.lookup a with
  | some o =>
    cases ha.symm.trans (KX a o hk)
    exact core (fun _ => none) ⟨fun _ => .inl rfl, fun b z => (z rfl).elim, fun z => (z rfl).elim, noD⟩ (.inr ⟨_, vs.toArray, _, hk, rfl, rfl, rfl, by rw [List.size_toArray, hi.length]; exact hl, by simpa using rv⟩) (fun b u z => nomatch (show (none : Option HO) = some u from z))
  | none =>
    let T : HO := .frz { cls := .type "list", data := .seq vs.toArray } (.lst (ns.map V.int))
    have tA : ∀ b u, (if b = a then some T else none : Option HO) = some u → b = a ∧ u = T := fun b u z => by
      by_cases q : b = a
      · rw [if_pos q] at z
        exact ⟨q, (Option.some.inj z).symm⟩
      · rw [if_neg q] at z
        cases z
    refine core (fun b => if b = a then some T else none) ⟨fun b => ?_, fun b z => ?_, fun _ => hk, noD⟩ (.inl (.inr ⟨{ cls := .type "list", data := .seq vs.toArray }, if_pos rfl⟩)) (fun b u z => ?_)
    · by_cases q : b = a
      · exact .inr ⟨_, _, if_pos q⟩
      · exact .inl (if_neg q)
    · exact Classical.byContradiction fun q => z (if_neg q)
    · obtain ⟨e1, e2⟩ := tA b u z
      subst e1
      subst e2
      exact ⟨ha, by rw [List.length_map]; exact hl, vs, _, rv, ha⟩
end
/-- the goal that the head leaves, from the law's promise in calm room -/
theorem walk_calm {l : PySem.W.OpenLaw} {n k : Nat} {q : Program} {loose : List Str} {XP : (Str → Option Value) → Heap → Prop} {YP : World → Heap → Prop} {d : DefRec} {K : Params → PySem.W.Frag} {sp : PySem.W.Frag → Sp} {x : Str}
    (hn : l.most = some n) (hn2 : n ≤ sizeLine) (hdf : d.params.defaults = []) (hr : Room k callerA) (hY : ∀ (w : World) (h : Heap), YP w h → (K w.params).In h)
    (F : ∀ (w : World) (mg : Str → Option Value) (fa : Addr) (h : Heap), (K w.params).In h → h.Ns mainGlobals mg → mg d.name = some (.ref fa) →
      ∃ fd : FuncData, (∀ (s : Shared) (u : Value), BindsTo s fd ⟨[u], []⟩ [(x, u)]) ∧ ∀ base : Heap, (K w.params).In base → base.Ns mainGlobals mg → FnG l.prog w (K w.params) mg base k fa fd [x] (sp (K w.params)))
    (hsp : ∀ (K : PySem.W.Frag) (H : Hp) (a : Addr) (ns : List Int), ns.length ≤ n → Only H → SqL K H a (ns.map V.int) → sp K [.ref a] H (fun v _ => v = .bl true) fun _ _ _ => False) :
    PySem.W.WalkO q loose XP YP l.row.toRowW d [] (fun f vs => PySem.call f vs) :=
  Att.attach_call hn hdf fun w s₀ s₁ mg mb fa o pm cd doc a vs ns G Y ho hd hcd hmg hobj hints hlen hg => by
    obtain ⟨fd, hb, hF⟩ := F w mg fa _ (hY w _ Y) G.T.g hmg
    exact law_goes (hY w _ Y) G.T.g G.T.b G.T.builtins G.T.nolimit hg hobj hints (Nat.le_trans hlen hn2) hr hF hb fun H hO hS => hsp _ H a ns hlen hO hS

/-! ### repr of data, in calm room -/
section
variable {X : Cx}
/-- repr(x) of data: its text is the data's -/
def rRepr (K : PySem.W.Frag) : List V → Hp → VK → Prop := fun xs H Q => ∃ (a : Addr) (d : PyData), xs = [.ref a] ∧ Dp K H (.ref a) d ∧ d.showable = true ∧ d.hasDict = false ∧ d.depth < 64 ∧ d.shown.length ≤ sizeLine ∧ Q (.str d.shown) H
theorem call_repr_data (hc : Calm X.A) (hu : X.A.units + 64 < cLine) : CallR X (.builtin "repr") (rRepr X.K) := by
  intro pins s σ H xs us Q I r h
  obtain ⟨a, d, rfl, hd, hs, hn, hz, hl, q⟩ := h
  obtain ⟨u, rfl, r1⟩ := vals1 r
  cases (show u = Value.ref a from r1)
  obtain ⟨as, hr⟩ := Dp.reads I d _ _ hd r1
  refine repr_of_reads' (h₀ := s.heap) hr hs (fun z => ?_) hc (by omega) (fun _ _ e => e) (fun h' u tk hk => ?_) hl
  · rw [hn] at z
    cases z
  · exact ⟨.str _, H, I.kept hk, ⟨_, rfl⟩, q⟩
/-- a power of any two written numbers that is not too long -/
def CPowW (i j : Int) : Prop := 0 ≤ j ∧ (Builtin.Int.intBits i : Int) * j ≤ 2 ^ 27
theorem op_powW : OpR X (binaryOp .Pow) (rI CPowW fun i j => .int (i ^ j.toNat)) := opI fun _ _ _ _ _ _ _ hc q => pow_int hc.1 hc.2 q
end

/-! ### names that stand for defs -/
/-- the name x stands for a def that keeps the promise sp in calm room, by at most level k -/
def Cg (P : Program) (w : World) (K : PySem.W.Frag) (mg : Str → Option Value) (base : Heap) (k : Nat) (x : Str) (sp : Sp) : Prop :=
  ∃ (f : Addr) (fd : FuncData) (ps : List Str), FnG P w K mg base k f fd ps sp ∧ mg x = some (.ref f) ∧ PySem.W.keepIn K (.ref f) = true ∧ Binds K fd ps []
/-- the def st of the text stands at the name x -/
def Df (K : PySem.W.Frag) (mg : Str → Option Value) (x : Str) (st : Stmt) (ps : List Str) : Prop :=
  ∃ (f : Addr) (fd : FuncData), Fun K x x st f fd ∧ mg x = some (.ref f) ∧ Binds K fd ps []
section
variable {P : Program} {w : World} {K : PySem.W.Frag} {mg : Str → Option Value} {base : Heap}
theorem FnG.mono {j k : Nat} {f : Addr} {fd : FuncData} {ps : List Str} {sp : Sp} (F : FnG P w K mg base j f fd ps sp) (h : j ≤ k) : FnG P w K mg base k f fd ps sp :=
  ⟨F.count, fun A outer s H args us vs Q E hc hr => F.goes A outer s H args us vs Q E hc (hr.mono h)⟩
theorem Cg.mono {j k : Nat} {x : Str} {sp : Sp} (G : Cg P w K mg base j x sp) (h : j ≤ k) : Cg P w K mg base k x sp := by
  obtain ⟨f, fd, ps, F, m, kp, b⟩ := G
  exact ⟨f, fd, ps, F.mono h, m, kp, b⟩
/-- a name's promise by its def's body -/
theorem Df.ok {x : Str} {st : Stmt} {N ps : List Str} {k : Nat} {sp : Sp} (D : Df K mg x st ps) (S : FnScope N ps (defScope st)) (len : ∀ vs H Q E, sp vs H Q E → vs.length = ps.length)
    (body : ∀ (cdv : Value) (A : Around) (outer : List Env) (s : Shared) (H : Hp) (vs : List V) (Q : VK) (E : XK) (f : Addr), Calm (A.deeper (envOfC x (defScope st) s.heap.objs.size f cdv)) → Room k (A.deeper (envOfC x (defScope st) s.heap.objs.size f cdv)) → sp vs H Q E →
      ∃ t, PSs (cxOf CX0 P w K mg base N x (defScope st) f cdv A outer s H E).nox (defBody st) t ∧ t { nx := fun _ H' => Q .non H', rt := Q } (start N vs) H) : Cg P w K mg base (k + 1) x sp := by
  obtain ⟨f, fd, F, m, b⟩ := D
  exact ⟨f, fd, ps, goes_by F S len fun cdv A outer s H vs Q E hc hr h => body cdv A outer s H vs Q E f hc hr h, m, F.kp, b⟩
/-- .. where what runs around does not matter -/
theorem Df.mk {x : Str} {st : Stmt} {ps : List Str} {h : Heap} {f : Addr} {oc : Value} {od an : Option Addr} {osl : Array (Option Value)} {kV doc pm cdv ct : Value} (X : K.In h) (G : h.Ns mainGlobals mg) (a : PySem.W.nsIn K mainGlobals x = some (some (.ref f)))
    (l : K.lookup f = some ⟨oc, od, .func (PySem.W.fnOf x x (defArgs st) (defBody st) (defScope st) .none kV doc pm an cdv ct), osl⟩) (c : PySem.W.codeIn K cdv x = true) (k : PySem.W.keepIn K (.ref f) = true)
    (b : ∀ (kV doc pm : Value) (an : Option Addr) (cdv ct : Value) (us : List Value), us.length = ps.length → bindArgs (PySem.W.fnOf x x (defArgs st) (defBody st) (defScope st) .none kV doc pm an cdv ct) ⟨us, []⟩ = pure (ps.zip us)) : Df K mg x st ps :=
  ⟨f, _, fun_mk (st := st) l c k, PySem.W.mg_of X G a, (fun_mk (st := st) l c k).binds b⟩
end
section
variable {X : Cx} {j k : Nat} {sp : Sp} {E : XK} {x : Str} {p pos : Pos} {e : Expr} {es : List Expr} {t : TA}
theorem pe_cg (G : Cg X.prog X.w X.K X.mg X.base j x sp) (hc : Calm X.A) (hr : Room k X.A) (hg : Gl X x) (ha : PA X (e :: es) t) (hj : j ≤ k := by decide) (hx : Passes CX0 X E := by exact pass0) (hdb : (x == ("__debug__" : Str)) = false := by decide)
    (he : starEach (e :: es) X.env = (false, eval e X.env) :: starEach es X.env := by rfl) (hpl : (backTo pos (starEach es X.env)).any (·.1) = false := by rfl) : PE X (.Call (.Name x p) (e :: es) [] pos) (tCall sp [] E t) := by
  obtain ⟨f, fd, ps, F, m, kp, b⟩ := G
  exact pe_callG F hc (hr.mono hj) hg m kp b .nil hx ha hdb he hpl
theorem pe_cg0 (G : Cg X.prog X.w X.K X.mg X.base j x sp) (hc : Calm X.A) (hr : Room k X.A) (hg : Gl X x) (hj : j ≤ k := by decide) (hx : Passes CX0 X E := by exact pass0) (hdb : (x == ("__debug__" : Str)) = false := by decide) :
    PE X (.Call (.Name x p) [] [] pos) (tCall sp [] E tNil) := by
  obtain ⟨f, fd, ps, F, m, kp, b⟩ := G
  exact pe_callG0 F hc (hr.mono hj) hg m kp b .nil hx hdb
end

/-! ### the dice of all laws: a list of three ints, at an address of its own -/
def dz (g s c : Int) : HO := .lst [.int g, .int s, .int c]
def Dice (H : Hp) (d : Addr) : Prop := ∃ g s c, H d = some (dz g s c)
/-- all but the dice stays, more may stand -/
def Past (d : Addr) (H H' : Hp) : Prop := (∀ b o, b ≠ d → H b = some o → H' b = some o) ∧ Dice H' d
theorem Past.dice {d : Addr} {H H' : Hp} (h : Past d H H') : Dice H' d := h.2
theorem Past.trans {d : Addr} {H H1 H2 : Hp} (a : Past d H H1) (b : Past d H1 H2) : Past d H H2 := ⟨fun x o n e => b.1 x o n (a.1 x o n e), b.2⟩
theorem Past.refl {d : Addr} {H : Hp} (h : Dice H d) : Past d H H := ⟨fun _ _ _ e => e, h⟩
theorem Past.upd {d : Addr} {H : Hp} (g s c : Int) : Past d H (L2.upd H d (dz g s c)) := ⟨fun x o n e => by rw [upd_ne n]; exact e, g, s, c, upd_same⟩
theorem Past.same {d : Addr} {H H' : Hp} (hd : Dice H d) (h : Same H H') : Past d H H' := by
  obtain ⟨g, s, c, e⟩ := hd
  exact ⟨fun x o _ q => h x o q, g, s, c, h _ _ e⟩
theorem Past.new {d p : Addr} {H : Hp} {o : HO} (hd : Dice H d) (h : H p = none) : Past d H (L2.upd H p o) := Past.same hd fun b x e => by
  rw [upd_ne (ne_of_none e h)]
  exact e
/-- what is kept: anything of another kind than the dice, or at another place -/
theorem Past.keep {d b : Addr} {H H' : Hp} {o : HO} (h : Past d H H') (n : b ≠ d) (e : H b = some o) : H' b = some o := h.1 b o n e
theorem Dice.ne {H : Hp} {d p : Addr} (h : Dice H d) (n : H p = none) : p ≠ d := by
  obtain ⟨g, s, c, e⟩ := h
  exact (ne_of_none e n).symm
theorem Past.seq {K : PySem.W.Frag} {d a : Addr} {xs : List V} {H H' : Hp} (h : Past d H H') (n : a ≠ d) (s : SqL K H a xs) : SqL K H' a xs := by
  rcases s with (s | ⟨o, s⟩) | s
  · exact .inl (.inl (h.1 _ _ n s))
  · exact .inl (.inr ⟨o, h.1 _ _ n s⟩)
  · exact .inr s

/-- the law's own def, by its address -/
theorem law_def {st : Stmt} {x : Str} {K : PySem.W.Frag} {mg : Str → Option Value} {h : Heap} {f fa : Addr} {oc : Value} {od an : Option Addr} {osl : Array (Option Value)} {kV doc pm cdv ct : Value} (X : K.In h) (G : h.Ns mainGlobals mg) (hfa : mg "law" = some (.ref fa))
    (hb : ∀ (kV doc pm : Value) (an : Option Addr) (cdv ct : Value) (s : Shared) (v : Value), BindsTo s (PySem.W.fnOf "law" "law" (defArgs st) (defBody st) (defScope st) .none kV doc pm an cdv ct) ⟨[v], []⟩ [(x, v)]) (a : PySem.W.nsIn K mainGlobals "law" = some (some (.ref f)))
    (l : K.lookup f = some ⟨oc, od, .func (PySem.W.fnOf "law" "law" (defArgs st) (defBody st) (defScope st) .none kV doc pm an cdv ct), osl⟩) (c : PySem.W.codeIn K cdv "law" = true) (k : PySem.W.keepIn K (.ref f) = true) :
    ∃ fd : FuncData, (∀ (s : Shared) (v : Value), BindsTo s fd ⟨[v], []⟩ [(x, v)]) ∧ Fun K "law" "law" st fa fd := by
  cases hfa.symm.trans (PySem.W.mg_of X G a)
  exact ⟨_, hb kV doc pm an cdv ct, fun_mk (st := st) l c k⟩
end Vb
set_option Elab.async false
set_option linter.all false
set_option autoImplicit false
set_option maxRecDepth 100000
set_option maxHeartbeats 4000000
/-! Wd: texts of plain signs, the values that judges are asked of, names. -/
namespace Wd
open PySem PySem.Spec PyProof.Rows L2 Vb
/-! ### texts of plain signs -/
def Asc (z : Str) : Prop := ∀ c ∈ z.cps.toList, c < 128
theorem asc_app {x y : Str} (a : Asc x) (b : Asc y) : Asc (x ++ y) := fun c hc => by
  have e : (x ++ y).cps.toList = x.cps.toList ++ y.cps.toList := by
    show (x.cps ++ y.cps).toList = _
    exact Array.toList_append
  rw [e] at hc
  exact (List.mem_append.mp hc).elim (a c) (b c)
theorem asc_cut {z : Str} (a : Asc z) (lo hi : Option Int) : Asc (cutS z lo hi) := fun c hc => by
  unfold cutS at hc
  exact a c (List.mem_of_mem_drop (List.mem_of_mem_take hc))
theorem mem_joinL : ∀ {parts : List (List Nat)} {c : Nat}, c ∈ TL.joinL [] parts → ∃ p ∈ parts, c ∈ p
  | [], _, h => nomatch h
  | [p], c, h => ⟨p, List.mem_cons_self, h⟩
  | p :: q :: r, c, h => by
    rcases List.mem_append.mp (show c ∈ p ++ ([] ++ TL.joinL [] (q :: r)) from h) with h | h
    · exact ⟨p, List.mem_cons_self, h⟩
    · obtain ⟨p', hp, hc⟩ := mem_joinL (parts := q :: r) h
      exact ⟨p', List.mem_cons_of_mem _ hp, hc⟩
theorem asc_join {ys : List Str} (a : ∀ y ∈ ys, Asc y) : Asc (Txt.join (Str.ofString "") ys) := fun c hc => by
  rw [TL.join_eq] at hc
  have e : (Str.join (Str.ofString "") ys).cps.toList = TL.joinL [] (ys.map TL.tl) := TL.tl_join (Str.ofString "") ys
  rw [e] at hc
  obtain ⟨p, hp, hc⟩ := mem_joinL hc
  obtain ⟨y, hy, rfl⟩ := List.mem_map.mp hp
  exact a y hy c hc
theorem asc_one {z : Str} (a : Asc z) {c : Nat} (h : c ∈ z.cps.toList) : Asc ⟨#[c]⟩ := fun x hx => by
  have e : x = c := by simpa using hx
  rw [e]
  exact a c h
/-- what the three judges are asked of -/
def Judged (H : Hp) : V → Prop
  | .int i => i.natAbs < 10 ^ 100
  | .str z => z.length ≤ 1000 ∧ Asc z
  | .non => True
  | .bl _ => True
  | .ref a => (∃ xs, H a = some (.lst xs)) ∨ (∃ xs, H a = some (.tup xs)) ∨ ∃ kvs, H a = some (.dK kvs)
  | _ => False
theorem Judged.same {H H' : Hp} (h : Same H H') : ∀ {v : V}, Judged H v → Judged H' v
  | .int _, j => j
  | .str _, j => j
  | .non, j => j
  | .bl _, j => j
  | .ref _, j => j.imp (fun ⟨xs, e⟩ => ⟨xs, h _ _ e⟩) fun j => j.imp (fun ⟨xs, e⟩ => ⟨xs, h _ _ e⟩) fun ⟨xs, e⟩ => ⟨xs, h _ _ e⟩
  | .byt _, j => j
  | .flt _, j => j
  | .ty _, j => j
theorem Past.judged {d : Addr} {H H' : Hp} (h : Past d H H') {v : V} (j : Judged H v) (n : v ≠ .ref d) : Judged H' v := by
  cases v with
  | ref a =>
    have ad : a ≠ d := fun e => n (by rw [e])
    exact j.imp (fun ⟨xs, e⟩ => ⟨xs, h.1 _ _ ad e⟩) fun j => j.imp (fun ⟨xs, e⟩ => ⟨xs, h.1 _ _ ad e⟩) fun ⟨xs, e⟩ => ⟨xs, h.1 _ _ ad e⟩
  | _ => exact j
theorem sum_ones : ∀ {l : List Str}, (∀ y ∈ l, y.length = 1) → (l.map (·.length)).sum = l.length
  | [], _ => rfl
  | y :: l, h => by
    rw [List.map_cons, List.sum_cons, sum_ones (l := l) (fun z hz => h z (List.mem_cons_of_mem _ hz)), h y List.mem_cons_self, List.length_cons]
    omega
theorem same_new {H : Hp} {p : Addr} {o : HO} (n : H p = none) : Same H (upd H p o) := fun b x e => by
  rw [upd_ne (ne_of_none e n)]
  exact e
theorem same_new2 {H : Hp} {p : Addr} {o o' : HO} (n : H p = none) : Same H (upd (upd H p o) p o') := by
  rw [upd_upd]
  exact same_new n
def low (c : Nat) : Bool := 97 ≤ c && c ≤ 122
def isNam : V → Bool
  | .str z => decide (1 ≤ z.length) && decide (z.length ≤ 8) && z.cps.toList.all low
  | _ => false
def isInt : V → Bool
  | .int i => decide (i.natAbs < 10 ^ 60)
  | _ => false
def notNeg : V → Bool
  | .int i => decide (0 ≤ i)
  | _ => false
def spOf (g : V → Bool) : Sp := fun vs H Q _ => ∃ v, vs = [v] ∧ Judged H v ∧ ∀ H', Same H H' → Q (.bl (g v)) H'
/-- the kinds of judged values -/
theorem kinds {K : PySem.W.Frag} {H : Hp} {v : V} (j : Judged H v) : (∃ i, v = .int i ∧ i.natAbs < 10 ^ 100) ∨ (∃ b, v = .bl b) ∨ (∃ z, v = .str z ∧ z.length ≤ 1000 ∧ Asc z) ∨
    (∃ T, TyX K H v (.type T) ∧ kitB T "int" = some false ∧ kitB T "bool" = some false ∧ kitB T "str" = some false ∧ isInt v = false ∧ notNeg v = false ∧ isNam v = false) := by
  cases v with
  | int i => exact .inl ⟨i, rfl, j⟩
  | bl b => exact .inr (.inl ⟨b, rfl⟩)
  | str z => exact .inr (.inr (.inl ⟨z, rfl, j⟩))
  | non => exact .inr (.inr (.inr ⟨"NoneType", .base .non, by decide +kernel, by decide +kernel, by decide +kernel, rfl, rfl, rfl⟩))
  | byt _ => exact False.elim j
  | flt _ => exact False.elim j
  | ty _ => exact False.elim j
  | ref a =>
    rcases j with ⟨xs, e⟩ | ⟨xs, e⟩ | ⟨xs, e⟩
    · exact .inr (.inr (.inr ⟨"list", .base (.lst e), by decide +kernel, by decide +kernel, by decide +kernel, rfl, rfl, rfl⟩))
    · exact .inr (.inr (.inr ⟨"tuple", .base (.tup e), by decide +kernel, by decide +kernel, by decide +kernel, rfl, rfl, rfl⟩))
    · exact .inr (.inr (.inr ⟨"dict", .base (.dK e), by decide +kernel, by decide +kernel, by decide +kernel, rfl, rfl, rfl⟩))
theorem ki_ii : kitB "int" "int" = some true := by decide +kernel
theorem ki_ib : kitB "int" "bool" = some false := by decide +kernel
theorem ki_is : kitB "int" "str" = some false := by decide +kernel
theorem ki_bi : kitB "bool" "int" = some true := by decide +kernel
theorem ki_bb : kitB "bool" "bool" = some true := by decide +kernel
theorem ki_bs : kitB "bool" "str" = some false := by decide +kernel
theorem ki_si : kitB "str" "int" = some false := by decide +kernel
theorem ki_sb : kitB "str" "bool" = some false := by decide +kernel
theorem ki_ss : kitB "str" "str" = some true := by decide +kernel
theorem digits_60 (n : Nat) (h : n < 10 ^ 100) : (decide ((Nat.toDigits 10 n).length ≤ 60)) = decide (n < 10 ^ 60) := by
  apply decide_eq_decide.mpr
  constructor
  · intro hl
    refine Classical.byContradiction fun hn => ?_
    have := digitsCore10_ge 60 (n + 1) n [] (by have : 60 < 10 ^ 60 := by decide +kernel
                                                omega) (by omega)
    have e : Nat.toDigits 10 n = Nat.toDigitsCore 10 (n + 1) n [] := rfl
    rw [e] at hl
    simp only [List.length_nil] at this
    omega
  · exact digits10_le (by decide)
theorem num_len (n : Nat) : (Str.ofString (toString ((n : Nat) : Int))).length = (Nat.toDigits 10 n).length := by
  have e := congrArg List.length (PySem.W.KIN.signs_num n)
  rw [List.length_map] at e
  rw [← e]
  simp [Str.length]
/-! ### plain signs -/
def upp (c : Nat) : Bool := 65 ≤ c && c ≤ 90
theorem cl_alpha : ∀ c, c < 128 → Unicode.isAlpha c = (upp c || low c) := by decide +kernel
theorem cl_lower : ∀ c, c < 128 → Unicode.isLower c = low c := by decide +kernel
theorem cl_upper : ∀ c, c < 128 → (Unicode.isUpper c || Unicode.isTitle c) = upp c := by decide +kernel
theorem cl_not : ∀ c, c < 128 → low c = false → upp c = true ∨ (upp c || low c) = false := by decide +kernel
theorem cl_both : ∀ c, c < 128 → low c = true → upp c = false := by decide +kernel
theorem name_signs {z : Str} (a : Asc z) (h : 1 ≤ z.length) : (Txt.isascii z && (Txt.isalpha z && Txt.islower z)) = z.cps.toList.all low := by
  have hl : z.cps.toList.length = z.length := by simp [Str.length]
  have e1 : Txt.isascii z = true := by
    unfold Txt.isascii
    rw [← Array.all_toList, List.all_eq_true]
    exact fun c hc => decide_eq_true (a c hc)
  have e2 : Txt.isalpha z = z.cps.toList.all Unicode.isAlpha := by
    unfold Txt.isalpha
    rw [decide_eq_true (show z.length > 0 by omega), Bool.true_and, ← Array.all_toList]
  have e3 : Txt.islower z = (z.cps.toList.any Unicode.isLower && !z.cps.toList.any fun c => Unicode.isUpper c || Unicode.isTitle c) := by
    unfold Txt.islower
    rw [← Array.any_toList, ← Array.any_toList]
  rw [e1, e2, e3, Bool.true_and]
  have a' : ∀ c ∈ z.cps.toList, c < 128 := a
  cases hL : z.cps.toList.all low with
  | true =>
    have hl' := List.all_eq_true.mp hL
    have k1 : z.cps.toList.all Unicode.isAlpha = true := List.all_eq_true.mpr fun c hc => by
      rw [cl_alpha c (a' c hc), hl' c hc, Bool.or_true]
    have k2 : z.cps.toList.any Unicode.isLower = true := by
      cases e : z.cps.toList with
      | nil =>
        rw [e] at hl
        simp at hl
        omega
      | cons c r =>
        have hc : c ∈ z.cps.toList := by rw [e]; exact List.mem_cons_self
        rw [List.any_cons, cl_lower c (a' c hc), hl' c hc, Bool.true_or]
    have k3 : (z.cps.toList.any fun c => Unicode.isUpper c || Unicode.isTitle c) = false := List.any_eq_false.mpr fun c hc => by
      rw [cl_upper c (a' c hc), cl_both c (a' c hc) (hl' c hc)]
      exact Bool.false_ne_true
    rw [k1, k2, k3]
    rfl
  | false =>
    obtain ⟨c, hc, hn⟩ := List.all_eq_false.mp hL
    have hn' : low c = false := by simpa using hn
    rcases cl_not c (a' c hc) hn' with u | u
    · have k3 : (z.cps.toList.any fun c => Unicode.isUpper c || Unicode.isTitle c) = true := List.any_eq_true.mpr ⟨c, hc, by rw [cl_upper c (a' c hc)]; exact u⟩
      rw [k3]
      simp
    · have k1 : z.cps.toList.all Unicode.isAlpha = false := List.all_eq_false.mpr ⟨c, hc, by rw [cl_alpha c (a' c hc), u]; exact Bool.false_ne_true⟩
      rw [k1]
      rfl
theorem one_lt (a b : Nat) : decide ([a] < [b]) = decide (a < b) := by
  apply decide_eq_decide.mpr
  constructor
  · intro h
    cases h with
    | rel h => exact h
    | cons h => exact nomatch h
  · exact fun h => .rel h
theorem isNam_str (z : Str) : isNam (.str z) = (decide (1 ≤ z.length) && decide (z.length ≤ 8) && z.cps.toList.all low) := rfl
/-- the signs that are no small letters, as texts -/
def odd1 (L : List Nat) : List V := (L.filter (fun c => !low c)).map fun c => V.str ⟨#[c]⟩
theorem odd1_snoc (L : List Nat) (c : Nat) : odd1 (L ++ [c]) = odd1 L ++ (if low c = true then [] else [V.str ⟨#[c]⟩]) := by
  unfold odd1
  rw [List.filter_append, List.map_append]
  congr 1
  cases h : low c <;> simp [h]
theorem odd1_nil (L : List Nat) : (odd1 L).isEmpty = L.all low := by
  unfold odd1
  induction L with
  | nil => rfl
  | cons c r ih =>
    cases h : low c with
    | true => simpa [h] using ih
    | false => simp [h]
theorem odd1_len (L : List Nat) : (odd1 L).length ≤ L.length := by
  unfold odd1
  rw [List.length_map]
  exact List.length_filter_le _ _
/-- such a list as data -/
theorem dp_strs {K : PySem.W.Frag} {H : Hp} : ∀ l : List Str, DpAll K H (l.map V.str) (l.map PyData.str)
  | [] => .nil
  | y :: l => .cons (.str y) (dp_strs l)
theorem lay_strs : ∀ l : List Str, (∀ y ∈ l, Asc y) → PyData.canLayAll0 (l.map PyData.str) = true ∧ PyData.depthAll (l.map PyData.str) = 0
  | [], _ => ⟨rfl, rfl⟩
  | y :: l, h => by
    obtain ⟨h1, h2⟩ := lay_strs l fun z hz => h z (List.mem_cons_of_mem _ hz)
    constructor
    · show (PyData.canLay0 (.str y) && PyData.canLayAll0 (l.map PyData.str)) = true
      rw [h1, Bool.and_true]
      show y.cps.all (· < 0x110000) = true
      rw [← Array.all_toList, List.all_eq_true]
      exact fun c hc => decide_eq_true (Nat.lt_trans (h y List.mem_cons_self c hc) (by decide))
    · show max (PyData.depth (.str y)) (PyData.depthAll (l.map PyData.str)) = 0
      rw [h2]
      rfl
theorem shaped_strs {l : List Str} (h : ∀ y ∈ l, Asc y) : SeqAt.shaped (.list (l.map PyData.str)) = true := by
  obtain ⟨h1, h2⟩ := lay_strs l h
  show (PyData.canLay0 (.list (l.map PyData.str)) && decide (PyData.depth (.list (l.map PyData.str)) ≤ 64)) = true
  rw [show PyData.canLay0 (.list (l.map PyData.str)) = true from h1, Bool.true_and]
  exact decide_eq_true (by show PyData.depthAll _ + 1 ≤ 64; rw [h2]; decide)
theorem small8000 {n : Nat} (h : n ≤ 1000000) : ((n : Int)).natAbs < 2 ^ 8000 := by
  have : (1000000 : Nat) < 2 ^ 8000 := by decide +kernel
  omega
theorem fits_million {n : Nat} (h : n ≤ 1000000) : n ≤ sizeLine := Nat.le_trans h (by decide)
theorem same_past {d : Addr} {o : HO} {H H' : Hp} (nd : H d = none) (p : Past d (upd H d o) H') : Same H H' := fun b x e => by
  have bd : b ≠ d := ne_of_none e nd
  exact p.1 b x bd (by rw [upd_ne bd]; exact e)
theorem asc_lit {z : Str} (h : z.cps.toList.all (· < 128) = true) : Asc z := fun c hc => of_decide_eq_true (List.all_eq_true.mp h c hc)
end Wd
set_option Elab.async false
set_option linter.all false
set_option autoImplicit false
set_option maxRecDepth 100000
set_option maxHeartbeats 4000000
/-! Xk: own errors with an __init__ of their own over any built-in error, KeyError too: KeyError has no __new__ of its own, so what makes is named after its base. -/
namespace Xk
open PySem PySem.F PySem.PX Builtin Builtin.ObjectAttr
abbrev keTail : List Value := [.type "KeyError", .type "LookupError", .type "Exception", .type "BaseException", .type "object"]
theorem storeKE : StoreFacts "KeyError" keTail "object.__setattr__" "object" := by
  constructor
  case mro => kernel_rfl
  case slot =>
    refine .of (owner := "object") (n := "__setattr__") ?_ ?_ ?_ ?_ ?_ ?_
    · rw [typeLookup_type, builtinLookup_eq_fast]; kernel_rfl
    · decide +kernel
    · decide +kernel
    · decide +kernel
    · first
      | exact .inl (by decide +kernel)
      | exact .inr (by decide +kernel)
    · rw [isSubtype_type]; kernel_rfl
  case entry => exact entry_object_sa
  case kind => decide +kernel
  case split => decide +kernel
  case hasOwner => decide +kernel
  case args => intro a b c; unfold argsOk; kernel_rfl
  case passes => intro self; kernel_rfl
/-- what of the mro the making asks -/
structure Over (bm : List Value) (B : String) : Prop where
  base : bm.contains (.type B) = true
  attr : bm.contains (.type "AttributeError") = false
  name : bm.contains (.type "NameError") = false
section
variable {prog : Program} {w : World} {A : Around} {E : Value → Shared → Prop} {R : Result → Shared → Prop} {h : Heap} {g : Array GenState} {d : Drawn} {t : Nat} {os : OsState}
variable {nm q : Str} {C N : Addr} {bs bm bmB : List Value} {hdct : Bool} {sn : List Str} {sub : List Value} {ab : Bool} {col : Option Bool} {dd : Option Addr} {k0 k1 k2 k3 k5 : Option Value} {B newId initId : String}
theorem asks_new {M : Model} (F : ExcBaseFacts B newId initId bmB) (O : Over bm B) {us : List Value} {Q : Unit → Shared → Prop}
    (at_C : h.get? C = some (excClassObj nm q C N bs bm hdct sn sub ab col dd k0 k1 k2 k3 k5 newId)) (k : Q () ⟨h, g, d, t, os⟩) : wpAny M A (checkBuiltinCall newId ⟨.ref C :: us, []⟩) Q E ⟨h, g, d, t, os⟩ := by
  have inB : (Value.ref C :: bm).contains (.type B) = true := by rw [List.contains_cons, O.base, Bool.or_true]
  have st := F.noStar
  simp only [checkBuiltinCall, F.newKind, F.newSplit, F.newRow]
  repeat
    first
    | refine wpAny_loadPart_at at_C ?_
    | refine wpAny_isSubtype_exc at_C ?_; rw [inB]
    | refine wpAny_staticBase_exc at_C ?_
    | refine wpAny_madeBy_exc at_C ?_
    | simp only [bne_self_eq_false, Bool.false_eq_true, if_false]
    | wp_step
  exact k
theorem makes_new (F : ExcBaseFacts B newId initId bmB) (O : Over bm B) {us : List Value} (at_C : h.get? C = some (excClassObj nm q C N bs bm hdct sn sub ab col dd k0 k1 k2 k3 k5 newId)) (few : us.length ≤ sizeLine)
    (k : R (.ok (.ret (.ref (h.objs.size + 1)))) ⟨(h.push (W.kdv_tup us)).push (excO C h.objs.size), g, d, t, os⟩) : codeAny (model prog w) A (.builtin newId ⟨.ref C :: us, []⟩) R ⟨h, g, d, t, os⟩ := by
  have ends := F.ends
  have inB : (Value.ref C :: bm).contains (.type B) = true := by rw [List.contains_cons, O.base, Bool.or_true]
  have inA : (Value.ref C :: bm).contains (.type "AttributeError") = false := by rw [List.contains_cons, O.attr]; rfl
  have inN : (Value.ref C :: bm).contains (.type "NameError") = false := by rw [List.contains_cons, O.name]; rfl
  refine codeAny_builtinAt F.entry ?_
  unfold Builtin.«BaseException.__new__»
  refine wpAt_bind ?_
  show wpAt _ _ _ (stack >>= _) _ _ _
  refine wpAt_bind (wpAt_stack fun p below => wpAt_of_wpAny ?_)
  wp_walk
  refine wpAt_of_wpAny ?_
  rw [F.owner]
  repeat
    first
    | with_reducible refine wpAny_madeHere_exc F.canon at_C ?_
    | with_reducible refine wpAny_loadPart_at at_C ?_
    | (with_reducible refine wpAny_isSubtype_exc at_C ?_; first | rw [inB] | rw [inA] | rw [inN])
    | wp_step
  show R _ _
  rw [Heap.size_push]
  exact k
theorem type_makes (F : ExcBaseFacts B newId initId bmB) (O : Over bm B) {us : List Value} {fI : Addr} {Q : Fin → Shared → Prop} (at_C : h.get? C = some (excClassObj nm q C N bs bm hdct sn sub ab col dd k0 k1 k2 k3 k5 newId))
    (ini : W.Looks (model prog w) h (typeLookup (.ref C) "__init__") (some (.ref fI))) (bnd : ∀ x, W.Looks (model prog w) h (bindSpecial (.ref fI) x) (.ref fI, [x])) (few : us.length ≤ sizeLine)
    (k : codeAny (model prog w) A (.call (.ref fI) ⟨.ref (h.objs.size + 1) :: us, []⟩)
      (fun r s' => match r with
        | .ok (.ret v) => v = .none ∧ Q (.done (.ret (.ref (h.objs.size + 1)))) s'
        | .ok _ => False
        | .error e => E e s')
      ⟨(h.push (W.kdv_tup us)).push (excO C h.objs.size), g, d, t, os⟩) : wpAny (model prog w) A (Builtin.«type.__call__» ⟨.ref C :: us, []⟩) Q E ⟨h, g, d, t, os⟩ := by
  repeat
    first
    | with_reducible refine wpAny_loadPart_at at_C ?_
    | with_reducible refine wpAny_madeBy_exc at_C ?_
    | wp_step
  refine codeAny_call_builtin_code (Code.quiet_builtin _ F.quiet) (asks_new F O at_C ?_)
  refine makes_new F O at_C few ?_
  show wpAny _ _ _ _ _ _
  have keeps : ∀ b o, h.get? b = some o → ((h.push (W.kdv_tup us)).push (excO C h.objs.size)).get? b = some o := fun b o e =>
    Heap.get?_push_of_some _ (Heap.get?_push_of_some _ e)
  have at_C' := keeps _ _ at_C
  have at_x : ((h.push (W.kdv_tup us)).push (excO C h.objs.size)).get? (h.objs.size + 1) = some (excO C h.objs.size) := by heap_get
  have inC : (Value.ref C :: bm).contains (.ref C) = true := by simp
  have ini' := ini.keeps keeps
  have bnd' := (bnd (.ref (h.objs.size + 1))).keeps keeps
  unfold isInstance
  repeat
    first
    | with_reducible refine wpAny_loadPart_at at_x ?_
    | (with_reducible refine wpAny_isSubtype_exc at_C' ?_; rw [inC])
    | wp_step
  show wpAny _ _ (typeLookup (.ref C) _) _ _ _
  refine ini'.at (wpAny_holding (wpAny_bind (bnd'.at (wpAny_bind (wpAny_call (codeAny_mono k fun r s' z => ?_))))))
  rcases r with e | fl
  · exact z
  · cases fl
    case ret v =>
      obtain ⟨rfl, y⟩ := z
      first
      | exact wpAny_pure (wpAny_pure y)
      | (wp_walk; exact y)
    all_goals exact z.elim
theorem calls_own (F : ExcBaseFacts B newId initId bmB) (O : Over bm B) {us : List Value} {fI : Addr} (at_C : h.get? C = some (excClassObj nm q C N bs bm hdct sn sub ab col dd k0 k1 k2 k3 k5 newId))
    (ini : W.Looks (model prog w) h (typeLookup (.ref C) "__init__") (some (.ref fI))) (bnd : ∀ x, W.Looks (model prog w) h (bindSpecial (.ref fI) x) (.ref fI, [x])) (few : us.length ≤ sizeLine)
    (k : codeAny (model prog w) (A.under (.builtin "type.__call__" ⟨.ref C :: us, []⟩)) (.call (.ref fI) ⟨.ref (h.objs.size + 1) :: us, []⟩) (W.InitBack (h.objs.size + 1) R) ⟨(h.push (W.kdv_tup us)).push (excO C h.objs.size), g, d, t, os⟩) :
    codeAny (model prog w) A (.call (.ref C) ⟨us, []⟩) R ⟨h, g, d, t, os⟩ := by
  have l1 := tc_lookup
  have l2 := tc_bind (.ref C)
  have ty : (⟨h, g, d, t, os⟩ : Shared).TypeIs (.ref C) "type" := ⟨_, at_C, rfl⟩
  refine codeAny_of_tree ?_
  show wpAny _ _ (callAny (.ref C) _) _ _ _
  repeat
    any_goals
      first
      | assumption
      | with_reducible refine wpAny_loadPart_at at_C ?_
      | wp_step
  refine ⟨rfl, ?_⟩
  refine codeAny_call_builtin_at (Code.quiet_builtin _ (by decide +kernel)) entry_typeCall (wpAny_check_type_call_sub at_C (type_makes F O at_C ini bnd few ?_))
  refine codeAny_mono k fun r s' z => ?_
  rcases r with e | (v | _ | _ | _) <;> exact z
end
end Xk
set_option Elab.async false
set_option linter.all false
set_option autoImplicit false
set_option maxRecDepth 100000
set_option maxHeartbeats 4000000
/-! Xe: own errors as values: made, with an __init__ of their own or without, asked by isinstance, their fields read. -/
namespace Xe
open PySem PySem.Spec PyProof.Rows L2 Vb Wd
/-- what an own error class tells of its instances -/
structure EC (K : PySem.W.Frag) (C : Addr) : Prop where
  ga : PySem.W.findIn K (.ref C) "__getattribute__" = some (some (.builtin "BaseException.__getattribute__"))
  gt : PySem.W.findIn K (.ref C) "__getattr__" = some none
  sub : PySem.W.subIn K (.ref C) (.type "BaseException") = some true
  ca : PySem.W.findIn K (.ref C) "__class__" = some (some (.builtin "object.__class__"))
  sp : PySem.W.specialIn K (.builtin "object.__class__") "__get__" = some (some (.builtin "getset_descriptor.__get__"))
  tk : PySem.W.takesIn K (.builtin "object.__class__") = some true
  mo : PySem.W.mroIn K C (.type "object") = some true
  hd : PySem.W.hasDictIn K C = true
/-- the same as one question to the written part -/
def ecB (K : PySem.W.Frag) (C : Addr) : Bool :=
  decide (PySem.W.findIn K (.ref C) "__getattribute__" = some (some (.builtin "BaseException.__getattribute__"))) &&
  (decide (PySem.W.findIn K (.ref C) "__getattr__" = some none) &&
  (decide (PySem.W.subIn K (.ref C) (.type "BaseException") = some true) &&
  (decide (PySem.W.findIn K (.ref C) "__class__" = some (some (.builtin "object.__class__"))) &&
  (decide (PySem.W.specialIn K (.builtin "object.__class__") "__get__" = some (some (.builtin "getset_descriptor.__get__"))) &&
  (decide (PySem.W.takesIn K (.builtin "object.__class__") = some true) &&
  (decide (PySem.W.mroIn K C (.type "object") = some true) && PySem.W.hasDictIn K C))))))
theorem ec_of {K : PySem.W.Frag} {C : Addr} (h : ecB K C = true) : EC K C := by
  unfold ecB at h
  simp only [Bool.and_eq_true, decide_eq_true_eq] at h
  obtain ⟨h1, h2, h3, h4, h5, h6, h7, h8⟩ := h
  exact ⟨h1, h2, h3, h4, h5, h6, h7, h8⟩
/-- an own error of the class at C stands at a -/
def ErrAt (H : Hp) (a C : Addr) : Prop := H a = some (ExO (.ref C) a) ∨ ∃ d fs, H a = some (exo a C (some d)) ∧ H d = some (exd d fs)
theorem ErrAt.same {H H' : Hp} {a C : Addr} (s : Same H H') : ErrAt H a C → ErrAt H' a C
  | .inl e => .inl (s _ _ e)
  | .inr ⟨d, fs, e1, e2⟩ => .inr ⟨d, fs, s _ _ e1, s _ _ e2⟩
section
variable {X : Cx} {pins : List (Addr × Obj)} {σ : L2.St} {H : Hp} {s : Shared}
theorem err_inst {a C : Addr} (I : Inv X pins σ H s) (h : ErrAt H a C) : ∃ (oe : Obj) (od : Option Obj), PySem.W.InstAt s.heap a oe C od := by
  rcases h with h | ⟨d, fs, e1, e2⟩
  · obtain ⟨⟨oe, vs, ho, hz, hd, _⟩, _, _⟩ := I.hok a _ h
    exact ⟨oe, none, ho, hz.1, by unfold PySem.W.notCls; rw [hd], by rw [hz.2]; trivial⟩
  · obtain ⟨t1, ho⟩ := exo_at I.hok e1
    obtain ⟨mA, hns, _⟩ := exd_at I.hok e2
    obtain ⟨od, hod, _⟩ := lookIn_ns hns
    exact ⟨_, some od, ho, rfl, rfl, hod⟩
/-- isinstance(e, c), e an own error -/
def rIsE (K : PySem.W.Frag) : List V → Hp → VK → Prop := fun xs H Q => ∃ (a C : Addr) (c : V) (u : Value) (b : Bool), xs = [.ref a, c] ∧ ClsV c u ∧ EC K C ∧ ErrAt H a C ∧ PySem.W.kitOne K (.ref C) u = some b ∧ Q (.bl b) H
theorem cr_isE : CallR X (.builtin "isinstance") (rIsE X.K) := by
  intro pins s σ H xs us Q I r h
  obtain ⟨a, C, c, u, b, rfl, k, T, at_, e, q⟩ := h
  obtain ⟨u1, u2, rfl, r1, r2⟩ := vals2 r
  cases (show u1 = Value.ref a from r1)
  have e2 := k.eq r2
  subst e2
  obtain ⟨oe, od, J⟩ := err_inst I at_
  obtain ⟨cd, hc, _⟩ := PySem.W.any_some T.hd
  exact PySem.W.kia_one (PySem.W.kitx_exc (by rw [hc]; rfl) T.ga T.gt T.sub T.ca T.sp T.tk T.mo) I.kIn J e (fun z => nomatch z) fun tk => ⟨.bl b, H, I.tok tk, rfl, q⟩
/-- e.f, e an own error that bears f -/
def tEf (K : PySem.W.Frag) (f : Str) (te : TE) : TE := fun σ H Q => te σ H fun x H1 => ∃ (a C d : Addr) (fs : List (Str × V)) (v : V), x = .ref a ∧ EC K C ∧ PySem.W.findIn K (.ref C) f = some none ∧
  H1 a = some (exo a C (some d)) ∧ H1 d = some (exd d fs) ∧ fs.lookup f = some v ∧ Q v H1
theorem pe_ef {e : Expr} {te : TE} {pos : Pos} {f : Str} (he : PE X e te) (hb : attributeBase e f X.env (eval e X.env) = eval e X.env := by rfl) : PE X (.Attribute e f pos) (tEf X.K f te) := by
  refine ⟨fun pins s σ H Q I h => ?_⟩
  refine attr_of hb (thn (he.run pins s σ H _ I h) fun u s1 hh => ?_)
  obtain ⟨x, H1, I1, rx, a, C, d, fs, v, ex, T, no, e1, e2, l, q⟩ := hh
  subst ex
  obtain rfl : u = Value.ref a := rx
  obtain ⟨t1, ho⟩ := exo_at I1.hok e1
  obtain ⟨mA, hns, hr⟩ := exd_at I1.hok e2
  obtain ⟨od, hod, hl⟩ := lookIn_ns hns
  obtain ⟨u, hu, ru⟩ := RelO.some_of (v := v) (o := mA f) (by rw [← l]; exact hr f)
  exact HandSPX.exc_get I1.kIn ⟨ho, rfl, rfl, hod⟩ T.ga T.gt T.sub (PySem.W.findObj_own T.hd no rfl (by rw [hl, hu])) (handed_of ru) ⟨v, H1, I1.tok _, ru, q⟩
end
end Xe
set_option Elab.async false
set_option linter.all false
set_option autoImplicit false
set_option maxRecDepth 100000
set_option maxHeartbeats 4000000
/-! Xi: own errors whose __init__ keeps one field: the store, the making. -/
namespace Xi
open PySem PySem.Spec PyProof.Rows L2 Vb Wd Xe Xk Builtin Builtin.ObjectAttr
/-- an own error class at C with an __init__ of its own, the function at fI -/
structure EI (K : PySem.W.Frag) (C fI : Addr) : Prop extends EC K C where
  sa : PySem.W.findIn K (.ref C) "__setattr__" = some (some (.builtin "object.__setattr__"))
  iC : PySem.W.findIn K (.ref C) "__init__" = some (some (.ref fI))
  tI : PySem.W.typeIn K (.ref fI) = some (.type "function")
  kC : PySem.W.keepIn K (.ref C) = true
  ty : PySem.W.typeIn K (.ref C) = some (.type "type")
  st : ∃ (B : String) (bm : List Value), StoreFacts B bm "object.__setattr__" "object" ∧ PySem.W.excOver K C bm = true
  mak : ∃ (B newId initId : String) (bmB bm : List Value), ExcBaseFacts B newId initId bmB ∧ PySem.W.excInitIn K C bm newId = true ∧ Over bm B
def eiB (K : PySem.W.Frag) (C fI : Addr) (bm : List Value) (newId : String) : Bool :=
  ecB K C && (decide (PySem.W.findIn K (.ref C) "__setattr__" = some (some (.builtin "object.__setattr__"))) && (decide (PySem.W.findIn K (.ref C) "__init__" = some (some (.ref fI))) &&
  (decide (PySem.W.typeIn K (.ref fI) = some (.type "function")) && (PySem.W.keepIn K (.ref C) && (decide (PySem.W.typeIn K (.ref C) = some (.type "type")) && (PySem.W.excOver K C bm && PySem.W.excInitIn K C bm newId))))))
theorem ei_of {K : PySem.W.Frag} {C fI : Addr} {bm bmB : List Value} {B B' newId initId : String} (S : StoreFacts B' bm "object.__setattr__" "object") (F : ExcBaseFacts B newId initId bmB) (O : Over bm B) (h : eiB K C fI bm newId = true) : EI K C fI := by
  unfold eiB at h
  simp only [Bool.and_eq_true, decide_eq_true_eq] at h
  obtain ⟨h1, h2, h3, h4, h5, h8, h6, h7⟩ := h
  exact { toEC := ec_of h1, sa := h2, iC := h3, tI := h4, kC := h5, ty := h8, st := ⟨_, _, S, h6⟩, mak := ⟨_, _, _, _, _, F, h7, O⟩ }
section
variable {X : Cx} {pins : List (Addr × Obj)} {σ : L2.St} {H : Hp} {s : Shared} {a C fI : Addr} {f : Str} {y : V} {u : Value}
theorem store_first {A : Around} {Q : Unit → Shared → Prop} {E : Value → Shared → Prop} (T : EI X.K C fI) (no : PySem.W.findIn X.K (.ref C) f = some none) (I : Inv X pins σ H s) (e : H a = some (exo a C none)) (ry : RelV y u)
    (k : ∀ d s', H d = none → d ≠ a → Inv X pins σ (upd (upd H a (exo a C (some d))) d (exd d [(f, y)])) s' → Q () s') : wpAny (model X.prog X.w) A (setAttr (.ref a) f u) Q E s := by
  obtain ⟨t1, ho⟩ := exo_at I.hok e
  obtain ⟨B, bm, S, ov⟩ := T.st
  obtain ⟨cd, hc, hd⟩ := PySem.W.any_some T.hd
  obtain ⟨hp, g, dr, t, os⟩ := s
  have tkr : PySem.W.takerIn X.K C f = some none := by
    unfold PySem.W.takerIn
    rw [no]
    rfl
  have J : PySem.W.InstAt hp a { cls := .ref C, dict := none, data := .fields #[.ref t1, .none, .none, .none, .bool false, .none] } C none := ⟨ho, rfl, rfl, trivial⟩
  refine PySem.W.set_plain I.kIn J T.sa (PySem.W.osa_openX (s := ⟨hp, g, dr, t + 1, os⟩) S I.kIn J ov tkr fun b => ?_)
  refine wpAny_bind (wpAny_pure (wpAny_bind (PySem.W.instanceDict_exc ho (PySem.W.looks_clsIn I.kIn hc) hd ?_)))
  show wpAny _ _ (storeInDict hp.objs.size (.str f t) f u) _ _ _
  have ane : a ≠ hp.objs.size := Nat.ne_of_lt (Heap.lt_size ho)
  have nd : H hp.objs.size = none := I.hok.fresh (Nat.le_refl _)
  refine PX.store_in_new ?_ fun h' tk' hn' hs => ?_
  · exact ⟨_, #[], _, (Heap.get?_update_ne _ _ _ _ ane.symm).trans (Heap.get?_push_at rfl rfl), rfl, fun e he => absurd he (by simp), fun _ => rfl⟩
  -- the object with its dict's address
  have at_a : (hp.update a fun o => { o with dict := some hp.objs.size }).get? a = some { cls := .ref C, dict := some hp.objs.size, data := .fields #[.ref t1, .none, .none, .none, .bool false, .none] } := Heap.get?_update_self _ ho rfl
  have I1 := I.write (t' := t) (x := a) (e := a) (o := exo a C (some hp.objs.size)) (h' := hp.update a fun o => { o with dict := some hp.objs.size }) (by rw [e]; exact True.intro) (.inl rfl)
    (fun b o nb q => (Heap.get?_update_ne _ _ _ _ nb).trans q) ⟨_, at_a⟩ (exo_ok at_a)
  refine k hp.objs.size _ nd ane.symm (I1.laid (t' := tk') (h' := h') (fun b o q => ?_) (by rw [Heap.size_update]; exact Nat.le_refl _) (exd_ok hn' (relO_put (fs := []) ry fun _ => True.intro)))
  have lt : b ≠ hp.objs.size := by
    have l := Heap.lt_size q
    rw [Heap.size_update] at l
    exact Nat.ne_of_lt l
  refine (hs.2 b lt).trans ?_
  by_cases eb : b = a
  · subst eb
    rw [at_a] at q
    cases q
    exact Heap.get?_update_self _ (Heap.get?_push_of_some _ ho) rfl
  · rw [Heap.get?_update_ne _ _ _ _ eb] at q ⊢
    exact Heap.get?_push_of_some _ q
end
end Xi
set_option Elab.async false
set_option linter.all false
set_option autoImplicit false
set_option maxRecDepth 100000
set_option maxHeartbeats 4000000
/-! Xm: self.f = e in such an __init__, and the call of the class. -/
namespace Xm
open PySem PySem.Spec PyProof.Rows L2 Vb Wd Xe Xk Xi
/-- what the one-field __init__ of the class at C promises -/
def spSet (K : PySem.W.Frag) (C fI : Addr) (f : Str) : Sp := fun vs H Q _ => ∃ (a : Addr) (y : V), vs = [.ref a, y] ∧ EI K C fI ∧ PySem.W.findIn K (.ref C) f = some none ∧ H a = some (exo a C none) ∧
  ∀ d, H d = none → d ≠ a → Q .non (upd (upd H a (exo a C (some d))) d (exd d [(f, y)]))
/-- self.f = e -/
def tSetE (K : PySem.W.Frag) (f : Str) (to te : TE) : TS := fun D σ H => te σ H fun y H1 => to σ H1 fun x H2 => ∃ a C fI : Addr, x = .ref a ∧ EI K C fI ∧ PySem.W.findIn K (.ref C) f = some none ∧ H2 a = some (exo a C none) ∧
  ∀ d, H2 d = none → d ≠ a → D.nx σ (upd (upd H2 a (exo a C (some d))) d (exd d [(f, y)]))
/-- C(e): a new error that bears its one field -/
def tMkE (C : Addr) (f : Str) (ta : TA) : TE := fun σ H Q => ta σ H fun vs H1 => ∃ y, vs = [y] ∧ ∀ a d, H1 a = none → H1 d = none → d ≠ a → Q (.ref a) (upd (upd H1 a (exo a C (some d))) d (exd d [(f, y)]))
section
variable {X : Cx} {o e : Expr} {to te : TE} {ta : TA} {f : Str} {p p' pos : Pos}
theorem ps_setE (ho : PE X o to) (he : PE X e te) (hs : swapsWith e (some (.Attribute o f p')) pos.line X.env = pure false := by rfl) : PS X (.Assign [.Attribute o f p'] e pos) (tSetE X.K f to te) := by
  refine ⟨fun pins s σ H D I h => ?_⟩
  refine plainObj_wpAny_Assign_Attribute (thn (he.run pins s σ H _ I h) fun v s1 ⟨y, H1, I1, r1, q1⟩ => ?_) hs
  refine thn (ho.run pins s1 σ H1 _ I1 q1) fun u s2 ⟨x, H2, I2, r2, a, C, fI, ex, T, no, ea, q⟩ => ?_
  subst ex
  obtain rfl : u = Value.ref a := r2
  exact store_first T no I2 ea r1 fun d s' nd ne J => ⟨σ, _, J, q d nd ne⟩
theorem pe_mkE {x : Str} {C fI : Addr} {k : Nat} {fd : FuncData} {ps : List Str} (T : EI X.K C fI) (no : PySem.W.findIn X.K (.ref C) f = some none) (F1 : FnG X.prog X.w X.K X.mg X.base k fI fd ps (spSet X.K C fI f)) (hc : Calm X.A) (hr : Room (k + 1) X.A) (hb : Binds X.K fd ps [])
    (hg : Gl X x) (hm : X.mg x = some (.ref C)) (ha : PA X [e] ta) (hdb : (x == ("__debug__" : Str)) = false := by decide) (he : starEach [e] X.env = (false, eval e X.env) :: starEach [] X.env := by rfl) (hpl : (backTo pos (starEach ([] : List Expr) X.env)).any (·.1) = false := by rfl) :
    PE X (.Call (.Name x p) [e] [] pos) (tMkE C f ta) := by
  refine ⟨fun pins s σ H Q I h => ?_⟩
  obtain ⟨B, newId, initId, bmB, bm, FB, ini, O⟩ := T.mak
  refine wpAny_Call_Name_kw (ld_glob I hg hm ?_ hdb)
  refine PySem.W.callWith_K (h₀ := X.base) I.ok.mod.kin T.kC (thn (ha.run pos pins s σ H _ I h) fun us s1 ⟨vs, H1, I1, r1, y, ev, q1⟩ => ⟨I1.kIn, ?_⟩) he hpl
  subst ev
  show wpAny _ _ (call (.ref C) us) _ _ _
  obtain ⟨v, rfl, r2⟩ := vals1 r1
  obtain ⟨nm, N, qn, bs, bm', hdct, sn, sub, ab, col, dd, k0, k1, k2, k3, k5, hC, same⟩ := PySem.W.excInit_of I1.kIn ini
  have O' : Over bm' B := ⟨(same B).trans O.base, (same _).trans O.attr, (same _).trans O.name⟩
  obtain ⟨hp, g, dr, tk, os⟩ := s1
  have sz : hp.objs.size ≤ hp.objs.size + 1 := Nat.le_succ _
  have n1 : H1 (hp.objs.size + 1) = none := I1.hok.fresh sz
  have keeps : ∀ b o, hp.get? b = some o → ((hp.push (PySem.W.kdv_tup [v])).push (PX.excO C hp.objs.size)).get? b = some o := fun b o e => Heap.get?_push_of_some _ (Heap.get?_push_of_some _ e)
  have at_x : ((hp.push (PySem.W.kdv_tup [v])).push (PX.excO C hp.objs.size)).get? (hp.objs.size + 1) = some (PX.excO C hp.objs.size) := by heap_get
  have I2 : Inv X pins σ (upd H1 (hp.objs.size + 1) (exo (hp.objs.size + 1) C none)) ⟨(hp.push (PySem.W.kdv_tup [v])).push (PX.excO C hp.objs.size), g, dr, tk, os⟩ :=
    I1.laid (t' := tk) (a := hp.objs.size + 1) (h' := (hp.push (PySem.W.kdv_tup [v])).push (PX.excO C hp.objs.size)) keeps sz (exo_ok at_x)
  have r3 : Vals [V.ref (hp.objs.size + 1), y] ([Value.ref (hp.objs.size + 1), v]) := .cons rfl (.cons r2 .nil)
  have pr : spSet X.K C fI f [V.ref (hp.objs.size + 1), y] (upd H1 (hp.objs.size + 1) (exo (hp.objs.size + 1) C none)) (fun z H2 => z = .non ∧ Q (.ref (hp.objs.size + 1)) H2) (fun _ _ _ => False) := by
    refine ⟨_, y, rfl, T, no, upd_same, fun d nd ne => ⟨rfl, ?_⟩⟩
    rw [upd_upd]
    rw [upd_ne ne] at nd
    exact q1 _ d n1 nd ne
  have len : [Value.ref (hp.objs.size + 1), v].length = ps.length := F1.count _ _ _ _ pr
  refine wpAny_call (calls_own FB O' hC (PySem.W.looks_findIn I1.kIn T.iC) (fun self => PySem.W.bind_fn I1.kIn self T.tI) (by show 1 ≤ sizeLine; decide) ?_)
  refine codeAny_mono (F1.goes _ X.stack _ _ ⟨[Value.ref (hp.objs.size + 1), v], []⟩ [Value.ref (hp.objs.size + 1), v] _ _ (fun _ _ _ => False) hc (hr.make C [v] []) (I2.env0.make C [v] []) (by simpa using hb _ [Value.ref (hp.objs.size + 1), v] I2.kIn (by simpa using len)) r3 pr) fun r s' hq => ?_
  match r, hq with
  | .error er, hq => exact pass0 pins σ _ _ er s' I2 hq
  | .ok (.ret u), hq =>
    obtain ⟨z, H2, os2, bare2, un2, hok2, rz, ez, q2⟩ := hq
    subst ez
    have e0 : u = Value.none := rz
    subst e0
    have J := I2.after (Q := fun z H2 => z = V.non ∧ Q (.ref (hp.objs.size + 1)) H2) ⟨.non, H2, os2, bare2, un2, hok2, rz, rfl, q2⟩
    obtain ⟨z', H3, J3, _, _, q3⟩ := J
    exact ⟨rfl, .ref (hp.objs.size + 1), H3, J3, rfl, q3⟩
  | .ok .next, hq => exact hq.elim
  | .ok .brk, hq => exact hq.elim
  | .ok .cont, hq => exact hq.elim
end
end Xm
set_option Elab.async false
set_option linter.all false
set_option autoImplicit false
set_option maxRecDepth 100000
set_option maxHeartbeats 4000000
/-! Xr: such an error raised. -/
namespace Xr
open PySem PySem.Spec PyProof.Rows L2 Vb Wd Xe Xk Xi Xm
def tRaE (C : Addr) (f : Str) (ta : TA) : L2.St → Hp → XK → Prop := fun σ H Q => ta σ H fun vs H1 => ∃ y, vs = [y] ∧ ∀ d, H1 d = none → Q (.ref C) (some d) (upd H1 d (.xd [(f, y)]))
section
variable {X : Cx} {e : Expr} {ta : TA} {f : Str} {p pos : Pos}
theorem pmk_E {x : Str} {C fI : Addr} {k : Nat} {fd : FuncData} {ps : List Str} (T : EI X.K C fI) (no : PySem.W.findIn X.K (.ref C) f = some none) (F1 : FnG X.prog X.w X.K X.mg X.base k fI fd ps (spSet X.K C fI f)) (hc : Calm X.A) (hr : Room (k + 1) X.A) (hb : Binds X.K fd ps [])
    (hg : Gl X x) (hm : X.mg x = some (.ref C)) (ha : PA X [e] ta) (hdb : (x == ("__debug__" : Str)) = false := by decide) (he : starEach [e] X.env = (false, eval e X.env) :: starEach [] X.env := by rfl) (hpl : (backTo pos (starEach ([] : List Expr) X.env)).any (·.1) = false := by rfl) :
    L2.PMk X (.Call (.Name x p) [e] [] pos) (tRaE C f ta) := by
  intro pins s σ H Q I h
  obtain ⟨B, newId, initId, bmB, bm, FB, ini, O⟩ := T.mak
  refine wpAny_Call_Name_kw (ld_glob I hg hm ?_ hdb)
  refine PySem.W.callWith_K (h₀ := X.base) I.ok.mod.kin T.kC (thn (ha.run pos pins s σ H _ I h) fun us s1 ⟨vs, H1, I1, r1, y, ev, q1⟩ => ⟨I1.kIn, ?_⟩) he hpl
  subst ev
  show wpAny _ _ (call (.ref C) us) _ _ _
  obtain ⟨v, rfl, r2⟩ := vals1 r1
  obtain ⟨nm, N, qn, bs, bm', hdct, sn, sub, ab, col, dd, k0, k1, k2, k3, k5, hC, same⟩ := PySem.W.excInit_of I1.kIn ini
  have O' : Over bm' B := ⟨(same B).trans O.base, (same _).trans O.attr, (same _).trans O.name⟩
  obtain ⟨hp, g, dr, tk, os⟩ := s1
  have sz : hp.objs.size ≤ hp.objs.size + 1 := Nat.le_succ _
  have n1 : H1 (hp.objs.size + 1) = none := I1.hok.fresh sz
  have keeps : ∀ b o, hp.get? b = some o → ((hp.push (PySem.W.kdv_tup [v])).push (PX.excO C hp.objs.size)).get? b = some o := fun b o e => Heap.get?_push_of_some _ (Heap.get?_push_of_some _ e)
  have at_x : ((hp.push (PySem.W.kdv_tup [v])).push (PX.excO C hp.objs.size)).get? (hp.objs.size + 1) = some (PX.excO C hp.objs.size) := by heap_get
  have I2 : Inv X pins σ (upd H1 (hp.objs.size + 1) (exo (hp.objs.size + 1) C none)) ⟨(hp.push (PySem.W.kdv_tup [v])).push (PX.excO C hp.objs.size), g, dr, tk, os⟩ :=
    I1.laid (t' := tk) (a := hp.objs.size + 1) (h' := (hp.push (PySem.W.kdv_tup [v])).push (PX.excO C hp.objs.size)) keeps sz (exo_ok at_x)
  have r3 : Vals [V.ref (hp.objs.size + 1), y] ([Value.ref (hp.objs.size + 1), v]) := .cons rfl (.cons r2 .nil)
  have pr : spSet X.K C fI f [V.ref (hp.objs.size + 1), y] (upd H1 (hp.objs.size + 1) (exo (hp.objs.size + 1) C none))
      (fun z H2 => z = .non ∧ ∃ d, H2 = upd (upd H1 (hp.objs.size + 1) (exo (hp.objs.size + 1) C (some d))) d (exd d [(f, y)]) ∧ H1 d = none ∧ d ≠ hp.objs.size + 1) (fun _ _ _ => False) := by
    refine ⟨_, y, rfl, T, no, upd_same, fun d nd ne => ⟨rfl, d, by rw [upd_upd], ?_, ne⟩⟩
    rw [upd_ne ne] at nd
    exact nd
  have len : [Value.ref (hp.objs.size + 1), v].length = ps.length := F1.count _ _ _ _ pr
  refine wpAny_call (calls_own FB O' hC (PySem.W.looks_findIn I1.kIn T.iC) (fun self => PySem.W.bind_fn I1.kIn self T.tI) (by show 1 ≤ sizeLine; decide) ?_)
  refine codeAny_mono (F1.goes _ X.stack _ _ ⟨[Value.ref (hp.objs.size + 1), v], []⟩ [Value.ref (hp.objs.size + 1), v] _ _ (fun _ _ _ => False) hc (hr.make C [v] []) (I2.env0.make C [v] []) (by simpa using hb _ [Value.ref (hp.objs.size + 1), v] I2.kIn (by simpa using len)) r3 pr) fun r s' hq => ?_
  match r, hq with
  | .error er, hq => exact pass0 pins σ _ _ er s' I2 hq
  | .ok (.ret u), hq =>
    obtain ⟨z, H2, os2, bare2, un2, hok2, rz, ez, d, e2, nd, ne⟩ := hq
    subst ez
    have e0 : u = Value.none := rz
    subst e0
    have ea : H2 (hp.objs.size + 1) = some (exo (hp.objs.size + 1) C (some d)) := by rw [e2, upd_ne ne.symm, upd_same]
    have ed : H2 d = some (exd d [(f, y)]) := by rw [e2, upd_same]
    have eq : upd (L2.del H2 (hp.objs.size + 1)) d (.xd [(f, y)]) = upd H1 d (.xd [(f, y)]) := by
      funext b
      by_cases h1 : b = d
      · subst h1
        rw [upd_same, upd_same]
      · rw [upd_ne h1, upd_ne h1]
        by_cases h2 : b = hp.objs.size + 1
        · subst h2
          rw [L2.del_same, n1]
        · rw [L2.del_ne h2, e2, upd_ne h1, upd_ne h2]
    obtain ⟨h2, g2, d2, t2, os'⟩ := s'
    exact ⟨rfl, mk_end (raises_own T.sub T.ty) I1 sz keeps un2 hok2 os2 bare2 ea ed nd (eq ▸ q1 d nd)⟩
  | .ok .next, hq => exact hq.elim
  | .ok .brk, hq => exact hq.elim
  | .ok .cont, hq => exact hq.elim
end
end Xr
set_option Elab.async false
set_option linter.all false
set_option autoImplicit false
set_option maxRecDepth 100000
set_option maxHeartbeats 4000000
/-! Xt: try: .. except C1 as n1: .. except C2 as n2: .. -/
namespace Xt
open PySem PySem.Spec PyProof.Rows L2 Vb
/-- one clause: its class, its name's place, what its suite reads -/
structure Cl where
  cls : Value
  at_ : Nat
  ts : Addr → Value → Option Addr → TS
/-- behind a suite its name is gone -/
def gone (i : Nat) (D : Ends) : Ends := { nx := fun σ H => D.nx (σ.set i none) H, rt := D.rt, bk := fun σ H => D.bk (σ.set i none) H, ct := fun σ H => D.ct (σ.set i none) H }
/-- what the clauses wish of what the body raised -/
def wCl (K : PySem.W.Frag) (out : WX) (D : Ends) : List Cl → WX
  | [] => out
  | c :: r => fun cls d σ H => ∃ b, PySem.W.exmOne K cls c.cls = some b ∧ (b = true → ∀ a, H a = none → c.ts a cls d (gone c.at_ D) (σ.set c.at_ (some (.ref a))) H) ∧ (b = false → wCl K out D r cls d σ H)
inductive Cls (X : Cx) : List ExceptHandler → List Cl → Prop
  | nil : Cls X [] []
  | cons {x n : Str} {c : Value} {i : Nat} {ts : Addr → Value → Option Addr → TS} {b₀ : Stmt} {suite : List Stmt} {p1 p2 : Pos} {hs : List ExceptHandler} {l : List Cl} (nc : Names X x c) (ni : X.N[i]? = some n) (ln : X.env.kindOf n = some .local)
      (su : ∀ (a : Addr) (oe : Obj) (cls : Value) (d : Option Addr) (pn : List (Addr × Obj)), Zc cls d oe → (∃ vs, oe.data = .fields vs) → PSs (X.suite a ((a, oe) :: pn)) (b₀ :: suite) (ts a cls d)) (r : Cls X hs l) :
      Cls X (.ExceptHandler (some (.Name x p1)) (some n) (b₀ :: suite) p2 :: hs) (⟨c, i, ts⟩ :: l)
section
variable {X : Cx} {body : List Stmt} {h0 : ExceptHandler} {hds : List ExceptHandler} {l : List Cl} {pos : Pos} {tb : WX → TS} {out : WX}
theorem ps_tries (hs : X.stack = X.env :: X.outer) (hf : X.env.frame = some X.env.locals) (hN : X.N.Nodup) (tk : Takes X out)
    (hb : ∀ (W : WX) (pn : List (Addr × Obj)) (xe : Value → Shared → Prop), Takes (X.tr pn xe) W → PassesOwn (model X.prog X.w) X.A X.env xe → PSs (X.tr pn xe) body (tb W)) (cl : Cls X (h0 :: hds) l) :
    PS X (.Try body (h0 :: hds) [] [] pos) (fun D σ H => tb (wCl X.K out D l) D σ H) := by
  refine ⟨fun pins s σ H D I h => ?_⟩
  have ok := I.ok
  have frames : X.A.frames = some (X.env :: X.outer) := by rw [ok.frames, hs]
  let caught : Value → Shared → Prop := fun e s₁ => wpAny (model X.prog X.w) X.A (noteFrame e X.env)
    (fun _ s₂ => wpAny (model X.prog X.w) X.A (setFlight e none) (fun _ s₃ => wpAny (model X.prog X.w) X.A (handleBy e X.env (h0 :: hds)) (SP X pins D) X.xe s₃) X.xe s₂) X.xe s₁
  refine wpAny_Try_except (wpAny_mono ((hb (wCl X.K out D l) (X.pn ++ pins) caught (fun u s' xx => ?_) PassesOwn.looking).run [] s σ H D (I.toTry _) h) (fun f s1 hsp => ?_) (fun e s1 he => he))
  · obtain ⟨a, B, sI, pins', σ', H', cls, d, rfl, J', nb, up, sky, na, os, ag, w⟩ := xx
    have J : Inv X pins σ' H' sI := J'.ofTry ok
    have sky' : Sky B (X.env :: X.outer) a (Zc cls d) X.env.locals s'.heap := hs ▸ sky
    show wpAny (model X.prog X.w) X.A (noteFrame (.ref a) X.env) _ _ _
    refine Sky.land Zc.steady frames hf sky' fun h3 fl3 up3 => ?_
    have J3 : Inv X pins σ' H' { s' with heap := h3 } := J.landed nb fl3.1 (up.trans up3) os ag
    obtain ⟨oe3, vs3, he3, hz3, hd3⟩ := fl3.there
    have off : a ∉ frs (X.env :: X.outer) := fun hm => by
      obtain ⟨_, o', e', hnf⟩ := fl3.2.2.1.mem hm
      rw [he3] at e'
      cases e'
      exact hnf _ hd3
    have nL : a ≠ X.env.locals := fun z => off (List.mem_filterMap.mpr ⟨X.env, List.mem_cons_self, by rw [hf, z]⟩)
    have nF : a ∉ X.fs := fun hm => by
      obtain ⟨e, he, q⟩ := List.mem_filterMap.mp hm
      exact off (List.mem_filterMap.mpr ⟨e, List.mem_cons_of_mem _ he, q⟩)
    have S3 := J3.suite he3 hd3 na nL nF
    have go : ∀ {hds' : List ExceptHandler} {l' : List Cl}, Cls X hds' l' → wCl X.K out D l' cls d σ' H' → wpAny (model X.prog X.w) X.A (handleBy (.ref a) X.env hds') (SP X pins D) X.xe { s' with heap := h3 } := by
      intro hds' l' hk
      induction hk with
      | nil =>
        intro w
        obtain ⟨k1, k2, k3, oe, vs, T, oT, ts', he, hz, hd, h1, hr⟩ := id fl3
        refine wpAny_handleBy_nil ?_
        unfold PySem.passOn
        refine wpAny_bind (wpAny_field he hd h1 ?_)
        rw [if_neg (by simp : ¬ ((Value.ref T == Value.none) = true))]
        have fin : wpAny (model X.prog X.w) X.A (setFlight (.ref a) X.env.frame) (fun _ s4 => wpAny (model X.prog X.w) X.A (throw (.ref a) : Sem Flow) (SP X pins D) X.xe s4) X.xe { s' with heap := h3 } := by
          rw [hf]
          refine HandSPX.setFlight_upZ fl3 fun h4 hh4 up4 => wpAny_throw (tk _ _ ?_)
          exact ⟨a, B, sI, pins, σ', H', cls, d, rfl, J, nb, (up.trans up3).trans up4, .inr (.inr (hs.symm ▸ hh4)), na, os, ag, w⟩
        first
        | exact wpAny_bind (wpAny_pure (wpAny_bind fin))
        | exact wpAny_bind fin
      | @cons x n c i ts b₀ suite p1 p2 hds2 l2 nc ni ln su r ih =>
        intro w
        obtain ⟨b, hb1, yes, no⟩ := w
        refine wpAny_handleBy_cons (codeAny_handlers_test ?_) (by intro q; cases q)
        have tyA : PySem.W.Looks (model X.prog X.w) h3 (typeOf (.ref a)) cls := fun A Q E s k q => wpAny_typeOf_ref (k _ _ he3) (by rw [hz3.1]; exact q)
        have mt := PySem.W.exm_one (M := model X.prog X.w) J3.kIn tyA hb1
        have test : ∀ {Q : Value → Shared → Prop} {E : Value → Shared → Prop}, Q c { s' with heap := h3 } → wpAny (model X.prog X.w) (X.A.mark (some (.ref a))) (eval (.Name x p1) X.env) Q E { s' with heap := h3 } := fun {Q E} q => by
          obtain ⟨hg, hdbg, hm | ⟨hm, hv, hnn⟩⟩ := nc
          · exact ld_glob (X := X.suite a ((a, oe3) :: (X.pn ++ pins))) S3 hg hm q hdbg
          · exact ld_blt (X := X.suite a ((a, oe3) :: (X.pn ++ pins))) S3 hg hm hv q hnn hdbg
        refine test (mt.here ?_)
        cases b with
        | false =>
          show wpAny _ X.A (handleBy (.ref a) X.env hds2) _ _ _
          exact ih (no rfl)
        | true =>
          refine codeAny_handlers_suite_as (HandSPX.lands_againZ fl3 fun h4 fl4 up4 => ?_)
          have J4 : Inv X pins σ' H' { s' with heap := h4 } := J.landed nb fl4.1 ((up.trans up3).trans up4) os ag
          obtain ⟨oe4, vs4, he4, hz4, hd4⟩ := fl4.there
          have S4 := J4.suite he4 hd4 na nL nF
          refine store_ok (X := X.suite a ((a, oe4) :: (X.pn ++ pins))) (v := .ref a) S4 hN ni (.inl ln) rfl (fun s5 S5 => ?_) (.inr ln)
          refine wpAny_mono ((su a oe4 cls d (X.pn ++ pins) hz4 ⟨_, hd4⟩).run [] s5 _ H' _ S5 (yes rfl a na)) (fun f s6 hsp => ?_) (fun _ _ z => z.elim)
          have away : ∀ {σ6 : L2.St} {H6 : Hp} {Q : Shared → Prop}, Inv (X.suite a ((a, oe4) :: (X.pn ++ pins))) [] σ6 H6 s6 → (∀ s7, Inv X pins (σ6.set i none) H6 s7 → Q s7) →
              wpAny (model X.prog X.w) X.A (do bindName X.env n .none; unbindBehindTheSuite X.env n p2) (fun _ s7 => Q s7) X.xe s6 := fun {σ6 H6 Q} S6 hq => gone_ok (S6.unsuite ok) hN ni ln hq
          cases f with
          | ret u =>
            obtain ⟨v6, σ6, H6, S6, r6, q6⟩ := hsp
            exact away S6 fun s7 J7 => ⟨_, _, _, J7, r6, q6⟩
          | next =>
            obtain ⟨σ6, H6, S6, q6⟩ := hsp
            exact away S6 fun s7 J7 => ⟨_, _, J7, q6⟩
          | brk =>
            obtain ⟨σ6, H6, S6, q6⟩ := hsp
            exact away S6 fun s7 J7 => ⟨_, _, J7, q6⟩
          | cont =>
            obtain ⟨σ6, H6, S6, q6⟩ := hsp
            exact away S6 fun s7 J7 => ⟨_, _, J7, q6⟩
    exact go cl w
  · cases f with
    | ret u =>
      obtain ⟨v, σ', H', J', r, q⟩ := hsp
      exact ⟨v, σ', H', J'.ofTry ok, r, q⟩
    | next =>
      obtain ⟨σ', H', J', q⟩ := hsp
      exact wpAny_execs_nil ⟨σ', H', J'.ofTry ok, q⟩
    | brk =>
      obtain ⟨σ', H', J', q⟩ := hsp
      exact ⟨σ', H', J'.ofTry ok, q⟩
    | cont =>
      obtain ⟨σ', H', J', q⟩ := hsp
      exact ⟨σ', H', J'.ofTry ok, q⟩
end
end Xt
set_option Elab.async false
set_option linter.all false
set_option autoImplicit false
set_option maxRecDepth 100000
set_option maxHeartbeats 4000000
/-! Xp: defs that are asked of the error in hand, within an except suite. -/
namespace Xp
open PySem PySem.Spec PyProof.Rows L2 Vb Xe L2H
/-- a promise about the error in hand -/
structure FnP (P : Program) (w : World) (K : PySem.W.Frag) (mg : Str → Option Value) (base : Heap) (k : Nat) (f : Addr) (fd : FuncData) (ps : List Str) (sp : Addr × Obj → Sp) : Prop where
  count : ∀ p vs H Q E, sp p vs H Q E → vs.length = ps.length
  goes : ∀ (A : Around) (outer : List Env) (s : Shared) (H : Hp) (args : Args) (us : List Value) (vs : List V) (Q : VK) (E : XK) (p : Addr × Obj), Calm A → RoomH k A → PinOk outer H s p → Env0 P w K mg base A outer s H → BindsTo s fd args (ps.zip us) →
    Vals vs us → sp p vs H Q E → codeAny (model P w) A (.call (.ref f) args) (CR CX0 outer P w H s Q E) s
section
variable {P : Program} {w : World} {K : PySem.W.Frag} {mg : Str → Option Value} {base : Heap}
theorem goes_hot {x qual : Str} {st : Stmt} {f : Addr} {fd : FuncData} {N ps : List Str} {k : Nat} {sp : Addr × Obj → Sp} (F : Fun K x qual st f fd) (S : FnScope N ps (defScope st)) (len : ∀ p vs H Q E, sp p vs H Q E → vs.length = ps.length)
    (body : ∀ (cdv : Value) (A : Around) (outer : List Env) (s : Shared) (H : Hp) (vs : List V) (Q : VK) (E : XK) (p : Addr × Obj), Calm (A.deeper (envOfC qual (defScope st) s.heap.objs.size f cdv)) → RoomH k (A.deeper (envOfC qual (defScope st) s.heap.objs.size f cdv)) → sp p vs H Q E →
      ∃ t, PSs (cxH CX0 P w K mg base N qual (defScope st) f cdv A outer s H E p).nox (defBody st) t ∧ t { nx := fun _ H' => Q .non H', rt := Q } (start N vs) H) : FnP P w K mg base (k + 1) f fd ps sp := by
  obtain ⟨oc, od, kV, doc, pm, an, cdv, ct, osl, rfl, lk, hcd⟩ := F.ex
  refine ⟨len, fun A outer s H args us vs Q E p hc hr hp e0 hb r hsp => ?_⟩
  have hl := len _ _ _ _ _ hsp
  have KX : K.In s.heap := e0.mod.kin.keeps fun b o e => (e0.bs b o e).1
  have lim : s.heap.NoLimit := e0.mod.nolimit.keeps fun b o e => (e0.bs b o e).1
  have kinds : ∀ y ∈ ps.zip us, (defScope st).names.lookup y.1 = some .local ∨ ((defScope st).names.lookup y.1 = some .cell ∧ ((cellsFrom (s.heap.objs.size + 1) (defScope st).names []).lookup y.1).isSome = true) := by
    intro y hy
    obtain ⟨n, v⟩ := y
    exact (S.par n (List.of_mem_zip hy).1).imp id fun q => ⟨q, PySem.W.cellsFrom_some _ _ _ (Or.inl q)⟩
  refine codeAny_call_function hr.depth (KX _ _ lk) rfl S.co S.gen rfl (PySem.W.codeRec_of KX hcd) (hb _ _ _ _ ?_)
  refine wpAny_newFunctionEnv_cells S.kind kinds fun env he s1 x => ?_
  cases he
  refine ⟨lim.keeps x.toInCall.keep, codeAny_func ?_⟩
  obtain ⟨t, ht, hq⟩ := body cdv A outer s H vs Q E p (hc.deep _) (hr.deeper _) hsp
  have I := inv_startH (CX := CX0) (E := E) S hp e0 hl r x
  refine wpAny_mono (ht.nox.run [] s1 (start N vs) H _ I hq) (fun fl s' hs => ?_) (fun _ _ z => z)
  cases fl with
  | brk => exact hs.elim fun _ z => z.elim fun _ z => z.2.elim
  | cont => exact hs.elim fun _ z => z.elim fun _ z => z.2.elim
  | ret u =>
    obtain ⟨v, σ', H', J, rv, q⟩ := hs
    exact ⟨v, H', J.os, J.bare, J.base, J.hok, rv, q⟩
  | next =>
    obtain ⟨σ', H', J, q⟩ := hs
    exact ⟨V.non, H', J.os, J.bare, J.base, J.hok, rfl, q⟩
end
section
variable {X : Cx} {k : Nat} {f : Addr} {fd : FuncData} {ps : List Str} {sp : Addr × Obj → Sp} {x : Str} {p pos : Pos} {e : Expr} {es : List Expr} {t : TA} {h : Addr × Obj}
/-- f(e, ..) of the error in hand -/
theorem pe_callP (F : FnP X.prog X.w X.K X.mg X.base k f fd ps sp) (hh : h ∈ X.pn) (hc : Calm X.A) (hr : RoomH k X.A) (hg : Gl X x) (hm : X.mg x = some (.ref f)) (hk : PySem.W.keepIn X.K (.ref f) = true) (hb : Binds X.K fd ps []) (ha : PA X (e :: es) t)
    (hdb : (x == ("__debug__" : Str)) = false := by decide) (he : starEach (e :: es) X.env = (false, eval e X.env) :: starEach es X.env := by rfl) (hpl : (backTo pos (starEach es X.env)).any (·.1) = false := by rfl) :
    PE X (.Call (.Name x p) (e :: es) [] pos) (tCall (sp h) [] E0 t) := by
  refine ⟨fun pins s σ H Q I hw => wpAny_Call_Name_kw (ld_glob I hg hm ?_ hdb)⟩
  refine PySem.W.callWith_K (h₀ := X.base) I.ok.mod.kin hk (thn (ha.run pos pins s σ H _ I hw) fun us s1 ⟨vs, H1, I1, r, q⟩ => ⟨I1.kIn, ?_⟩) he hpl
  have q : sp h vs H1 Q E0 := by
    have q' : sp h (vs ++ []) H1 Q E0 := q
    rw [List.append_nil] at q'
    exact q'
  have hl : us.length = ps.length := r.length ▸ F.count _ _ _ _ _ q
  have b := hb s1 us I1.kIn (by rw [List.append_nil]; exact hl)
  rw [List.append_nil] at b
  have P1 := I1.pin h (List.mem_append_left _ hh)
  have pin : PinOk X.stack H1 s1 h := ⟨P1.1, P1.2.1, fun hm => (List.mem_cons.mp (I1.stkSub h.1 hm)).elim P1.2.2.1 P1.2.2.2.1, P1.2.2.2.2⟩
  refine wpAny_call (codeAny_mono (F.goes X.A X.stack s1 H1 ⟨us, []⟩ us vs Q E0 h hc hr pin I1.env0 b r q) fun r s' hq => ?_)
  match r, hq with
  | .error er, hq => exact pass0 pins σ H1 s1 er s' I1 hq
  | .ok (.ret u), hq => exact I1.after hq
  | .ok .next, hq => exact hq.elim
  | .ok .brk, hq => exact hq.elim
  | .ok .cont, hq => exact hq.elim
/-- isinstance(e, c), e the error in hand -/
def rIsP (K : PySem.W.Frag) (h : Addr × Obj) (d : Option Addr) : List V → Hp → VK → Prop := fun xs H Q => ∃ (C : Addr) (c : V) (u : Value) (b : Bool), xs = [.ref h.1, c] ∧ ClsV c u ∧ EC K C ∧ Zc (.ref C) d h.2 ∧ (∀ dd, d = some dd → ∃ fs, H dd = some (.xd fs)) ∧
  PySem.W.kitOne K (.ref C) u = some b ∧ Q (.bl b) H
theorem cr_isP {d : Option Addr} (hh : h ∈ X.pn) (hf : ∃ vs, h.2.data = .fields vs) : CallR X (.builtin "isinstance") (rIsP X.K h d) := by
  intro pins s σ H xs us Q I r hw
  obtain ⟨C, c, u, b, rfl, k, T, hz, hd, e, q⟩ := hw
  obtain ⟨u1, u2, rfl, r1, r2⟩ := vals2 r
  cases (show u1 = Value.ref h.1 from r1)
  have e2 := k.eq r2
  subst e2
  obtain ⟨cd, hcl, _⟩ := PySem.W.any_some T.hd
  obtain ⟨at_, _⟩ := I.pin h (List.mem_append_left _ hh)
  obtain ⟨vs, hv⟩ := hf
  have J : ∃ od, PySem.W.InstAt s.heap h.1 h.2 C od := by
    have no : PySem.W.notCls h.2 = true := by unfold PySem.W.notCls; rw [hv]
    cases d with
    | none => exact ⟨none, at_, hz.1, no, by rw [hz.2]; trivial⟩
    | some dd =>
      obtain ⟨fs, ea⟩ := hd dd rfl
      obtain ⟨mA, hns, _⟩ := (show ObjOk X.prog X.w H s.heap dd (.xd fs) from I.hok dd _ ea)
      obtain ⟨od, ho, _⟩ := lookIn_ns hns
      exact ⟨some od, at_, hz.1, no, by rw [hz.2]; exact ho⟩
  obtain ⟨od, J⟩ := J
  exact PySem.W.kia_one (PySem.W.kitx_exc (by rw [hcl]; rfl) T.ga T.gt T.sub T.ca T.sp T.tk T.mo) I.kIn J e (fun z => nomatch z) fun tk => ⟨.bl b, H, I.tok tk, rfl, q⟩
end
end Xp
set_option Elab.async false
set_option linter.all false
set_option autoImplicit false
set_option maxRecDepth 100000
set_option maxHeartbeats 4000000
/-! Gd: expressions that yield data: none, bools, ints, texts, lists, tuples of such. -/
namespace Gd
open PySem PySem.Spec PyProof.Rows L2 Vb Wd
variable {K : PySem.W.Frag}
theorem seqL_same {H H' : Hp} {a : Addr} {xs : List V} (s : Same H H') (h : SqL K H a xs) : SqL K H' a xs := s.seq h
theorem seqT_same {H H' : Hp} {a : Addr} {xs : List V} (s : Same H H') (h : SqT K H a xs) : SqT K H' a xs := by
  rcases h with (h | h) | h
  · exact .inl (.inl (s _ _ h))
  · obtain ⟨o, e⟩ := h
    exact .inl (.inr ⟨o, s _ _ e⟩)
  · exact .inr h
mutual
theorem Dp.same {H H' : Hp} (s : Same H H') : ∀ (d : PyData) (v : V), Dp K H v d → Dp K H' v d
  | .none, _, h => by cases h; exact .non
  | .bool b, _, h => by cases h; exact .bl b
  | .int i, _, h => by cases h; exact .int i
  | .str x, _, h => by cases h; exact .str x
  | .list ds, _, h => by
    cases h with
    | lst a b => exact .lst (seqL_same s a) (Dp.sameAll s ds _ b)
  | .tuple ds, _, h => by
    cases h with
    | tup a b => exact .tup (seqT_same s a) (Dp.sameAll s ds _ b)
  | .dict kvs, _, h => by cases h
theorem Dp.sameAll {H H' : Hp} (s : Same H H') : ∀ (ds : List PyData) (vs : List V), DpAll K H vs ds → DpAll K H' vs ds
  | [], _, h => by cases h; exact .nil
  | d :: ds, _, h => by
    cases h with
    | cons a b => exact .cons (Dp.same s d _ a) (Dp.sameAll s ds _ b)
end
theorem dpAll_app {H : Hp} : ∀ {xs : List V} {ds : List PyData} {ys : List V} {es : List PyData}, DpAll K H xs ds → DpAll K H ys es → DpAll K H (xs ++ ys) (ds ++ es)
  | _, _, _, _, .nil, b => b
  | _, _, _, _, .cons a r, b => .cons a (dpAll_app r b)
theorem dpAll_len {H : Hp} : ∀ {xs : List V} {ds : List PyData}, DpAll K H xs ds → xs.length = ds.length
  | _, _, .nil => rfl
  | _, _, .cons _ r => by rw [List.length_cons, List.length_cons, dpAll_len r]
theorem dpAll_strs {H : Hp} : ∀ l : List Str, DpAll K H (l.map V.str) (l.map PyData.str)
  | [] => .nil
  | y :: l => .cons (.str y) (dpAll_strs l)
/-- the expression yields data that reads d, now and later; all that is tracked stays -/
def GivesD (K : PySem.W.Frag) (t : TE) (σ : L2.St) (H : Hp) (d : PyData) : Prop := ∀ H1 Q, Same H H1 → (∀ v H', Same H1 H' → Dp K H' v d → Q v H') → t σ H1 Q
/-- .. a new list -/
def GivesN (K : PySem.W.Frag) (t : TE) (σ : L2.St) (H : Hp) (ds : List PyData) : Prop := ∀ H1 Q, Same H H1 → (∀ p Hb xs, Same H1 Hb → Hb p = none → DpAll K Hb xs ds → Q (.ref p) (upd Hb p (.lst xs))) → t σ H1 Q
/-- .. several values -/
def GivesA (K : PySem.W.Frag) (t : TA) (σ : L2.St) (H : Hp) (ds : List PyData) : Prop := ∀ H1 Q, Same H H1 → (∀ vs H', Same H1 H' → DpAll K H' vs ds → Q vs H') → t σ H1 Q
section
variable {σ : L2.St} {H : Hp}
theorem GivesD.mono {t : TE} {d : PyData} {H0 : Hp} (g : GivesD K t σ H0 d) (s : Same H0 H) : GivesD K t σ H d := fun H1 Q s1 k => g H1 Q (s.trans s1) k
theorem gd_nil : GivesA K tNil σ H [] := fun H1 Q s k => k [] H1 (Same.refl _) .nil
theorem gd_cons {t : TE} {ts : TA} {d : PyData} {ds : List PyData} (a : GivesD K t σ H d) (b : GivesA K ts σ H ds) : GivesA K (tCons t ts) σ H (d :: ds) := fun H1 Q s k =>
  a H1 _ s fun v H2 s2 h2 => b H2 _ (s.trans s2) fun vs H3 s3 h3 => k (v :: vs) H3 (s2.trans s3) (.cons (Dp.same s3 d v h2) h3)
theorem gd_str {x : Str} : GivesD K (tC (.str x)) σ H (.str x) := fun H1 Q s k => k _ H1 (Same.refl _) (.str x)
theorem gd_int {i : Int} : GivesD K (tC (.int i)) σ H (.int i) := fun H1 Q s k => k _ H1 (Same.refl _) (.int i)
theorem gd_non : GivesD K (tC .non) σ H .none := fun H1 Q s k => k _ H1 (Same.refl _) .non
theorem gd_bl {b : Bool} : GivesD K (tC (.bl b)) σ H (.bool b) := fun H1 Q s k => k _ H1 (Same.refl _) (.bl b)
theorem gd_var {i : Nat} {v : V} {d : PyData} (h : σ[i]? = some (some v)) (r : Dp K H v d) : GivesD K (tVar i) σ H d := fun H1 Q s k => ⟨v, h, k v H1 (Same.refl _) (Dp.same s d v r)⟩
theorem gd_lst {t : TA} {ds : List PyData} (g : GivesA K t σ H ds) (few : ds.length ≤ sizeLine) : GivesN K (tLst t) σ H ds := fun H1 Q s k =>
  g H1 _ s fun vs H2 s2 h2 => ⟨by rw [dpAll_len h2]; exact few, fun p np => k p H2 vs s2 np h2⟩
theorem gd_tup {t : TA} {ds : List PyData} (g : GivesA K t σ H ds) (few : ds.length ≤ sizeLine) : GivesD K (tTup t) σ H (.tuple ds) := fun H1 Q s k =>
  g H1 _ s fun vs H2 s2 h2 => ⟨by rw [dpAll_len h2]; exact few, fun p np => k (.ref p) _ (s2.trans (same_new np)) (.tup (.inl (.inl upd_same)) (Dp.sameAll (same_new np) ds vs h2))⟩
theorem GivesN.data {t : TE} {ds : List PyData} (g : GivesN K t σ H ds) : GivesD K t σ H (.list ds) := fun H1 Q s k =>
  g H1 _ s fun p Hb xs s2 np h => k (.ref p) _ (s2.trans (same_new np)) (.lst (.inl (.inl upd_same)) (Dp.sameAll (same_new np) ds xs h))
theorem gd_cat {t u : TE} {ds es : List PyData} (a : GivesN K t σ H ds) (b : GivesN K u σ H es) (few : ds.length + es.length ≤ sizeLine) : GivesN K (tOp rCat t u) σ H (ds ++ es) := fun H1 Q s k =>
  a H1 _ s fun p Hb xs s2 np h => b _ _ (s.trans (s2.trans (same_new np))) fun q Hc ys s3 nq h' => by
    have sq := same_new (o := .lst ys) nq
    have sp := same_new (o := .lst xs) np
    refine ⟨p, q, xs, ys, rfl, rfl, sq _ _ (s3 _ _ upd_same), upd_same, by rw [dpAll_len h, dpAll_len h']; exact few, fun r nr => k r _ _ (((s2.trans sp).trans s3).trans sq) nr (dpAll_app (Dp.sameAll ((sp.trans s3).trans sq) ds xs h) (Dp.sameAll sq es ys h'))⟩
theorem gd_catV {i : Nat} {p : Addr} {xs : List V} {u : TE} {ds es : List PyData} (h : σ[i]? = some (some (.ref p))) (e : H p = some (.lst xs)) (r : DpAll K H xs ds) (b : GivesN K u σ H es) (few : ds.length + es.length ≤ sizeLine) : GivesN K (tOp rCat (tVar i) u) σ H (ds ++ es) := fun H1 Q s k =>
  ⟨.ref p, h, b _ _ s fun q Hc ys s3 nq h' => by
    have sq := same_new (o := .lst ys) nq
    exact ⟨p, q, xs, ys, rfl, rfl, sq _ _ (s3 _ _ (s _ _ e)), upd_same, by rw [dpAll_len r, dpAll_len h']; exact few, fun z nz => k z _ _ (s3.trans sq) nz (dpAll_app (Dp.sameAll ((s.trans s3).trans sq) ds xs r) (Dp.sameAll sq es ys h'))⟩⟩
theorem asg_new {te : TE} {g : TG} {rest : TS} {D : Ends} {ds : List PyData} (G : GivesN K te σ H ds) (k : ∀ p Hb xs, Same H Hb → Hb p = none → DpAll K Hb xs ds → g (.ref p) σ (upd Hb p (.lst xs)) (fun σ2 H2 => rest D σ2 H2)) : tSeq (tAsg te g) rest D σ H := G H _ (Same.refl _) k
theorem ret_new {te : TE} {D : Ends} {ds : List PyData} (G : GivesN K te σ H ds) (k : ∀ p Hb xs, Same H Hb → Hb p = none → DpAll K Hb xs ds → D.rt (.ref p) (upd Hb p (.lst xs))) : tRet te D σ H := G H _ (Same.refl _) k
theorem ret_data {te : TE} {D : Ends} {d : PyData} (G : GivesD K te σ H d) (k : ∀ v H', Same H H' → Dp K H' v d → D.rt v H') : tRet te D σ H := G H _ (Same.refl _) k
end
end Gd
set_option Elab.async false
set_option linter.all false
set_option autoImplicit false
set_option maxRecDepth 100000
set_option maxHeartbeats 4000000
namespace K02
open PySem PySem.Spec PyProof.Rows L2 Vb Wd Xe Xi Xm
def topS (i : Nat) : Stmt := PySem.Challenge.pw_mendbooks_k02_errors.main.body.getD i (.Pass ⟨0, 0, 0, 0⟩)
/-! ### the nineteen classes -/
def nm : Nat → Str
  | 0 => "MendError" | 1 => "InvalidName" | 2 => "InvalidForm" | 3 => "InvalidScheme" | 4 => "InvalidPicture" | 5 => "InvalidDrawing" | 6 => "InvalidBook" | 7 => "InvalidShape" | 8 => "InvalidPaper" | 9 => "InvalidOperation"
  | 10 => "ParseError" | 11 => "UnknownName" | 12 => "AbsentKey" | 13 => "UnknownPath" | 14 => "NoMend" | 15 => "InvalidNumber" | 16 => "NothingToUndo" | 17 => "TooMany" | _ => "Refused"
def wd : Nat → Str
  | 0 => "mend" | 1 => "name" | 2 => "form" | 3 => "scheme" | 4 => "picture" | 5 => "drawing" | 6 => "book" | 7 => "shape" | 8 => "paper" | 9 => "operation"
  | 10 => "parse" | 11 => "unknown" | 12 => "absent" | 13 => "path" | 14 => "where" | 15 => "number" | 16 => "undo" | 17 => "many" | _ => "refused"
def bn : Nat → String
  | 0 => "ValueError" | 1 => "KeyError" | 2 => "IndexError" | 3 => "LookupError" | 4 => "RuntimeError" | 5 => "OverflowError" | _ => "ArithmeticError"
/-- is class i derived from class j -/
def tab (i j : Nat) : Bool := i == j || (j == 0 && decide (i ≤ 10))
def tabB (i j : Nat) : Bool := match j with
  | 0 => decide (i ≤ 10)
  | 1 => i == 11 || i == 12
  | 2 => i == 15
  | 3 => decide (11 ≤ i) && decide (i ≤ 15)
  | 4 => i == 16
  | 5 => i == 17
  | _ => i == 17 || i == 18
/-- the classes as they stand in the written part -/
structure Tab (K : PySem.W.Frag) (mg : Str → Option Value) (C : Nat → Addr) : Prop where
  g : ∀ i, i < 19 → mg (nm i) = some (.ref (C i))
  ec : ∀ i, i < 19 → EC K (C i)
  own : ∀ i j, i < 19 → j < 19 → PySem.W.kitOne K (.ref (C i)) (.ref (C j)) = some (tab i j)
  blt : ∀ i j, i < 19 → j < 7 → PySem.W.kitOne K (.ref (C i)) (.type (bn j)) = some (tabB i j)
def one (b : Bool) (w : Str) : List Str := if b then [w] else []
def own (i : Nat) : Nat → List Str
  | 0 => one (tab i 0) (wd 0)
  | n + 1 => own i n ++ one (tab i (n + 1)) (wd (n + 1))
def kinds (i : Nat) : Nat → List Str
  | 0 => own i 18
  | n + 1 => kinds i n ++ one (tabB i n) (.ofString (bn n))
/-! ### lists of texts, exactly -/
def LS (H : Hp) (p : Addr) (L : List Str) : Prop := H p = some (.lst (L.map V.str))
theorem LS.same {H H' : Hp} {p : Addr} {L : List Str} (h : LS H p L) (s : Same H H') : LS H' p L := s _ _ h
/-- the expression makes such a list, now and later -/
def Gives (t : TE) (σ : L2.St) (H : Hp) (L : List Str) : Prop := ∀ H1 Q, Same H H1 → (∀ p H', Same H1 H' → LS H' p L → Q (.ref p) H') → t σ H1 Q
def rInt1 : List V → Hp → VK → Prop := fun xs H Q => (∃ i, xs = [.int i] ∧ Q (.int i) H) ∨ ∃ k, xs = [.bl k] ∧ Q (.int (if k then 1 else 0)) H
section
variable {X : Cx} {σ : L2.St} {H : Hp}
theorem cr_int1 : CallR X (.type "int") rInt1 := call_int1
theorem gives_plus {t u : TE} {L M : List Str} (a : Gives t σ H L) (b : Gives u σ H M) (few : L.length + M.length ≤ sizeLine) : Gives (tOp rCat t u) σ H (L ++ M) := by
  intro H1 Q s k
  refine a H1 _ s fun p H2 s2 l2 => b H2 _ (s.trans s2) fun q H3 s3 l3 => ?_
  refine ⟨p, q, _, _, rfl, rfl, l2.same s3, l3, by rw [List.length_map, List.length_map]; exact few, fun r nr => k r _ ((s2.trans s3).trans (same_new nr)) ?_⟩
  show upd H3 r _ r = _
  rw [upd_same, List.map_append]
theorem gives_var {i : Nat} {p : Addr} {L : List Str} (h : σ[i]? = some (some (.ref p))) (l : LS H p L) : Gives (tVar i) σ H L := fun H1 Q s k => ⟨_, h, k p H1 (Same.refl _) (l.same s)⟩
theorem gives_rep {v c : V} {w : Str} {b : Bool} {r : List V → Hp → VK → Prop} (h : σ[0]? = some (some v)) (ask : ∀ H1 Q, Same H H1 → Q (.bl b) H1 → r [v, c] H1 Q) :
    Gives (tOp rRep (tLst (tCons (tC (.str w)) tNil)) (tCB rInt1 (tCons (tCB r (tCons (tVar 0) (tCons (tC c) tNil))) tNil))) σ H (one b w) := by
  intro H1 Q s k
  refine ⟨by show 1 ≤ sizeLine; decide, fun p np => ⟨v, h, ask _ _ (s.trans (same_new np)) (.inr ⟨b, rfl, p, _, _, rfl, rfl, upd_same, ?_, ?_, ?_, fun q nq => k q _ ((same_new np).trans (same_new nq)) ?_⟩)⟩⟩
  · cases b <;> decide
  · cases b <;> decide
  · cases b <;> (show 1 * _ ≤ sizeLine; decide)
  · show upd _ q _ q = _
    rw [upd_same]
    cases b <;> rfl
theorem asg_gives {te : TE} {g : TG} {rest : TS} {D : Ends} {L : List Str} (G : Gives te σ H L) (k : ∀ p H', Same H H' → LS H' p L → g (.ref p) σ H' (fun σ2 H2 => rest D σ2 H2)) : tSeq (tAsg te g) rest D σ H := G H _ (Same.refl _) k
theorem ret_gives {te : TE} {D : Ends} {L : List Str} (G : Gives te σ H L) (k : ∀ p H', Same H H' → LS H' p L → D.rt (.ref p) H') : tRet te D σ H := G H _ (Same.refl _) k
end
theorem own_len (i : Nat) : ∀ n, (own i n).length ≤ n + 1
  | 0 => by
    show (one _ _).length ≤ 1
    unfold one
    split <;> simp
  | n + 1 => by
    show (own i n ++ one _ _).length ≤ n + 2
    rw [List.length_append]
    have h := own_len i n
    have : (one (tab i (n + 1)) (wd (n + 1))).length ≤ 1 := by
      unfold one
      split <;> simp
    omega
theorem one_len (b : Bool) (w : Str) : (one b w).length ≤ 1 := by
  unfold one
  split <;> simp
/-- _law_own_kinds of an error of class i -/
def spOwn (K : PySem.W.Frag) (C : Nat → Addr) : Sp := fun vs H Q _ => ∃ (a : Addr) (i : Nat), vs = [.ref a] ∧ i < 19 ∧ ErrAt H a (C i) ∧ ∀ p H', Same H H' → LS H' p (own i 18) → Q (.ref p) H'
abbrev s_l_own_kinds : Stmt := topS 24
theorem sc_l_own_kinds : FnScope ["_law_error", "_law_found"] ["_law_error"] (defScope s_l_own_kinds) := ⟨rfl, rfl, rfl, by decide +kernel, rfl, by decide +kernel, by decide +kernel⟩

section
variable {P : Program} {w : World} {K : PySem.W.Frag} {mg : Str → Option Value} {base : Heap} {C : Nat → Addr}
theorem ok_l_own_kinds (D : Df K mg "_law_own_kinds" s_l_own_kinds ["_law_error"]) (T : Tab K mg C) (z_isinstance : mg "isinstance" = none) (z_int : mg "int" = none) : Cg P w K mg base 1 "_law_own_kinds" (spOwn K C) := by
  refine D.ok sc_l_own_kinds (fun vs H Q E h => ?_) (fun cdv A outer s H vs Q E f hc hr h => ?_)
  · obtain ⟨a, i, rfl, _⟩ := h
    rfl
  · obtain ⟨a, i, rfl, hi, at_, q⟩ := h
    refine ⟨_, (pss_cons (ps_set (i := 1) sc_l_own_kinds.nd rfl (Or.inl rfl) (pe_op op_cat (pe_op op_rep (pe_lst (pa_cons pe_str pa_nil)) (pe_callTy cr_int1 (by rfl) z_int (by decide +kernel) (pa_cons (pe_callB cr_isE (by rfl) z_isinstance (by decide +kernel) (pa_cons (pv 0) (pa_cons (pe_glob (v := .ref (C 0)) rfl (T.g 0 (by decide)) rfl) pa_nil))) pa_nil))) (pe_op op_rep (pe_lst (pa_cons pe_str pa_nil)) (pe_callTy cr_int1 (by rfl) z_int (by decide +kernel) (pa_cons (pe_callB cr_isE (by rfl) z_isinstance (by decide +kernel) (pa_cons (pv 0) (pa_cons (pe_glob (v := .ref (C 1)) rfl (T.g 1 (by decide)) rfl) pa_nil))) pa_nil)))))
      (pss_cons (ps_set (i := 1) sc_l_own_kinds.nd rfl (Or.inl rfl) (pe_op op_cat (pv 1) (pe_op op_rep (pe_lst (pa_cons pe_str pa_nil)) (pe_callTy cr_int1 (by rfl) z_int (by decide +kernel) (pa_cons (pe_callB cr_isE (by rfl) z_isinstance (by decide +kernel) (pa_cons (pv 0) (pa_cons (pe_glob (v := .ref (C 2)) rfl (T.g 2 (by decide)) rfl) pa_nil))) pa_nil)))))
      (pss_cons (ps_set (i := 1) sc_l_own_kinds.nd rfl (Or.inl rfl) (pe_op op_cat (pv 1) (pe_op op_rep (pe_lst (pa_cons pe_str pa_nil)) (pe_callTy cr_int1 (by rfl) z_int (by decide +kernel) (pa_cons (pe_callB cr_isE (by rfl) z_isinstance (by decide +kernel) (pa_cons (pv 0) (pa_cons (pe_glob (v := .ref (C 3)) rfl (T.g 3 (by decide)) rfl) pa_nil))) pa_nil)))))
      (pss_cons (ps_set (i := 1) sc_l_own_kinds.nd rfl (Or.inl rfl) (pe_op op_cat (pv 1) (pe_op op_rep (pe_lst (pa_cons pe_str pa_nil)) (pe_callTy cr_int1 (by rfl) z_int (by decide +kernel) (pa_cons (pe_callB cr_isE (by rfl) z_isinstance (by decide +kernel) (pa_cons (pv 0) (pa_cons (pe_glob (v := .ref (C 4)) rfl (T.g 4 (by decide)) rfl) pa_nil))) pa_nil)))))
      (pss_cons (ps_set (i := 1) sc_l_own_kinds.nd rfl (Or.inl rfl) (pe_op op_cat (pv 1) (pe_op op_rep (pe_lst (pa_cons pe_str pa_nil)) (pe_callTy cr_int1 (by rfl) z_int (by decide +kernel) (pa_cons (pe_callB cr_isE (by rfl) z_isinstance (by decide +kernel) (pa_cons (pv 0) (pa_cons (pe_glob (v := .ref (C 5)) rfl (T.g 5 (by decide)) rfl) pa_nil))) pa_nil)))))
      (pss_cons (ps_set (i := 1) sc_l_own_kinds.nd rfl (Or.inl rfl) (pe_op op_cat (pe_op op_cat (pv 1) (pe_op op_rep (pe_lst (pa_cons pe_str pa_nil)) (pe_callTy cr_int1 (by rfl) z_int (by decide +kernel) (pa_cons (pe_callB cr_isE (by rfl) z_isinstance (by decide +kernel) (pa_cons (pv 0) (pa_cons (pe_glob (v := .ref (C 6)) rfl (T.g 6 (by decide)) rfl) pa_nil))) pa_nil)))) (pe_op op_rep (pe_lst (pa_cons pe_str pa_nil)) (pe_callTy cr_int1 (by rfl) z_int (by decide +kernel) (pa_cons (pe_callB cr_isE (by rfl) z_isinstance (by decide +kernel) (pa_cons (pv 0) (pa_cons (pe_glob (v := .ref (C 7)) rfl (T.g 7 (by decide)) rfl) pa_nil))) pa_nil)))))
      (pss_cons (ps_set (i := 1) sc_l_own_kinds.nd rfl (Or.inl rfl) (pe_op op_cat (pv 1) (pe_op op_rep (pe_lst (pa_cons pe_str pa_nil)) (pe_callTy cr_int1 (by rfl) z_int (by decide +kernel) (pa_cons (pe_callB cr_isE (by rfl) z_isinstance (by decide +kernel) (pa_cons (pv 0) (pa_cons (pe_glob (v := .ref (C 8)) rfl (T.g 8 (by decide)) rfl) pa_nil))) pa_nil)))))
      (pss_cons (ps_set (i := 1) sc_l_own_kinds.nd rfl (Or.inl rfl) (pe_op op_cat (pv 1) (pe_op op_rep (pe_lst (pa_cons pe_str pa_nil)) (pe_callTy cr_int1 (by rfl) z_int (by decide +kernel) (pa_cons (pe_callB cr_isE (by rfl) z_isinstance (by decide +kernel) (pa_cons (pv 0) (pa_cons (pe_glob (v := .ref (C 9)) rfl (T.g 9 (by decide)) rfl) pa_nil))) pa_nil)))))
      (pss_cons (ps_set (i := 1) sc_l_own_kinds.nd rfl (Or.inl rfl) (pe_op op_cat (pe_op op_cat (pv 1) (pe_op op_rep (pe_lst (pa_cons pe_str pa_nil)) (pe_callTy cr_int1 (by rfl) z_int (by decide +kernel) (pa_cons (pe_callB cr_isE (by rfl) z_isinstance (by decide +kernel) (pa_cons (pv 0) (pa_cons (pe_glob (v := .ref (C 10)) rfl (T.g 10 (by decide)) rfl) pa_nil))) pa_nil)))) (pe_op op_rep (pe_lst (pa_cons pe_str pa_nil)) (pe_callTy cr_int1 (by rfl) z_int (by decide +kernel) (pa_cons (pe_callB cr_isE (by rfl) z_isinstance (by decide +kernel) (pa_cons (pv 0) (pa_cons (pe_glob (v := .ref (C 11)) rfl (T.g 11 (by decide)) rfl) pa_nil))) pa_nil)))))
      (pss_cons (ps_set (i := 1) sc_l_own_kinds.nd rfl (Or.inl rfl) (pe_op op_cat (pe_op op_cat (pv 1) (pe_op op_rep (pe_lst (pa_cons pe_str pa_nil)) (pe_callTy cr_int1 (by rfl) z_int (by decide +kernel) (pa_cons (pe_callB cr_isE (by rfl) z_isinstance (by decide +kernel) (pa_cons (pv 0) (pa_cons (pe_glob (v := .ref (C 12)) rfl (T.g 12 (by decide)) rfl) pa_nil))) pa_nil)))) (pe_op op_rep (pe_lst (pa_cons pe_str pa_nil)) (pe_callTy cr_int1 (by rfl) z_int (by decide +kernel) (pa_cons (pe_callB cr_isE (by rfl) z_isinstance (by decide +kernel) (pa_cons (pv 0) (pa_cons (pe_glob (v := .ref (C 13)) rfl (T.g 13 (by decide)) rfl) pa_nil))) pa_nil)))))
      (pss_cons (ps_set (i := 1) sc_l_own_kinds.nd rfl (Or.inl rfl) (pe_op op_cat (pe_op op_cat (pv 1) (pe_op op_rep (pe_lst (pa_cons pe_str pa_nil)) (pe_callTy cr_int1 (by rfl) z_int (by decide +kernel) (pa_cons (pe_callB cr_isE (by rfl) z_isinstance (by decide +kernel) (pa_cons (pv 0) (pa_cons (pe_glob (v := .ref (C 14)) rfl (T.g 14 (by decide)) rfl) pa_nil))) pa_nil)))) (pe_op op_rep (pe_lst (pa_cons pe_str pa_nil)) (pe_callTy cr_int1 (by rfl) z_int (by decide +kernel) (pa_cons (pe_callB cr_isE (by rfl) z_isinstance (by decide +kernel) (pa_cons (pv 0) (pa_cons (pe_glob (v := .ref (C 15)) rfl (T.g 15 (by decide)) rfl) pa_nil))) pa_nil)))))
      (pss_cons (ps_set (i := 1) sc_l_own_kinds.nd rfl (Or.inl rfl) (pe_op op_cat (pe_op op_cat (pv 1) (pe_op op_rep (pe_lst (pa_cons pe_str pa_nil)) (pe_callTy cr_int1 (by rfl) z_int (by decide +kernel) (pa_cons (pe_callB cr_isE (by rfl) z_isinstance (by decide +kernel) (pa_cons (pv 0) (pa_cons (pe_glob (v := .ref (C 16)) rfl (T.g 16 (by decide)) rfl) pa_nil))) pa_nil)))) (pe_op op_rep (pe_lst (pa_cons pe_str pa_nil)) (pe_callTy cr_int1 (by rfl) z_int (by decide +kernel) (pa_cons (pe_callB cr_isE (by rfl) z_isinstance (by decide +kernel) (pa_cons (pv 0) (pa_cons (pe_glob (v := .ref (C 17)) rfl (T.g 17 (by decide)) rfl) pa_nil))) pa_nil)))))
      (pss_one (ps_ret (pe_op op_cat (pv 1) (pe_op op_rep (pe_lst (pa_cons pe_str pa_nil)) (pe_callTy cr_int1 (by rfl) z_int (by decide +kernel) (pa_cons (pe_callB cr_isE (by rfl) z_isinstance (by decide +kernel) (pa_cons (pv 0) (pa_cons (pe_glob (v := .ref (C 18)) rfl (T.g 18 (by decide)) rfl) pa_nil))) pa_nil)))))))))))))))))), ?_⟩
    have ask : ∀ j, j < 19 → ∀ H1, Same H H1 → ∀ H2 Q, Same H1 H2 → Q (.bl (tab i j)) H2 → rIsE K [.ref a, .ref (C j)] H2 Q := fun j hj H1 s1 H2 Q s2 q => ⟨a, C i, _, _, _, rfl, .own _, T.ec i hi, at_.same (s1.trans s2), T.own i j hi hj, q⟩
    have small : ∀ n b w, n < 30 → (own i n).length + (one b w).length ≤ sizeLine := fun n b w hn => by
      have h1 := own_len i n
      have h2 := one_len b w
      exact Nat.le_trans (show _ ≤ 100 by omega) (by decide)
    have r : ∀ j, j < 19 → ∀ {H1 : Hp} {σ : L2.St} {w : Str}, Same H H1 → σ[0]? = some (some (.ref a)) → w = wd j → Gives _ σ H1 (one (tab i j) (wd j)) := fun j hj {H1 σ w} s h e => e ▸ gives_rep (w := w) (r := rIsE K) (c := .ref (C j)) h (ask j hj H1 s)
    refine asg_gives (gives_plus (r 0 (by decide) (Same.refl H) rfl rfl) (r 1 (by decide) (Same.refl H) rfl rfl) (small 0 _ _ (by decide))) fun p0 H0 s0 m0 => ?_
    have l0 : LS H0 p0 (own i 1) := m0
    have t0 := s0
    refine asg_gives (gives_plus (gives_var rfl l0) (r 2 (by decide) t0 rfl rfl) (small 1 _ _ (by decide))) fun p1 H1 s1 m1 => ?_
    have l1 : LS H1 p1 (own i 2) := m1
    have t1 := t0.trans s1
    refine asg_gives (gives_plus (gives_var rfl l1) (r 3 (by decide) t1 rfl rfl) (small 2 _ _ (by decide))) fun p2 H2 s2 m2 => ?_
    have l2 : LS H2 p2 (own i 3) := m2
    have t2 := t1.trans s2
    refine asg_gives (gives_plus (gives_var rfl l2) (r 4 (by decide) t2 rfl rfl) (small 3 _ _ (by decide))) fun p3 H3 s3 m3 => ?_
    have l3 : LS H3 p3 (own i 4) := m3
    have t3 := t2.trans s3
    refine asg_gives (gives_plus (gives_var rfl l3) (r 5 (by decide) t3 rfl rfl) (small 4 _ _ (by decide))) fun p4 H4 s4 m4 => ?_
    have l4 : LS H4 p4 (own i 5) := m4
    have t4 := t3.trans s4
    refine asg_gives (gives_plus (gives_plus (gives_var rfl l4) (r 6 (by decide) t4 rfl rfl) (small 5 _ _ (by decide))) (r 7 (by decide) t4 rfl rfl) (small 6 _ _ (by decide))) fun p5 H5 s5 m5 => ?_
    have l5 : LS H5 p5 (own i 7) := m5
    have t5 := t4.trans s5
    refine asg_gives (gives_plus (gives_var rfl l5) (r 8 (by decide) t5 rfl rfl) (small 7 _ _ (by decide))) fun p6 H6 s6 m6 => ?_
    have l6 : LS H6 p6 (own i 8) := m6
    have t6 := t5.trans s6
    refine asg_gives (gives_plus (gives_var rfl l6) (r 9 (by decide) t6 rfl rfl) (small 8 _ _ (by decide))) fun p7 H7 s7 m7 => ?_
    have l7 : LS H7 p7 (own i 9) := m7
    have t7 := t6.trans s7
    refine asg_gives (gives_plus (gives_plus (gives_var rfl l7) (r 10 (by decide) t7 rfl rfl) (small 9 _ _ (by decide))) (r 11 (by decide) t7 rfl rfl) (small 10 _ _ (by decide))) fun p8 H8 s8 m8 => ?_
    have l8 : LS H8 p8 (own i 11) := m8
    have t8 := t7.trans s8
    refine asg_gives (gives_plus (gives_plus (gives_var rfl l8) (r 12 (by decide) t8 rfl rfl) (small 11 _ _ (by decide))) (r 13 (by decide) t8 rfl rfl) (small 12 _ _ (by decide))) fun p9 H9 s9 m9 => ?_
    have l9 : LS H9 p9 (own i 13) := m9
    have t9 := t8.trans s9
    refine asg_gives (gives_plus (gives_plus (gives_var rfl l9) (r 14 (by decide) t9 rfl rfl) (small 13 _ _ (by decide))) (r 15 (by decide) t9 rfl rfl) (small 14 _ _ (by decide))) fun p10 H10 s10 m10 => ?_
    have l10 : LS H10 p10 (own i 15) := m10
    have t10 := t9.trans s10
    refine asg_gives (gives_plus (gives_plus (gives_var rfl l10) (r 16 (by decide) t10 rfl rfl) (small 15 _ _ (by decide))) (r 17 (by decide) t10 rfl rfl) (small 16 _ _ (by decide))) fun p11 H11 s11 m11 => ?_
    have l11 : LS H11 p11 (own i 17) := m11
    have t11 := t10.trans s11
    exact ret_gives (gives_plus (gives_var rfl l11) (r 18 (by decide) t11 rfl rfl) (small 17 _ _ (by decide))) fun p H9 s9 m9 => q p H9 (t11.trans s9) m9
end
end K02
set_option Elab.async false
set_option linter.all false
set_option autoImplicit false
set_option maxRecDepth 100000
set_option maxHeartbeats 4000000
namespace K02
open PySem PySem.Spec PyProof.Rows L2 Vb Wd Xe Xi Xm
abbrev s_l_kinds : Stmt := topS 25
theorem sc_l_kinds : FnScope ["_law_error", "_law_found"] ["_law_error"] (defScope s_l_kinds) := ⟨rfl, rfl, rfl, by decide +kernel, rfl, by decide +kernel, by decide +kernel⟩

theorem kinds_len (i : Nat) : ∀ n, (kinds i n).length ≤ n + 20
  | 0 => Nat.le_trans (own_len i 18) (by decide)
  | n + 1 => by
    show (kinds i n ++ one _ _).length ≤ n + 21
    rw [List.length_append]
    have h := kinds_len i n
    have := one_len (tabB i n) (.ofString (bn n))
    omega
/-- _law_kinds of an error of class i -/
def spKinds (K : PySem.W.Frag) (C : Nat → Addr) : Sp := fun vs H Q _ => ∃ (a : Addr) (i : Nat), vs = [.ref a] ∧ i < 19 ∧ ErrAt H a (C i) ∧ ∀ p H', Same H H' → LS H' p (kinds i 7) → Q (.ref p) H'
section
variable {P : Program} {w : World} {K : PySem.W.Frag} {mg : Str → Option Value} {base : Heap} {C : Nat → Addr}
theorem ok_l_kinds (D : Df K mg "_law_kinds" s_l_kinds ["_law_error"]) (T : Tab K mg C) (G_l_own_kinds : Cg P w K mg base 1 "_law_own_kinds" (spOwn K C)) (z : ∀ j, j < 7 → mg (.ofString (bn j)) = none) (z_isinstance : mg "isinstance" = none) (z_int : mg "int" = none) : Cg P w K mg base 2 "_law_kinds" (spKinds K C) := by
  refine D.ok sc_l_kinds (fun vs H Q E h => ?_) (fun cdv A outer s H vs Q E f hc hr h => ?_)
  · obtain ⟨a, i, rfl, _⟩ := h
    rfl
  · obtain ⟨a, i, rfl, hi, at_, q⟩ := h
    refine ⟨_, (pss_cons (ps_set (i := 1) sc_l_kinds.nd rfl (Or.inl rfl) (pe_op op_cat (pe_cg G_l_own_kinds hc hr (by rfl) (pa_cons (pv 0) pa_nil)) (pe_op op_rep (pe_lst (pa_cons pe_str pa_nil)) (pe_callTy cr_int1 (by rfl) z_int (by decide +kernel) (pa_cons (pe_callB cr_isE (by rfl) z_isinstance (by decide +kernel) (pa_cons (pv 0) (pa_cons (pe_bltn (v := .ty "ValueError") (by rfl) (z 0 (by decide)) (by decide +kernel) rfl) pa_nil))) pa_nil)))))
      (pss_cons (ps_set (i := 1) sc_l_kinds.nd rfl (Or.inl rfl) (pe_op op_cat (pv 1) (pe_op op_rep (pe_lst (pa_cons pe_str pa_nil)) (pe_callTy cr_int1 (by rfl) z_int (by decide +kernel) (pa_cons (pe_callB cr_isE (by rfl) z_isinstance (by decide +kernel) (pa_cons (pv 0) (pa_cons (pe_bltn (v := .ty "KeyError") (by rfl) (z 1 (by decide)) (by decide +kernel) rfl) pa_nil))) pa_nil)))))
      (pss_cons (ps_set (i := 1) sc_l_kinds.nd rfl (Or.inl rfl) (pe_op op_cat (pv 1) (pe_op op_rep (pe_lst (pa_cons pe_str pa_nil)) (pe_callTy cr_int1 (by rfl) z_int (by decide +kernel) (pa_cons (pe_callB cr_isE (by rfl) z_isinstance (by decide +kernel) (pa_cons (pv 0) (pa_cons (pe_bltn (v := .ty "IndexError") (by rfl) (z 2 (by decide)) (by decide +kernel) rfl) pa_nil))) pa_nil)))))
      (pss_cons (ps_set (i := 1) sc_l_kinds.nd rfl (Or.inl rfl) (pe_op op_cat (pv 1) (pe_op op_rep (pe_lst (pa_cons pe_str pa_nil)) (pe_callTy cr_int1 (by rfl) z_int (by decide +kernel) (pa_cons (pe_callB cr_isE (by rfl) z_isinstance (by decide +kernel) (pa_cons (pv 0) (pa_cons (pe_bltn (v := .ty "LookupError") (by rfl) (z 3 (by decide)) (by decide +kernel) rfl) pa_nil))) pa_nil)))))
      (pss_cons (ps_set (i := 1) sc_l_kinds.nd rfl (Or.inl rfl) (pe_op op_cat (pv 1) (pe_op op_rep (pe_lst (pa_cons pe_str pa_nil)) (pe_callTy cr_int1 (by rfl) z_int (by decide +kernel) (pa_cons (pe_callB cr_isE (by rfl) z_isinstance (by decide +kernel) (pa_cons (pv 0) (pa_cons (pe_bltn (v := .ty "RuntimeError") (by rfl) (z 4 (by decide)) (by decide +kernel) rfl) pa_nil))) pa_nil)))))
      (pss_cons (ps_set (i := 1) sc_l_kinds.nd rfl (Or.inl rfl) (pe_op op_cat (pv 1) (pe_op op_rep (pe_lst (pa_cons pe_str pa_nil)) (pe_callTy cr_int1 (by rfl) z_int (by decide +kernel) (pa_cons (pe_callB cr_isE (by rfl) z_isinstance (by decide +kernel) (pa_cons (pv 0) (pa_cons (pe_bltn (v := .ty "OverflowError") (by rfl) (z 5 (by decide)) (by decide +kernel) rfl) pa_nil))) pa_nil)))))
      (pss_one (ps_ret (pe_op op_cat (pv 1) (pe_op op_rep (pe_lst (pa_cons pe_str pa_nil)) (pe_callTy cr_int1 (by rfl) z_int (by decide +kernel) (pa_cons (pe_callB cr_isE (by rfl) z_isinstance (by decide +kernel) (pa_cons (pv 0) (pa_cons (pe_bltn (v := .ty "ArithmeticError") (by rfl) (z 6 (by decide)) (by decide +kernel) rfl) pa_nil))) pa_nil)))))))))))), ?_⟩
    have ask : ∀ j, j < 7 → ∀ H1, Same H H1 → ∀ H2 Q, Same H1 H2 → Q (.bl (tabB i j)) H2 → rIsE K [.ref a, .ty (bn j)] H2 Q := fun j hj H1 s1 H2 Q s2 q => ⟨a, C i, _, _, _, rfl, .ty _, T.ec i hi, at_.same (s1.trans s2), T.blt i j hi hj, q⟩
    have small : ∀ n b w, n < 30 → (kinds i n).length + (one b w).length ≤ sizeLine := fun n b w hn => by
      have h1 := kinds_len i n
      have h2 := one_len b w
      exact Nat.le_trans (show _ ≤ 100 by omega) (by decide)
    have own : Gives (tCall (spOwn K C) [] E0 (tCons (tVar 0) tNil)) (start ["_law_error", "_law_found"] [V.ref a]) H (kinds i 0) := fun H1 Q s k => ⟨_, rfl, a, i, rfl, hi, at_.same s, fun p H' s' l => k p H' s' l⟩
    have r : ∀ j, j < 7 → ∀ {H1 : Hp} {σ : L2.St} {w : Str}, Same H H1 → σ[0]? = some (some (.ref a)) → w = .ofString (bn j) → Gives _ σ H1 (one (tabB i j) (.ofString (bn j))) := fun j hj {H1 σ w} s h e => e ▸ gives_rep (w := w) (r := rIsE K) (c := .ty (bn j)) h (ask j hj H1 s)
    refine asg_gives (gives_plus (own) (r 0 (by decide) (Same.refl H) rfl rfl) (small 0 _ _ (by decide))) fun p0 H0 s0 m0 => ?_
    have l0 : LS H0 p0 (kinds i 1) := m0
    have t0 := s0
    refine asg_gives (gives_plus (gives_var rfl l0) (r 1 (by decide) t0 rfl rfl) (small 1 _ _ (by decide))) fun p1 H1 s1 m1 => ?_
    have l1 : LS H1 p1 (kinds i 2) := m1
    have t1 := t0.trans s1
    refine asg_gives (gives_plus (gives_var rfl l1) (r 2 (by decide) t1 rfl rfl) (small 2 _ _ (by decide))) fun p2 H2 s2 m2 => ?_
    have l2 : LS H2 p2 (kinds i 3) := m2
    have t2 := t1.trans s2
    refine asg_gives (gives_plus (gives_var rfl l2) (r 3 (by decide) t2 rfl rfl) (small 3 _ _ (by decide))) fun p3 H3 s3 m3 => ?_
    have l3 : LS H3 p3 (kinds i 4) := m3
    have t3 := t2.trans s3
    refine asg_gives (gives_plus (gives_var rfl l3) (r 4 (by decide) t3 rfl rfl) (small 4 _ _ (by decide))) fun p4 H4 s4 m4 => ?_
    have l4 : LS H4 p4 (kinds i 5) := m4
    have t4 := t3.trans s4
    refine asg_gives (gives_plus (gives_var rfl l4) (r 5 (by decide) t4 rfl rfl) (small 5 _ _ (by decide))) fun p5 H5 s5 m5 => ?_
    have l5 : LS H5 p5 (kinds i 6) := m5
    have t5 := t4.trans s5
    exact ret_gives (gives_plus (gives_var rfl l5) (r 6 (by decide) t5 rfl rfl) (small 6 _ _ (by decide))) fun p H9 s9 m9 => q p H9 (t5.trans s9) m9
end
end K02
set_option Elab.async false
set_option linter.all false
set_option autoImplicit false
set_option maxRecDepth 100000
set_option maxHeartbeats 4000000
namespace K02
open Gd PySem PySem.Spec PyProof.Rows L2 Vb Wd Xe Xi Xm
abbrev s_l_invalid_told : Stmt := topS 26
theorem sc_l_invalid_told : FnScope ["_law_text", "_law_found"] ["_law_text"] (defScope s_l_invalid_told) := ⟨rfl, rfl, rfl, by decide +kernel, rfl, by decide +kernel, by decide +kernel⟩
abbrev s_l_invalid_due : Stmt := topS 29
theorem sc_l_invalid_due : FnScope ["_law_words", "_law_word"] [] (defScope s_l_invalid_due) := ⟨rfl, rfl, rfl, by decide +kernel, rfl, by decide +kernel, by decide +kernel⟩
abbrev s_l_index : Stmt := topS 27
theorem sc_l_index : FnScope ["_law_value", "_law_is_index"] ["_law_value"] (defScope s_l_index) := ⟨rfl, rfl, rfl, by decide +kernel, rfl, by decide +kernel, by decide +kernel⟩

/-- what more the written part tells of the classes -/
structure Tab2 (K : PySem.W.Frag) (C : Nat → Addr) : Prop where
  exc : ∀ i, i < 10 → PySem.W.excIn K (C i) PX.veTail "ValueError.__new__" = true
  kp : ∀ i, i < 19 → PySem.W.keepIn K (.ref (C i)) = true
def tExc (C : Addr) (te : TE) : TE := fun σ H Q => te σ H fun _ H1 => ∀ a, H1 a = none → Q (.ref a) (upd H1 a (ExO (.ref C) a))
theorem pe_exV {X : Cx} {C : Addr} {x : Str} {e : Expr} {te : TE} {p pos : Pos} (q : PySem.W.excIn X.K C PX.veTail "ValueError.__new__" = true) (gC : X.mg x = some (.ref C)) (kC : PySem.W.keepIn X.K (.ref C) = true) (hg : Gl X x) (he : PE X e te)
    (hs : starEach [e] X.env = (false, eval e X.env) :: starEach [] X.env := by rfl) (hdb : (x == ("__debug__" : Str)) = false := by decide) : PE X (.Call (.Name x p) [e] [] pos) (tExc C te) := pe_exc1 PySem.F.excBase_ValueError q gC kC hg he hs hdb
abbrev kdD (i : Nat) : PyData := .list ((kinds i 7).map .str)
def toldD : List PyData := [kdD 0, kdD 1, kdD 2, kdD 3, kdD 4, kdD 5, kdD 6, kdD 7, kdD 8, kdD 9]
abbrev t2 (a b : Str) : PyData := .list [.str a, .str b]
abbrev t3 (a b c : Str) : PyData := .list [.str a, .str b, .str c]
def ws9 : List Str := ["name", "form", "scheme", "picture", "drawing", "book", "shape", "paper", "operation"]
def dueD : List PyData := t2 "mend" "ValueError" :: ws9.map fun x => t3 "mend" x "ValueError"
theorem told_due : PyData.eqv (.list toldD) (.list dueD) = true := by decide +kernel
def spTold (K : PySem.W.Frag) : Sp := fun vs H Q _ => ∃ x : Str, vs = [.str x] ∧ ∀ v H', Same H H' → Dp K H' v (.list toldD) → Q v H'
def hx0 (H : Hp) (l p1 p2 : Addr) : Hp := upd (upd (upd H l (.lst (ws9.map V.str))) p1 (.lst [V.str "mend", .str "ValueError"])) p2 (.lst [V.ref p1])
def spDueI (K : PySem.W.Frag) : Sp := fun vs H Q _ => vs = [] ∧ ∀ v H', Same H H' → Dp K H' v (.list dueD) → Q v H'
section
variable {P : Program} {w : World} {K : PySem.W.Frag} {mg : Str → Option Value} {base : Heap} {C : Nat → Addr}
theorem ok_l_invalid_told (D : Df K mg "_law_invalid_told" s_l_invalid_told ["_law_text"]) (T : Tab K mg C) (T2 : Tab2 K C) (G_l_kinds : Cg P w K mg base 2 "_law_kinds" (spKinds K C)) : Cg P w K mg base 3 "_law_invalid_told" (spTold K) := by
  refine D.ok sc_l_invalid_told (fun vs H Q E h => ?_) (fun cdv A outer s H vs Q E f hc hr h => ?_)
  · obtain ⟨x, rfl, _⟩ := h
    rfl
  · obtain ⟨x, rfl, q⟩ := h
    refine ⟨_, (pss_cons (ps_set (i := 1) sc_l_invalid_told.nd rfl (Or.inl rfl) (pe_lst (pa_cons (pe_cg G_l_kinds hc hr (by rfl) (pa_cons (pe_exV (T2.exc 0 (by decide)) (T.g 0 (by decide)) (T2.kp 0 (by decide)) (by rfl) (pv 0)) pa_nil)) (pa_cons (pe_cg G_l_kinds hc hr (by rfl) (pa_cons (pe_exV (T2.exc 1 (by decide)) (T.g 1 (by decide)) (T2.kp 1 (by decide)) (by rfl) (pv 0)) pa_nil)) (pa_cons (pe_cg G_l_kinds hc hr (by rfl) (pa_cons (pe_exV (T2.exc 2 (by decide)) (T.g 2 (by decide)) (T2.kp 2 (by decide)) (by rfl) (pv 0)) pa_nil)) pa_nil)))))
      (pss_cons (ps_set (i := 1) sc_l_invalid_told.nd rfl (Or.inl rfl) (pe_op op_cat (pv 1) (pe_lst (pa_cons (pe_cg G_l_kinds hc hr (by rfl) (pa_cons (pe_exV (T2.exc 3 (by decide)) (T.g 3 (by decide)) (T2.kp 3 (by decide)) (by rfl) (pv 0)) pa_nil)) (pa_cons (pe_cg G_l_kinds hc hr (by rfl) (pa_cons (pe_exV (T2.exc 4 (by decide)) (T.g 4 (by decide)) (T2.kp 4 (by decide)) (by rfl) (pv 0)) pa_nil)) pa_nil)))))
      (pss_cons (ps_set (i := 1) sc_l_invalid_told.nd rfl (Or.inl rfl) (pe_op op_cat (pv 1) (pe_lst (pa_cons (pe_cg G_l_kinds hc hr (by rfl) (pa_cons (pe_exV (T2.exc 5 (by decide)) (T.g 5 (by decide)) (T2.kp 5 (by decide)) (by rfl) (pv 0)) pa_nil)) (pa_cons (pe_cg G_l_kinds hc hr (by rfl) (pa_cons (pe_exV (T2.exc 6 (by decide)) (T.g 6 (by decide)) (T2.kp 6 (by decide)) (by rfl) (pv 0)) pa_nil)) (pa_cons (pe_cg G_l_kinds hc hr (by rfl) (pa_cons (pe_exV (T2.exc 7 (by decide)) (T.g 7 (by decide)) (T2.kp 7 (by decide)) (by rfl) (pv 0)) pa_nil)) pa_nil))))))
      (pss_one (ps_ret (pe_op op_cat (pv 1) (pe_lst (pa_cons (pe_cg G_l_kinds hc hr (by rfl) (pa_cons (pe_exV (T2.exc 8 (by decide)) (T.g 8 (by decide)) (T2.kp 8 (by decide)) (by rfl) (pv 0)) pa_nil)) (pa_cons (pe_cg G_l_kinds hc hr (by rfl) (pa_cons (pe_exV (T2.exc 9 (by decide)) (T.g 9 (by decide)) (T2.kp 9 (by decide)) (by rfl) (pv 0)) pa_nil)) pa_nil))))))))), ?_⟩
    have kd : ∀ i, i < 10 → ∀ {H1 : Hp} {σ : L2.St}, σ[0]? = some (some (.str x)) → GivesD K (tCall (spKinds K C) [] E0 (tCons (tExc (C i) (tVar 0)) tNil)) σ H1 (kdD i) := fun i hi {H1 σ} h H2 Q s k =>
      ⟨.str x, h, fun a na => ⟨a, i, rfl, by omega, .inl upd_same, fun p H' s' l => k (.ref p) H' ((same_new na).trans s') (.lst (.inl (.inl l)) (dpAll_strs _))⟩⟩
    refine asg_new (gd_lst (gd_cons (kd 0 (by decide) rfl) (gd_cons (kd 1 (by decide) rfl) (gd_cons (kd 2 (by decide) rfl) gd_nil))) (by show 3 ≤ sizeLine; decide)) fun p0 H0 x0 s0 n0 d0 => ?_
    have e0 := same_new (o := .lst x0) n0
    refine asg_new (gd_catV rfl upd_same (Dp.sameAll e0 _ _ d0) (gd_lst (gd_cons (kd 3 (by decide) rfl) (gd_cons (kd 4 (by decide) rfl) gd_nil)) (by show 2 ≤ sizeLine; decide)) (by show 3 + 2 ≤ sizeLine; decide)) fun p1 H1 x1 s1 n1 d1 => ?_
    have e1 := same_new (o := .lst x1) n1
    refine asg_new (gd_catV rfl upd_same (Dp.sameAll e1 _ _ d1) (gd_lst (gd_cons (kd 5 (by decide) rfl) (gd_cons (kd 6 (by decide) rfl) (gd_cons (kd 7 (by decide) rfl) gd_nil))) (by show 3 ≤ sizeLine; decide)) (by show 5 + 3 ≤ sizeLine; decide)) fun p2 H2 x2 s2 n2 d2 => ?_
    have e2 := same_new (o := .lst x2) n2
    exact ret_new (gd_catV rfl upd_same (Dp.sameAll e2 _ _ d2) (gd_lst (gd_cons (kd 8 (by decide) rfl) (gd_cons (kd 9 (by decide) rfl) gd_nil)) (by show 2 ≤ sizeLine; decide)) (by show 8 + 2 ≤ sizeLine; decide)) fun p3 H3 x3 s3 n3 d3 =>
      q (.ref p3) _ (((((((s0.trans e0).trans s1).trans e1).trans s2).trans e2).trans s3).trans (same_new n3)) (.lst (.inl (.inl upd_same)) (Dp.sameAll (same_new n3) _ _ d3))
theorem ok_l_invalid_due (D : Df K mg "_law_invalid_due" s_l_invalid_due []) : Cg P w K mg base 1 "_law_invalid_due" (spDueI K) := by
  refine D.ok sc_l_invalid_due (fun vs H Q E h => ?_) (fun cdv A outer s H vs Q E f hc hr h => ?_)
  · obtain ⟨rfl, _⟩ := h
    rfl
  · obtain ⟨rfl, q⟩ := h
    refine ⟨_, (pss_cons (ps_set (i := 0) sc_l_invalid_due.nd rfl (Or.inl rfl) (pe_lst (pa_cons pe_str (pa_cons pe_str (pa_cons pe_str (pa_cons pe_str (pa_cons pe_str (pa_cons pe_str (pa_cons pe_str (pa_cons pe_str (pa_cons pe_str pa_nil)))))))))))
      (pss_one (ps_ret (pe_op op_cat (pe_lst (pa_cons (pe_lst (pa_cons pe_str (pa_cons pe_str pa_nil))) pa_nil)) (pe_lc (own := [("_law_word", 1)]) (g := gName 1) (by rfl) sc_l_invalid_due.nd (pi_list (pv 0)) (blkOk_by (own := [("_law_word", 1)]) (N := ["_law_words", "_law_word"]) (sc := defScope s_l_invalid_due) (by decide +kernel)) (fun _ _ _ _ _ => pg_name (i := 1) sc_l_invalid_due.nd rfl (Or.inl rfl)) (fun _ _ _ _ _ => pts_nil) (fun _ _ _ _ _ => (pe_lst (pa_cons pe_str (pa_cons (pv 1) (pa_cons pe_str pa_nil)))))))))), ?_⟩
    refine ⟨by show 9 ≤ sizeLine; decide, fun l nl => ?_⟩
    have sl := same_new (o := .lst (ws9.map V.str)) nl
    have el : upd H l (.lst (ws9.map V.str)) l = some (.lst (ws9.map V.str)) := upd_same
    refine ⟨by show 2 ≤ sizeLine; decide, fun p1 n1 => ⟨by show 1 ≤ sizeLine; decide, fun p2 n2 => ?_⟩⟩
    have s1 := same_new (o := .lst [V.str "mend", .str "ValueError"]) n1
    have s2 := same_new (o := .lst [V.ref p1]) n2
    have u0 := (sl.trans s1).trans s2
    have first : Dp K (hx0 H l p1 p2) (.ref p1) (t2 "mend" "ValueError") := .lst (.inl (.inl (s2 _ _ upd_same))) (.cons (.str _) (.cons (.str _) .nil))
    have e2 : hx0 H l p1 p2 p2 = some (.lst [V.ref p1]) := upd_same
    have e0 : hx0 H l p1 p2 l = some (.lst (ws9.map V.str)) := (s1.trans s2) _ _ el
    have u0 : Same H (hx0 H l p1 p2) := u0
    refine ⟨_, rfl, l, rfl, ⟨_, .inl (.inl e0)⟩, fun D nD => lc_list (K := K) (a := l) (xs := ws9.map V.str) (fun i H' => ∃ Hb xs, H' = upd Hb D (.lst xs) ∧ Same (hx0 H l p1 p2) Hb ∧ Hb D = none ∧ xs.length = i ∧ DpAll K Hb xs ((ws9.take i).map fun x => t3 "mend" x "ValueError")) ⟨hx0 H l p1 p2, [], rfl, Same.refl _, nD, rfl, .nil⟩
      (fun i H' _ h => by obtain ⟨Hb, xs, rfl, sb, nb, _⟩ := h; exact .inl (.inl (same_new nb _ _ (sb _ _ e0)))) (fun k x L1 hx h => ?_) (fun L1 h => ?_)⟩
    · obtain ⟨Hb, xs, rfl, sb, nb, lx, dx⟩ := h
      rw [List.getElem?_map] at hx
      obtain ⟨y, hy, rfl⟩ := Option.map_eq_some_iff.mp hx
      have kl : k < ws9.length := (List.getElem?_eq_some_iff.mp hy).1
      refine ⟨rfl, _, rfl, by show 3 ≤ sizeLine; decide, fun e ne => ?_⟩
      have De : D ≠ e := fun z => by
        rw [← z, upd_same] at ne
        cases ne
      have nbe : Hb e = none := by rw [upd_ne De.symm] at ne; exact ne
      have se := same_new (o := .lst [V.str "mend", .str y, .str "ValueError"]) nbe
      refine ⟨xs, by rw [upd_ne De]; exact upd_same, Nat.lt_of_le_of_lt (show xs.length ≤ 9 by rw [lx]; exact Nat.le_of_lt kl) (by decide), upd Hb e (.lst [V.str "mend", .str y, .str "ValueError"]), xs ++ [.ref e], ?_, sb.trans se, by rw [upd_ne De]; exact nb, by rw [List.length_append, lx]; rfl, ?_⟩
      · funext c
        by_cases h1 : c = D
        · subst h1
          rw [upd_same, upd_same]
        · rw [upd_ne h1, upd_ne h1]
          by_cases h2 : c = e
          · subst h2
            rw [upd_same, upd_same]
          · rw [upd_ne h2, upd_ne h2, upd_ne h1]
      · rw [List.take_add_one, hy, List.map_append]
        exact dpAll_app (Dp.sameAll se _ _ dx) (.cons (.lst (.inl (.inl upd_same)) (.cons (.str _) (.cons (.str _) (.cons (.str _) .nil)))) .nil)
    · obtain ⟨Hb, xs, rfl, sb, nb, lx, dx⟩ := h
      have full : ws9.take (ws9.map V.str).length = ws9 := List.take_of_length_le (by rw [List.length_map]; exact Nat.le_refl _)
      rw [full] at dx
      have sd := same_new (o := .lst xs) nb
      refine ⟨p2, D, [V.ref p1], xs, rfl, rfl, sd _ _ (sb _ _ e2), upd_same, by rw [lx]; show 1 + 9 ≤ sizeLine; decide, fun r nr => ?_⟩
      have sr := same_new (o := .lst ([V.ref p1] ++ xs)) nr
      exact q (.ref r) _ (((u0.trans sb).trans sd).trans sr) (.lst (.inl (.inl upd_same)) (.cons (Dp.same ((sb.trans sd).trans sr) _ _ first) (Dp.sameAll (sd.trans sr) _ _ dx)))
end
end K02
set_option Elab.async false
set_option linter.all false
set_option autoImplicit false
set_option maxRecDepth 100000
set_option maxHeartbeats 4000000
namespace K02
open L2H Xp PySem PySem.Spec PyProof.Rows L2 Vb Wd Xe Xi Xm

/-- _law_own_kinds of the error in hand, of class i -/
def spOwnP (K : PySem.W.Frag) (C : Nat → Addr) : Addr × Obj → Sp := fun p vs H Q _ => ∃ (i : Nat) (d : Option Addr), vs = [.ref p.1] ∧ i < 19 ∧ Zc (.ref (C i)) d p.2 ∧ (∃ vs, p.2.data = .fields vs) ∧ (∀ dd, d = some dd → ∃ fs, H dd = some (.xd fs)) ∧ ∀ q H', Same H H' → LS H' q (own i 18) → Q (.ref q) H'
section
variable {P : Program} {w : World} {K : PySem.W.Frag} {mg : Str → Option Value} {base : Heap} {C : Nat → Addr}
theorem hot_l_own_kinds {f : Addr} {fd : FuncData} (F : Fun K "_law_own_kinds" "_law_own_kinds" s_l_own_kinds f fd) (T : Tab K mg C) (z_isinstance : mg "isinstance" = none) (z_int : mg "int" = none) : FnP P w K mg base 1 f fd ["_law_error"] (spOwnP K C) := by
  refine goes_hot F sc_l_own_kinds (fun p vs H Q E h => ?_) (fun cdv A outer s H vs Q E p hc hr h => ?_)
  · obtain ⟨i, d, rfl, _⟩ := h
    rfl
  · obtain ⟨i, d, rfl, hi, hz, hf, hd, q⟩ := h
    refine ⟨_, (pss_cons (ps_set (i := 1) sc_l_own_kinds.nd rfl (Or.inl rfl) (pe_op op_cat (pe_op op_rep (pe_lst (pa_cons pe_str pa_nil)) (pe_callTy cr_int1 (by rfl) z_int (by decide +kernel) (pa_cons (pe_callB (cr_isP (h := p) (d := d) List.mem_cons_self hf) (by rfl) z_isinstance (by decide +kernel) (pa_cons (pv 0) (pa_cons (pe_glob (v := .ref (C 0)) rfl (T.g 0 (by decide)) rfl) pa_nil))) pa_nil))) (pe_op op_rep (pe_lst (pa_cons pe_str pa_nil)) (pe_callTy cr_int1 (by rfl) z_int (by decide +kernel) (pa_cons (pe_callB (cr_isP (h := p) (d := d) List.mem_cons_self hf) (by rfl) z_isinstance (by decide +kernel) (pa_cons (pv 0) (pa_cons (pe_glob (v := .ref (C 1)) rfl (T.g 1 (by decide)) rfl) pa_nil))) pa_nil)))))
      (pss_cons (ps_set (i := 1) sc_l_own_kinds.nd rfl (Or.inl rfl) (pe_op op_cat (pv 1) (pe_op op_rep (pe_lst (pa_cons pe_str pa_nil)) (pe_callTy cr_int1 (by rfl) z_int (by decide +kernel) (pa_cons (pe_callB (cr_isP (h := p) (d := d) List.mem_cons_self hf) (by rfl) z_isinstance (by decide +kernel) (pa_cons (pv 0) (pa_cons (pe_glob (v := .ref (C 2)) rfl (T.g 2 (by decide)) rfl) pa_nil))) pa_nil)))))
      (pss_cons (ps_set (i := 1) sc_l_own_kinds.nd rfl (Or.inl rfl) (pe_op op_cat (pv 1) (pe_op op_rep (pe_lst (pa_cons pe_str pa_nil)) (pe_callTy cr_int1 (by rfl) z_int (by decide +kernel) (pa_cons (pe_callB (cr_isP (h := p) (d := d) List.mem_cons_self hf) (by rfl) z_isinstance (by decide +kernel) (pa_cons (pv 0) (pa_cons (pe_glob (v := .ref (C 3)) rfl (T.g 3 (by decide)) rfl) pa_nil))) pa_nil)))))
      (pss_cons (ps_set (i := 1) sc_l_own_kinds.nd rfl (Or.inl rfl) (pe_op op_cat (pv 1) (pe_op op_rep (pe_lst (pa_cons pe_str pa_nil)) (pe_callTy cr_int1 (by rfl) z_int (by decide +kernel) (pa_cons (pe_callB (cr_isP (h := p) (d := d) List.mem_cons_self hf) (by rfl) z_isinstance (by decide +kernel) (pa_cons (pv 0) (pa_cons (pe_glob (v := .ref (C 4)) rfl (T.g 4 (by decide)) rfl) pa_nil))) pa_nil)))))
      (pss_cons (ps_set (i := 1) sc_l_own_kinds.nd rfl (Or.inl rfl) (pe_op op_cat (pv 1) (pe_op op_rep (pe_lst (pa_cons pe_str pa_nil)) (pe_callTy cr_int1 (by rfl) z_int (by decide +kernel) (pa_cons (pe_callB (cr_isP (h := p) (d := d) List.mem_cons_self hf) (by rfl) z_isinstance (by decide +kernel) (pa_cons (pv 0) (pa_cons (pe_glob (v := .ref (C 5)) rfl (T.g 5 (by decide)) rfl) pa_nil))) pa_nil)))))
      (pss_cons (ps_set (i := 1) sc_l_own_kinds.nd rfl (Or.inl rfl) (pe_op op_cat (pe_op op_cat (pv 1) (pe_op op_rep (pe_lst (pa_cons pe_str pa_nil)) (pe_callTy cr_int1 (by rfl) z_int (by decide +kernel) (pa_cons (pe_callB (cr_isP (h := p) (d := d) List.mem_cons_self hf) (by rfl) z_isinstance (by decide +kernel) (pa_cons (pv 0) (pa_cons (pe_glob (v := .ref (C 6)) rfl (T.g 6 (by decide)) rfl) pa_nil))) pa_nil)))) (pe_op op_rep (pe_lst (pa_cons pe_str pa_nil)) (pe_callTy cr_int1 (by rfl) z_int (by decide +kernel) (pa_cons (pe_callB (cr_isP (h := p) (d := d) List.mem_cons_self hf) (by rfl) z_isinstance (by decide +kernel) (pa_cons (pv 0) (pa_cons (pe_glob (v := .ref (C 7)) rfl (T.g 7 (by decide)) rfl) pa_nil))) pa_nil)))))
      (pss_cons (ps_set (i := 1) sc_l_own_kinds.nd rfl (Or.inl rfl) (pe_op op_cat (pv 1) (pe_op op_rep (pe_lst (pa_cons pe_str pa_nil)) (pe_callTy cr_int1 (by rfl) z_int (by decide +kernel) (pa_cons (pe_callB (cr_isP (h := p) (d := d) List.mem_cons_self hf) (by rfl) z_isinstance (by decide +kernel) (pa_cons (pv 0) (pa_cons (pe_glob (v := .ref (C 8)) rfl (T.g 8 (by decide)) rfl) pa_nil))) pa_nil)))))
      (pss_cons (ps_set (i := 1) sc_l_own_kinds.nd rfl (Or.inl rfl) (pe_op op_cat (pv 1) (pe_op op_rep (pe_lst (pa_cons pe_str pa_nil)) (pe_callTy cr_int1 (by rfl) z_int (by decide +kernel) (pa_cons (pe_callB (cr_isP (h := p) (d := d) List.mem_cons_self hf) (by rfl) z_isinstance (by decide +kernel) (pa_cons (pv 0) (pa_cons (pe_glob (v := .ref (C 9)) rfl (T.g 9 (by decide)) rfl) pa_nil))) pa_nil)))))
      (pss_cons (ps_set (i := 1) sc_l_own_kinds.nd rfl (Or.inl rfl) (pe_op op_cat (pe_op op_cat (pv 1) (pe_op op_rep (pe_lst (pa_cons pe_str pa_nil)) (pe_callTy cr_int1 (by rfl) z_int (by decide +kernel) (pa_cons (pe_callB (cr_isP (h := p) (d := d) List.mem_cons_self hf) (by rfl) z_isinstance (by decide +kernel) (pa_cons (pv 0) (pa_cons (pe_glob (v := .ref (C 10)) rfl (T.g 10 (by decide)) rfl) pa_nil))) pa_nil)))) (pe_op op_rep (pe_lst (pa_cons pe_str pa_nil)) (pe_callTy cr_int1 (by rfl) z_int (by decide +kernel) (pa_cons (pe_callB (cr_isP (h := p) (d := d) List.mem_cons_self hf) (by rfl) z_isinstance (by decide +kernel) (pa_cons (pv 0) (pa_cons (pe_glob (v := .ref (C 11)) rfl (T.g 11 (by decide)) rfl) pa_nil))) pa_nil)))))
      (pss_cons (ps_set (i := 1) sc_l_own_kinds.nd rfl (Or.inl rfl) (pe_op op_cat (pe_op op_cat (pv 1) (pe_op op_rep (pe_lst (pa_cons pe_str pa_nil)) (pe_callTy cr_int1 (by rfl) z_int (by decide +kernel) (pa_cons (pe_callB (cr_isP (h := p) (d := d) List.mem_cons_self hf) (by rfl) z_isinstance (by decide +kernel) (pa_cons (pv 0) (pa_cons (pe_glob (v := .ref (C 12)) rfl (T.g 12 (by decide)) rfl) pa_nil))) pa_nil)))) (pe_op op_rep (pe_lst (pa_cons pe_str pa_nil)) (pe_callTy cr_int1 (by rfl) z_int (by decide +kernel) (pa_cons (pe_callB (cr_isP (h := p) (d := d) List.mem_cons_self hf) (by rfl) z_isinstance (by decide +kernel) (pa_cons (pv 0) (pa_cons (pe_glob (v := .ref (C 13)) rfl (T.g 13 (by decide)) rfl) pa_nil))) pa_nil)))))
      (pss_cons (ps_set (i := 1) sc_l_own_kinds.nd rfl (Or.inl rfl) (pe_op op_cat (pe_op op_cat (pv 1) (pe_op op_rep (pe_lst (pa_cons pe_str pa_nil)) (pe_callTy cr_int1 (by rfl) z_int (by decide +kernel) (pa_cons (pe_callB (cr_isP (h := p) (d := d) List.mem_cons_self hf) (by rfl) z_isinstance (by decide +kernel) (pa_cons (pv 0) (pa_cons (pe_glob (v := .ref (C 14)) rfl (T.g 14 (by decide)) rfl) pa_nil))) pa_nil)))) (pe_op op_rep (pe_lst (pa_cons pe_str pa_nil)) (pe_callTy cr_int1 (by rfl) z_int (by decide +kernel) (pa_cons (pe_callB (cr_isP (h := p) (d := d) List.mem_cons_self hf) (by rfl) z_isinstance (by decide +kernel) (pa_cons (pv 0) (pa_cons (pe_glob (v := .ref (C 15)) rfl (T.g 15 (by decide)) rfl) pa_nil))) pa_nil)))))
      (pss_cons (ps_set (i := 1) sc_l_own_kinds.nd rfl (Or.inl rfl) (pe_op op_cat (pe_op op_cat (pv 1) (pe_op op_rep (pe_lst (pa_cons pe_str pa_nil)) (pe_callTy cr_int1 (by rfl) z_int (by decide +kernel) (pa_cons (pe_callB (cr_isP (h := p) (d := d) List.mem_cons_self hf) (by rfl) z_isinstance (by decide +kernel) (pa_cons (pv 0) (pa_cons (pe_glob (v := .ref (C 16)) rfl (T.g 16 (by decide)) rfl) pa_nil))) pa_nil)))) (pe_op op_rep (pe_lst (pa_cons pe_str pa_nil)) (pe_callTy cr_int1 (by rfl) z_int (by decide +kernel) (pa_cons (pe_callB (cr_isP (h := p) (d := d) List.mem_cons_self hf) (by rfl) z_isinstance (by decide +kernel) (pa_cons (pv 0) (pa_cons (pe_glob (v := .ref (C 17)) rfl (T.g 17 (by decide)) rfl) pa_nil))) pa_nil)))))
      (pss_one (ps_ret (pe_op op_cat (pv 1) (pe_op op_rep (pe_lst (pa_cons pe_str pa_nil)) (pe_callTy cr_int1 (by rfl) z_int (by decide +kernel) (pa_cons (pe_callB (cr_isP (h := p) (d := d) List.mem_cons_self hf) (by rfl) z_isinstance (by decide +kernel) (pa_cons (pv 0) (pa_cons (pe_glob (v := .ref (C 18)) rfl (T.g 18 (by decide)) rfl) pa_nil))) pa_nil)))))))))))))))))), ?_⟩
    have ask : ∀ j, j < 19 → ∀ H1, Same H H1 → ∀ H2 Q, Same H1 H2 → Q (.bl (tab i j)) H2 → rIsP K p d [.ref p.1, .ref (C j)] H2 Q := fun j hj H1 s1 H2 Q s2 q => ⟨C i, _, _, _, rfl, .own _, T.ec i hi, hz, fun dd e => let ⟨fs, e2⟩ := hd dd e; ⟨fs, s2 _ _ (s1 _ _ e2)⟩, T.own i j hi hj, q⟩
    have small : ∀ n b w, n < 30 → (own i n).length + (one b w).length ≤ sizeLine := fun n b w hn => by
      have h1 := own_len i n
      have h2 := one_len b w
      exact Nat.le_trans (show _ ≤ 100 by omega) (by decide)
    have r : ∀ j, j < 19 → ∀ {H1 : Hp} {σ : L2.St} {w : Str}, Same H H1 → σ[0]? = some (some (.ref p.1)) → w = wd j → Gives _ σ H1 (one (tab i j) (wd j)) := fun j hj {H1 σ w} s h e => e ▸ gives_rep (w := w) (r := rIsP K p d) (c := .ref (C j)) h (ask j hj H1 s)
    refine asg_gives (gives_plus (r 0 (by decide) (Same.refl H) rfl rfl) (r 1 (by decide) (Same.refl H) rfl rfl) (small 0 _ _ (by decide))) fun p0 H0 s0 m0 => ?_
    have l0 : LS H0 p0 (own i 1) := m0
    have t0 := s0
    refine asg_gives (gives_plus (gives_var rfl l0) (r 2 (by decide) t0 rfl rfl) (small 1 _ _ (by decide))) fun p1 H1 s1 m1 => ?_
    have l1 : LS H1 p1 (own i 2) := m1
    have t1 := t0.trans s1
    refine asg_gives (gives_plus (gives_var rfl l1) (r 3 (by decide) t1 rfl rfl) (small 2 _ _ (by decide))) fun p2 H2 s2 m2 => ?_
    have l2 : LS H2 p2 (own i 3) := m2
    have t2 := t1.trans s2
    refine asg_gives (gives_plus (gives_var rfl l2) (r 4 (by decide) t2 rfl rfl) (small 3 _ _ (by decide))) fun p3 H3 s3 m3 => ?_
    have l3 : LS H3 p3 (own i 4) := m3
    have t3 := t2.trans s3
    refine asg_gives (gives_plus (gives_var rfl l3) (r 5 (by decide) t3 rfl rfl) (small 4 _ _ (by decide))) fun p4 H4 s4 m4 => ?_
    have l4 : LS H4 p4 (own i 5) := m4
    have t4 := t3.trans s4
    refine asg_gives (gives_plus (gives_plus (gives_var rfl l4) (r 6 (by decide) t4 rfl rfl) (small 5 _ _ (by decide))) (r 7 (by decide) t4 rfl rfl) (small 6 _ _ (by decide))) fun p5 H5 s5 m5 => ?_
    have l5 : LS H5 p5 (own i 7) := m5
    have t5 := t4.trans s5
    refine asg_gives (gives_plus (gives_var rfl l5) (r 8 (by decide) t5 rfl rfl) (small 7 _ _ (by decide))) fun p6 H6 s6 m6 => ?_
    have l6 : LS H6 p6 (own i 8) := m6
    have t6 := t5.trans s6
    refine asg_gives (gives_plus (gives_var rfl l6) (r 9 (by decide) t6 rfl rfl) (small 8 _ _ (by decide))) fun p7 H7 s7 m7 => ?_
    have l7 : LS H7 p7 (own i 9) := m7
    have t7 := t6.trans s7
    refine asg_gives (gives_plus (gives_plus (gives_var rfl l7) (r 10 (by decide) t7 rfl rfl) (small 9 _ _ (by decide))) (r 11 (by decide) t7 rfl rfl) (small 10 _ _ (by decide))) fun p8 H8 s8 m8 => ?_
    have l8 : LS H8 p8 (own i 11) := m8
    have t8 := t7.trans s8
    refine asg_gives (gives_plus (gives_plus (gives_var rfl l8) (r 12 (by decide) t8 rfl rfl) (small 11 _ _ (by decide))) (r 13 (by decide) t8 rfl rfl) (small 12 _ _ (by decide))) fun p9 H9 s9 m9 => ?_
    have l9 : LS H9 p9 (own i 13) := m9
    have t9 := t8.trans s9
    refine asg_gives (gives_plus (gives_plus (gives_var rfl l9) (r 14 (by decide) t9 rfl rfl) (small 13 _ _ (by decide))) (r 15 (by decide) t9 rfl rfl) (small 14 _ _ (by decide))) fun p10 H10 s10 m10 => ?_
    have l10 : LS H10 p10 (own i 15) := m10
    have t10 := t9.trans s10
    refine asg_gives (gives_plus (gives_plus (gives_var rfl l10) (r 16 (by decide) t10 rfl rfl) (small 15 _ _ (by decide))) (r 17 (by decide) t10 rfl rfl) (small 16 _ _ (by decide))) fun p11 H11 s11 m11 => ?_
    have l11 : LS H11 p11 (own i 17) := m11
    have t11 := t10.trans s11
    exact ret_gives (gives_plus (gives_var rfl l11) (r 18 (by decide) t11 rfl rfl) (small 17 _ _ (by decide))) fun p H9 s9 m9 => q p H9 (t11.trans s9) m9
end
end K02
set_option Elab.async false
set_option linter.all false
set_option autoImplicit false
set_option maxRecDepth 100000
set_option maxHeartbeats 4000000
namespace K02
open PySem PySem.Spec PyProof.Rows L2 Vb Wd
abbrev s_l_dice : Stmt := topS 21
theorem sc_l_dice : FnScope ["_law_script", "_law_spot", "_law_cell", "_law_great", "_law_seed"] ["_law_script", "_law_spot"] (defScope s_l_dice) := ⟨rfl, rfl, rfl, by decide +kernel, rfl, by decide +kernel, by decide +kernel⟩
abbrev s_l_roll : Stmt := topS 22
theorem sc_l_roll : FnScope ["_law_dice_here", "_law_total", "_law_found", "_law_one", "_law_two"] ["_law_dice_here", "_law_total"] (defScope s_l_roll) := ⟨rfl, rfl, rfl, by decide +kernel, rfl, by decide +kernel, by decide +kernel⟩
abbrev s_l_pick : Stmt := topS 23
theorem sc_l_pick : FnScope ["_law_dice_here", "_law_items"] ["_law_dice_here", "_law_items"] (defScope s_l_pick) := ⟨rfl, rfl, rfl, by decide +kernel, rfl, by decide +kernel, by decide +kernel⟩
/-- dice(script, spot): new dice -/
def spDice (K : PySem.W.Frag) : Sp := fun vs H Q _ => ∃ (a : Addr) (ns : List Int) (i : Int), vs = [.ref a, .int i] ∧ SqL K H a (ns.map V.int) ∧ 0 ≤ i ∧ ∀ d g s, H d = none → Q (.ref d) (upd H d (dz g s 0))
/-- roll(dice, total): an int from 0 on and below total -/
def spRoll : Sp := fun vs H Q _ => ∃ (d : Addr) (n : Int), vs = [.ref d, .int n] ∧ Dice H d ∧ 0 < n ∧ n.natAbs < 2 ^ 8000 ∧ ∀ r H', Past d H H' → 0 ≤ r → r < n → Q (.int r) H'
section
variable {P : Program} {w : World} {K : PySem.W.Frag} {mg : Str → Option Value} {base : Heap}
theorem ok_roll (D : Df K mg "_law_roll" s_l_roll ["_law_dice_here", "_law_total"]) (z_int : mg "int" = none) : Cg P w K mg base 1 "_law_roll" spRoll := by
  refine D.ok sc_l_roll (fun vs H Q E h => ?_) (fun cdv A outer s H vs Q E f hc hr h => ?_)
  · obtain ⟨d, n, rfl, _⟩ := h
    rfl
  · obtain ⟨d, n, rfl, ⟨g, s, c, hd⟩, n0, nz, q⟩ := h
    refine ⟨_, (pss_cons (ps_if (pt_cmpR op_gt (pe_ix ix_list (pv 0) pe_int (fun _ _ => rfl)) pe_int (nomark _))
      (pss_cons (ps_set (i := 2) sc_l_roll.nd rfl (Or.inl rfl) (pe_op op_mod (pe_callTy call_int1 (by rfl) z_int (by decide +kernel) (pa_cons (pe_ix ix_list (pv 0) pe_int (fun _ _ => rfl)) pa_nil)) (pv 1)))
      (pss_cons (ps_asg (pe_op op_fdivW (pe_ix ix_list (pv 0) pe_int (fun _ _ => rfl)) (pv 1)) (pg_sub (pv 0) pe_int set_list))
      (pss_one (ps_ret (pv 2)))))
      pss_nil)
      (pss_cons (ps_asg (pe_op op_add (pe_ix ix_list (pv 0) pe_int (fun _ _ => rfl)) pe_int) (pg_sub (pv 0) pe_int set_list))
      (pss_cons (ps_set (i := 3) sc_l_roll.nd rfl (Or.inl rfl) (pe_op op_mod (pe_callTy call_int1 (by rfl) z_int (by decide +kernel) (pa_cons (pe_op op_add (pe_ix ix_list (pv 0) pe_int (fun _ _ => rfl)) (pe_op op_mul pe_int (pe_ix ix_list (pv 0) pe_int (fun _ _ => rfl)))) pa_nil)) pe_int))
      (pss_cons (ps_set (i := 4) sc_l_roll.nd rfl (Or.inl rfl) (pe_op op_add (pe_op op_mul (pe_op op_mod (pe_callTy call_int1 (by rfl) z_int (by decide +kernel) (pa_cons (pe_op op_mul (pv 3) (pv 3)) pa_nil)) pe_int) (pv 3)) (pe_op op_mul pe_int (pe_ix ix_list (pv 0) pe_int (fun _ _ => rfl)))))
      (pss_one (ps_ret (pe_op op_mod (pe_callTy call_int1 (by rfl) z_int (by decide +kernel) (pa_cons (pe_op op_fdiv (pe_op op_mod (pe_callTy call_int1 (by rfl) z_int (by decide +kernel) (pa_cons (pe_op op_add (pv 4) (pe_op op_mul pe_int (pe_ix ix_list (pv 0) pe_int (fun _ _ => rfl)))) pa_nil)) pe_int) pe_int) pa_nil)) (pv 1)))))))), ?_⟩
    have a0 : ∀ x y z : Int, atI [V.int x, V.int y, V.int z] 0 = some (V.int x) := fun _ _ _ => rfl
    have a1 : ∀ x y z : Int, atI [V.int x, V.int y, V.int z] 1 = some (V.int y) := fun _ _ _ => rfl
    have a2 : ∀ x y z : Int, atI [V.int x, V.int y, V.int z] 2 = some (V.int z) := fun _ _ _ => rfl
    have hS : SqL K H d [.int g, .int s, .int c] := .inl (.inl hd)
    refine ⟨_, rfl, d, _, 0, .int g, rfl, rfl, hS, a0 _ _ _, _, _, rfl, rfl, _, rfl, ite2 (fun _ => ?_) (fun _ => ?_)⟩
    · refine ⟨_, rfl, d, _, 0, .int g, rfl, rfl, hS, a0 _ _ _, .inl ⟨_, rfl, _, rfl, _, _, rfl, rfl, n0, ?_⟩⟩
      refine ⟨_, rfl, d, _, 0, .int g, rfl, rfl, hS, a0 _ _ _, _, rfl, _, _, rfl, rfl, wide_div n0 nz (by decide) (by decide), ?_⟩
      refine ⟨_, rfl, d, _, 0, 0, rfl, rfl, hd, rfl, ?_⟩
      refine ⟨_, rfl, ?_⟩
      exact q _ _ (Past.upd (g / n) s c) (Int.emod_nonneg _ (by omega)) (Int.emod_lt_of_pos _ n0)
    · refine ⟨_, rfl, d, _, 2, .int c, rfl, rfl, hS, a2 _ _ _, _, _, rfl, rfl, ?_⟩
      refine ⟨_, rfl, d, _, 2, 2, rfl, rfl, hd, rfl, ?_⟩
      have hT : SqL K (upd H d (dz g s (c + 1))) d [.int g, .int s, .int (c + 1)] := .inl (.inl upd_same)
      have m0 : ∀ x y : Int, 0 < y → 0 ≤ x % y ∧ x % y < y := fun x y h => ⟨Int.emod_nonneg _ (by omega), Int.emod_lt_of_pos _ h⟩
      have hone := m0 (s + 715827883 * (c + 1)) 2305843009213693951 (by decide)
      refine ⟨_, rfl, d, _, 1, .int s, rfl, rfl, hT, a1 _ _ _, _, rfl, d, _, 2, .int (c + 1), rfl, rfl, hT, a2 _ _ _, _, _, rfl, rfl, by constructor <;> decide, _, _, rfl, rfl, .inl ⟨_, rfl, _, _, rfl, rfl, (by show (0 : Int) < _; decide), ?_⟩⟩
      generalize (s + 715827883 * (c + 1)) % 2305843009213693951 = one at hone ⊢
      refine ⟨_, rfl, _, rfl, _, _, rfl, rfl, (.inl ⟨by omega, by omega⟩), .inl ⟨_, rfl, _, _, rfl, rfl, (by show (0 : Int) < _; decide), ?_⟩⟩
      have htwo := m0 (one * one) 1152921504606846869 (by decide)
      generalize one * one % 1152921504606846869 = two at htwo ⊢
      refine ⟨_, rfl, _, _, rfl, rfl, (.inl ⟨by omega, by omega⟩), _, rfl, d, _, 2, .int (c + 1), rfl, rfl, hT, a2 _ _ _, _, _, rfl, rfl, by constructor <;> decide, _, _, rfl, rfl, ?_⟩
      refine ⟨_, rfl, _, rfl, d, _, 1, .int s, rfl, rfl, hT, a1 _ _ _, _, _, rfl, rfl, by constructor <;> decide, _, _, rfl, rfl, .inl ⟨_, rfl, _, _, rfl, rfl, (by show (0 : Int) < _; decide), _, _, rfl, rfl, ⟨by decide, by decide⟩, .inl ⟨_, rfl, _, rfl, _, _, rfl, rfl, n0, ?_⟩⟩⟩
      exact q _ _ (Past.upd g s (c + 1)) (m0 _ n n0).1 (m0 _ n n0).2

theorem pow_10_58 : CPowW 10 58 := ⟨by decide, by decide +kernel⟩
theorem pow_10_580 : CPowW ((10 : Int) ^ (58 : Int).toNat) 10 := ⟨by decide, by decide +kernel⟩
theorem pos_10_580 : (0 : Int) < ((10 : Int) ^ (58 : Int).toNat) ^ (10 : Int).toNat := by decide +kernel
theorem pow_10_18 : CPowW 10 18 := ⟨by decide, by decide +kernel⟩
theorem ok_dice (D : Df K mg "_law_dice" s_l_dice ["_law_script", "_law_spot"]) (z_int : mg "int" = none) (z_len : mg "len" = none) (z_abs : mg "abs" = none) (z_max : mg "max" = none) : Cg P w K mg base 1 "_law_dice" (spDice K) := by
  refine D.ok sc_l_dice (fun vs H Q E h => ?_) (fun cdv A outer s H vs Q E f hc hr h => ?_)
  · obtain ⟨a, ns, i, rfl, _⟩ := h
    rfl
  · obtain ⟨a, ns, i, rfl, hS, i0, q⟩ := h
    refine ⟨_, (pss_cons (ps_set (i := 2) sc_l_dice.nd rfl (Or.inl rfl) (pe_ifExp (pt_cmpR op_lt (pv 1) (pe_callB call_len_seq (by rfl) z_len PySem.boot_len (pa_cons (pv 0) pa_nil)) (nomark _)) (pe_ix ix_list (pv 0) (pv 1) (fun _ _ => rfl)) (pe_op op_add (pe_op op_mul pe_int (pv 1)) pe_int)))
      (pss_cons (ps_set (i := 3) sc_l_dice.nd rfl (Or.inl rfl) (pe_op op_mod (pe_callTy call_int1 (by rfl) z_int (by decide +kernel) (pa_cons (pe_callB call_abs (by rfl) z_abs (by decide +kernel) (pa_cons (pv 2) pa_nil)) pa_nil)) (pe_op op_powW (pe_op op_powW pe_int pe_int) pe_int)))
      (pss_cons (ps_set (i := 4) sc_l_dice.nd rfl (Or.inl rfl) (pe_op op_add (pe_op op_add (pe_op op_add (pe_op op_mul (pe_op op_mod (pe_callTy call_int1 (by rfl) z_int (by decide +kernel) (pa_cons (pv 3) pa_nil)) pe_int) pe_int) (pe_op op_mul pe_int (pv 1))) (pe_op op_mul pe_int (pe_callTy call_int1 (by rfl) z_int (by decide +kernel) (pa_cons (pe_cmpR op_lt (pv 2) pe_int (nomark _)) pa_nil)))) pe_int))
      (pss_one (ps_ret (pe_lst (pa_cons (pe_callB (call_max2 rfl) (by rfl) z_max (by decide +kernel) (pa_cons pe_int (pa_cons (pe_op op_sub (pv 3) (pe_op op_powW pe_int pe_int)) pa_nil))) (pa_cons (pe_op op_mod (pe_callTy call_int1 (by rfl) z_int (by decide +kernel) (pa_cons (pv 4) pa_nil)) pe_int) (pa_cons pe_int pa_nil))))))))), ?_⟩
    refine ⟨_, rfl, _, rfl, a, ns.map V.int, rfl, .inl hS, _, _, rfl, rfl, _, rfl, ite2 (fun e => ?_) (fun _ => ?_)⟩
    case' refine_2.refine_1 =>
      have lt : i < ((ns.map V.int).length : Int) := of_decide_eq_true e
      have il : i.toNat < ns.length := by
        rw [List.length_map] at lt
        omega
      have at_i : atI (ns.map V.int) i = some (.int ns[i.toNat]) := by
        refine at_of (j := i.toNat) (by omega) ?_
        rw [List.getElem?_map, List.getElem?_eq_getElem il]
        rfl
      refine ⟨_, rfl, _, rfl, a, _, i, _, rfl, rfl, hS, at_i, ?_⟩
      generalize ns[i.toNat] = cell
    case' refine_2.refine_2 =>
      refine ⟨_, rfl, _, _, rfl, rfl, by constructor <;> decide, _, _, rfl, rfl, ?_⟩
      generalize 71 * i + 37 = cell
    all_goals
      refine ⟨_, rfl, _, rfl, .inl ⟨_, rfl, _, _, rfl, rfl, pow_10_58, _, _, rfl, rfl, pow_10_580, _, _, rfl, rfl, pos_10_580, ?_⟩⟩
      refine ⟨_, rfl, .inl ⟨_, rfl, _, _, rfl, rfl, (by show (0 : Int) < _; decide), _, _, rfl, rfl, .inr (by constructor <;> decide), _, rfl, _, _, rfl, rfl, by constructor <;> decide, _, _, rfl, rfl, _, rfl, _, _, rfl, rfl, .inr ⟨_, rfl, ?_⟩⟩⟩
      refine ⟨_, _, rfl, rfl, by constructor <;> decide, _, _, rfl, rfl, _, _, rfl, rfl, ?_⟩
      refine ⟨_, rfl, _, _, rfl, rfl, pow_10_18, _, _, rfl, rfl, _, _, rfl, _, rfl, .inl ⟨_, rfl, _, _, rfl, rfl, (by show (0 : Int) < _; decide), ?_⟩⟩
      exact ⟨by show 3 ≤ sizeLine; decide, fun p hp => q p _ _ hp⟩

end
theorem at_of' {α : Type} {xs : List α} {z : Int} {j : Nat} {v : α} (e : z = (j : Int)) (h : xs[j]? = some v) : atI xs z = some v := by
  rw [e]
  exact atI_nat h
/-- what pick draws from: a list, a tuple or a text that is not empty; what may come of it -/
def Some1 (K : PySem.W.Frag) (H : Hp) (d : Addr) : V → (V → Prop) → Prop := fun x p =>
  (∃ l xs, x = .ref l ∧ l ≠ d ∧ (SqL K H l xs ∨ SqT K H l xs) ∧ xs ≠ [] ∧ xs.length ≤ 1000000 ∧ ∀ v ∈ xs, p v) ∨
  (∃ z : Str, x = .str z ∧ 0 < z.length ∧ z.length ≤ 1000000 ∧ ∀ c ∈ z.cps.toList, p (.str ⟨#[c]⟩))
/-- pick(dice, items): one of them -/
def spPick (K : PySem.W.Frag) : Sp := fun vs H Q _ => ∃ (d : Addr) (x : V) (p : V → Prop), vs = [.ref d, x] ∧ Dice H d ∧ Some1 K H d x p ∧ ∀ v H', Past d H H' → p v → Q v H'
theorem tup_past {K : PySem.W.Frag} {d a : Addr} {xs : List V} {H H' : Hp} (h : Past d H H') (n : a ≠ d) (s : SqT K H a xs) : SqT K H' a xs := by
  rcases s with (s | ⟨o, s⟩) | s
  · exact .inl (.inl (h.1 _ _ n s))
  · exact .inl (.inr ⟨o, h.1 _ _ n s⟩)
  · exact .inr s
section
variable {P : Program} {w : World} {K : PySem.W.Frag} {mg : Str → Option Value} {base : Heap}
theorem ok_pick (D : Df K mg "_law_pick" s_l_pick ["_law_dice_here", "_law_items"]) (G_l_roll : Cg P w K mg base 1 "_law_roll" spRoll) (z_len : mg "len" = none) : Cg P w K mg base 2 "_law_pick" (spPick K) := by
  refine D.ok sc_l_pick (fun vs H Q E h => ?_) (fun cdv A outer s H vs Q E f hc hr h => ?_)
  · obtain ⟨d, x, p, rfl, _⟩ := h
    rfl
  · obtain ⟨d, x, p, rfl, hd, hx, q⟩ := h
    refine ⟨_, (pss_one (ps_ret (pe_ix ix_seq (pv 1) (pe_cg G_l_roll hc hr (by rfl) (pa_cons (pv 0) (pa_cons (pe_callB call_len (by rfl) z_len (by decide +kernel) (pa_cons (pv 1) pa_nil)) pa_nil))) (fun _ _ => rfl)))), ?_⟩
    rcases hx with ⟨l, xs, rfl, ld, hs, ne, hl, hp⟩ | ⟨z, rfl, z0, hl, hp⟩
    · have x0 : 0 < xs.length := List.length_pos_iff.mpr ne
      refine ⟨_, rfl, _, rfl, _, rfl, _, xs.length, rfl, ?_, d, _, rfl, hd, by omega, small8000 hl, fun r H' pa r0 rn => ?_⟩
      · exact hs.elim (fun h => .inl ⟨_, h, rfl⟩) (fun h => .inr ⟨_, h, rfl⟩)
      · have rl : r.toNat < xs.length := by omega
        have at_r : atI xs r = some xs[r.toNat] := at_of (j := r.toNat) (by omega) (List.getElem?_eq_getElem rl)
        rcases hs with hs | hs
        · exact .inl ⟨l, xs, r, _, rfl, rfl, pa.seq ld hs, at_r, q _ _ pa (hp _ (List.getElem_mem rl))⟩
        · exact .inr (.inl ⟨l, xs, r, _, rfl, rfl, tup_past pa ld hs, at_r, q _ _ pa (hp _ (List.getElem_mem rl))⟩)
    · refine ⟨_, rfl, _, rfl, _, rfl, _, z.length, rfl, ⟨fits_million hl, rfl⟩, d, _, rfl, hd, by omega, small8000 hl, fun r H' pa r0 rn => ?_⟩
      have el : z.cps.toList.length = z.length := by simp [Str.length]
      have rl : r.toNat < z.cps.toList.length := by omega
      exact .inr (.inr ⟨z, r, _, rfl, rfl, fits_million hl, at_of' (j := r.toNat) (by omega) (List.getElem?_eq_getElem rl), q _ _ pa (hp _ (List.getElem_mem rl))⟩)
end
end K02
set_option Elab.async false
set_option linter.all false
set_option autoImplicit false
set_option maxRecDepth 100000
set_option maxHeartbeats 4000000
namespace K02
open Gd PySem PySem.Spec PyProof.Rows L2 Vb Wd Xe Xi Xm
abbrev s_l_kept_told : Stmt := topS 28
theorem sc_l_kept_told : FnScope ["_law_value", "_law_parse", "_law_name", "_law_key", "_law_path", "_law_where", "_law_number", "_law_many", "_law_limit", "_law_pledge", "_law_found"] ["_law_value"] (defScope s_l_kept_told) := ⟨rfl, rfl, rfl, by decide +kernel, rfl, by decide +kernel, by decide +kernel⟩
abbrev s_l_kept_due : Stmt := topS 30
theorem sc_l_kept_due : FnScope ["_law_value", "_law_found"] ["_law_value"] (defScope s_l_kept_due) := ⟨rfl, rfl, rfl, by decide +kernel, rfl, by decide +kernel, by decide +kernel⟩

theorem same_put {H H' : Hp} {D : Addr} {o : HO} (nD : H D = none) (s : Same H H') : Same H (upd H' D o) := fun b x e => by
  rw [upd_ne (ne_of_none e nD)]
  exact s b x e
/-! ### repr of any such value -/
def rReprD (K : PySem.W.Frag) : List V → Hp → VK → Prop := fun xs H Q => ∃ (v : V) (d : PyData), xs = [v] ∧ Dp K H v d ∧ d.showable = true ∧ d.hasDict = false ∧ d.depth < 64 ∧ d.shown.length ≤ sizeLine ∧ Q (.str d.shown) H
theorem cr_reprD {X : Cx} (hc : Calm X.A) (hu : X.A.units + 64 < cLine) : CallR X (.builtin "repr") (rReprD X.K) := by
  intro pins s σ H xs us Q I r h
  obtain ⟨v, d, rfl, hd, hs, hn, hz, hl, q⟩ := h
  obtain ⟨u, rfl, r1⟩ := vals1 r
  have same : ∀ {t : Tok}, Inv X pins σ H { s with toks := t } := fun {t} => I.kept (h' := s.heap) (t' := t) fun _ _ e => e
  cases hd with
  | non =>
    cases (show u = Value.none from r1)
    exact PySem.P.repr_of_none ⟨.str _, H, same, ⟨_, rfl⟩, q⟩
  | bl b =>
    cases (show u = Value.bool b from r1)
    exact PySem.P.repr_of_bool ⟨.str _, H, same, ⟨_, rfl⟩, q⟩
  | int i =>
    obtain ⟨t, rfl⟩ := r1
    exact PySem.P.repr_of_int (of_decide_eq_true hs) ⟨.str _, H, same, ⟨_, rfl⟩, q⟩
  | str x =>
    obtain ⟨t, rfl⟩ := r1
    exact PySem.P.repr_of_str ⟨.str _, H, same, ⟨_, rfl⟩, q⟩ (hsz := hl)
  | lst a b => exact call_repr_data hc hu pins s σ H _ _ Q I (.cons r1 .nil) ⟨_, _, rfl, .lst a b, hs, hn, hz, hl, q⟩
  | tup a b => exact call_repr_data hc hu pins s σ H _ _ Q I (.cons r1 .nil) ⟨_, _, rfl, .tup a b, hs, hn, hz, hl, q⟩
/-! ### the values that are kept -/
def Vk (K : PySem.W.Frag) (H : Hp) (v : V) (d : PyData) : Prop :=
  (v = .non ∧ d = .none) ∨ (∃ b, v = .bl b ∧ d = .bool b) ∨ (∃ i, v = .int i ∧ d = .int i) ∨ (∃ x, v = .str x ∧ d = .str x) ∨ (∃ a xs ds, v = .ref a ∧ H a = some (.tup xs) ∧ DpAll K H xs ds ∧ d = .tuple ds)
theorem Vk.dp {K : PySem.W.Frag} {H : Hp} {v : V} {d : PyData} (h : Vk K H v d) : Dp K H v d := by
  rcases h with ⟨rfl, rfl⟩ | ⟨b, rfl, rfl⟩ | ⟨i, rfl, rfl⟩ | ⟨x, rfl, rfl⟩ | ⟨a, xs, ds, rfl, e, r, rfl⟩
  · exact .non
  · exact .bl b
  · exact .int i
  · exact .str x
  · exact .tup (.inl (.inl e)) r
theorem Vk.same {K : PySem.W.Frag} {H H' : Hp} {v : V} {d : PyData} (s : Same H H') (h : Vk K H v d) : Vk K H' v d := by
  rcases h with h | h | h | h | ⟨a, xs, ds, rfl, e, r, rfl⟩
  · exact .inl h
  · exact .inr (.inl h)
  · exact .inr (.inr (.inl h))
  · exact .inr (.inr (.inr (.inl h)))
  · exact .inr (.inr (.inr (.inr ⟨a, xs, ds, rfl, s _ _ e, Dp.sameAll s ds xs r, rfl⟩)))
def idxD : PyData → PyData
  | .int i => if 0 ≤ i then .int i else .none
  | _ => .none
def spIdx (K : PySem.W.Frag) : Sp := fun vs H Q _ => ∃ v d, vs = [v] ∧ Vk K H v d ∧ ∀ u H', Same H H' → Vk K H' u (idxD d) → Q u H'
section
variable {P : Program} {w : World} {K : PySem.W.Frag} {mg : Str → Option Value} {base : Heap} {C : Nat → Addr}
theorem ok_l_index (D : Df K mg "_law_index" s_l_index ["_law_value"]) (z_isinstance : mg "isinstance" = none) (z_int : mg "int" = none) (z_bool : mg "bool" = none) : Cg P w K mg base 1 "_law_index" (spIdx K) := by
  refine D.ok sc_l_index (fun vs H Q E h => ?_) (fun cdv A outer s H vs Q E f hc hr h => ?_)
  · obtain ⟨v, d, rfl, _⟩ := h
    rfl
  · obtain ⟨v, d, rfl, hv, q⟩ := h
    refine ⟨_, (pss_cons (ps_set (i := 1) sc_l_index.nd rfl (Or.inl rfl) (pe_and (pe_callB call_isi (by rfl) z_isinstance (by decide +kernel) (pa_cons (pv 0) (pa_cons (pe_bltn (v := .ty "int") (by rfl) z_int (by decide +kernel) rfl) pa_nil))) (pe_and (pe_not (pe_callB call_isi (by rfl) z_isinstance (by decide +kernel) (pa_cons (pv 0) (pa_cons (pe_bltn (v := .ty "bool") (by rfl) z_bool (by decide +kernel) rfl) pa_nil)))) (pe_one (pe_cmpR op_ge (pv 0) pe_int (nomark _))))))
      (pss_one (ps_ret (pe_ifExp (pt_val (pv 1)) (pv 0) pe_non)))), ?_⟩
    have s0 := Same.refl H
    rcases hv with ⟨rfl, rfl⟩ | ⟨b, rfl, rfl⟩ | ⟨i, rfl, rfl⟩ | ⟨x, rfl, rfl⟩ | ⟨a, xs, ds, rfl, e, r, rfl⟩
    · exact ⟨_, rfl, _, _, _, _, false, rfl, .ty _, .base .non, kit_ty (by decide +kernel), _, rfl, iteF ⟨_, rfl, _, rfl, iteF (q _ H s0 (.inl ⟨rfl, rfl⟩))⟩⟩
    · refine ⟨_, rfl, _, _, _, _, true, rfl, .ty _, .base (.bl b), kit_ty ki_bi, _, rfl, iteT ⟨_, rfl, _, _, _, _, true, rfl, .ty _, .base (.bl b), kit_ty ki_bb, _, rfl, _, rfl, iteF ⟨_, rfl, _, rfl, iteF (q _ H s0 (.inl ⟨rfl, rfl⟩))⟩⟩⟩
    · refine ⟨_, rfl, _, _, _, _, true, rfl, .ty _, .base (.int i), kit_ty ki_ii, _, rfl, iteT ⟨_, rfl, _, _, _, _, false, rfl, .ty _, .base (.int i), kit_ty ki_ib, _, rfl, _, rfl, iteT ⟨_, rfl, _, _, rfl, rfl, _, rfl, _, rfl, ite2 (fun e => ⟨_, rfl, ?_⟩) (fun e => ?_)⟩⟩⟩
      · have e0 : idxD (.int i) = .int i := if_pos (of_decide_eq_true e)
        exact q _ H s0 (by rw [e0]; exact .inr (.inr (.inl ⟨i, rfl, rfl⟩)))
      · have e0 : idxD (.int i) = .none := if_neg fun z => e (decide_eq_true z)
        exact q _ H s0 (by rw [e0]; exact .inl ⟨rfl, rfl⟩)
    · exact ⟨_, rfl, _, _, _, _, false, rfl, .ty _, .base (.str x), kit_ty ki_si, _, rfl, iteF ⟨_, rfl, _, rfl, iteF (q _ H s0 (.inl ⟨rfl, rfl⟩))⟩⟩
    · exact ⟨_, rfl, _, _, _, _, false, rfl, .ty _, .base (.tup e), kit_ty (by decide +kernel), _, rfl, iteF ⟨_, rfl, _, rfl, iteF (q _ H s0 (.inl ⟨rfl, rfl⟩))⟩⟩
end
/-! ### what keeps -/
def fld : Nat → Str
  | 10 => "number" | 11 => "name" | 12 => "key" | 13 => "path" | 14 => "where" | 15 => "value" | 16 => "many" | 17 => "limit" | _ => "pledge"
structure Mk (P : Program) (w : World) (K : PySem.W.Frag) (mg : Str → Option Value) (base : Heap) (C fI : Nat → Addr) (fd : Nat → FuncData) (ps : Nat → List Str) : Prop where
  ei : ∀ i, 10 ≤ i → i < 19 → EI K (C i) (fI i)
  no : ∀ i, 10 ≤ i → i < 19 → PySem.W.findIn K (.ref (C i)) (fld i) = some none
  ok : ∀ i, 10 ≤ i → i < 19 → FnG P w K mg base 1 (fI i) (fd i) (ps i) (spSet K (C i) (fI i) (fld i))
  bind : ∀ i, 10 ≤ i → i < 19 → Binds K (fd i) (ps i) []
/-- an error of class i that keeps what reads d -/
def Kp (K : PySem.W.Frag) (C : Nat → Addr) (i : Nat) (d : PyData) (a : Addr) (H : Hp) : Prop := ∃ u dx, Vk K H u d ∧ H a = some (exo a (C i) (some dx)) ∧ H dx = some (exd dx [(fld i, u)])
theorem Kp.same {K : PySem.W.Frag} {C : Nat → Addr} {i : Nat} {d : PyData} {a : Addr} {H H' : Hp} (s : Same H H') (h : Kp K C i d a H) : Kp K C i d a H' := by
  obtain ⟨u, dx, hv, e1, e2⟩ := h
  exact ⟨u, dx, hv.same s, s _ _ e1, s _ _ e2⟩
def Gk (K : PySem.W.Frag) (C : Nat → Addr) (t : TE) (σ : L2.St) (H : Hp) (i : Nat) (d : PyData) : Prop := ∀ H1 Q, Same H H1 → (∀ a H', Same H1 H' → Kp K C i d a H' → Q (.ref a) H') → t σ H1 Q
section
variable {K : PySem.W.Frag} {C : Nat → Addr} {σ : L2.St} {H : Hp}
theorem gk_new {te : TE} {i : Nat} {d : PyData} (g : ∀ H1 Q, Same H H1 → (∀ u H', Same H1 H' → Vk K H' u d → Q u H') → te σ H1 Q) : Gk K C (tMkE (C i) (fld i) (tCons te tNil)) σ H i d := fun H1 Q s k =>
  g H1 _ s fun u H2 s2 hv => ⟨u, rfl, fun a dx na nd ne => by
    have sa := same_new (o := exo a (C i) (some dx)) na
    have sd := same_new (H := upd H2 a (exo a (C i) (some dx))) (o := exd dx [(fld i, u)]) (by rw [upd_ne ne]; exact nd)
    exact k a _ ((s2.trans sa).trans sd) ⟨u, dx, hv.same (sa.trans sd), by rw [upd_ne ne.symm, upd_same], upd_same⟩⟩
theorem gk_var {v : V} {i : Nat} {d : PyData} (h : σ[0]? = some (some v)) (hv : Vk K H v d) : Gk K C (tMkE (C i) (fld i) (tCons (tVar 0) tNil)) σ H i d := gk_new fun H1 Q s k => ⟨v, h, k v H1 (Same.refl _) (hv.same s)⟩
theorem gk_idx {v : V} {i : Nat} {d : PyData} (h : σ[0]? = some (some v)) (hv : Vk K H v d) : Gk K C (tMkE (C i) (fld i) (tCons (tCall (spIdx K) [] E0 (tCons (tVar 0) tNil)) tNil)) σ H i (idxD d) := gk_new fun H1 Q s k => ⟨v, h, v, d, rfl, hv.same s, fun u H' s' hu => k u H' s' hu⟩
theorem par3_go {i j l i1 i2 i3 : Nat} {d1 d2 d3 : PyData} {t1 t2 t3 : TE} {rest : TS} {D : Ends} (a : Gk K C t1 σ H i1 d1) (b : Gk K C t2 σ H i2 d2) (c : Gk K C t3 σ H i3 d3)
    (k : ∀ x y z H', Same H H' → Kp K C i1 d1 x H' → Kp K C i2 d2 y H' → Kp K C i3 d3 z H' → rest D (((σ.set i (some (.ref x))).set j (some (.ref y))).set l (some (.ref z))) H') : tSeq (tPar3 i j l (tCons t1 (tCons t2 (tCons t3 tNil)))) rest D σ H :=
  a H _ (Same.refl _) fun x H1 s1 p1 => b H1 _ s1 fun y H2 s2 p2 => c H2 _ (s1.trans s2) fun z H3 s3 p3 => ⟨_, _, _, rfl, k x y z H3 ((s1.trans s2).trans s3) (p1.same (s2.trans s3)) (p2.same s3) p3⟩
theorem gd_kept {j i : Nat} {a : Addr} {d : PyData} (T1 : EC K (C i)) (hi : i < 19) (no : PySem.W.findIn K (.ref (C i)) (fld i) = some none) (h : σ[j]? = some (some (.ref a))) (p : Kp K C i d a H) :
    GivesD K (tTup (tCons (tCall (spKinds K C) [] E0 (tCons (tVar j) tNil)) (tCons (tEf K (fld i) (tVar j)) tNil))) σ H (.tuple [kdD i, d]) := by
  refine gd_tup (gd_cons (fun H1 Q s k => ⟨.ref a, h, a, i, rfl, hi, ?_, fun q H' s' l => k (.ref q) H' s' (.lst (.inl (.inl l)) (dpAll_strs _))⟩) (gd_cons (fun H1 Q s k => ?_) gd_nil)) (by show 2 ≤ sizeLine; decide)
  · obtain ⟨u, dx, hv, e1, e2⟩ := p.same s
    exact .inr ⟨dx, _, e1, e2⟩
  · obtain ⟨u, dx, hv, e1, e2⟩ := p.same s
    exact ⟨.ref a, h, a, C i, dx, _, u, rfl, T1, no, e1, e2, by simp [List.lookup], k u H1 (Same.refl _) hv.dp⟩
end
def keptD (d : PyData) : List PyData := [.tuple [kdD 10, idxD d], .tuple [kdD 11, d], .tuple [kdD 12, d], .tuple [kdD 13, d], .tuple [kdD 14, d], .tuple [kdD 15, d], .tuple [kdD 16, d], .tuple [kdD 17, d], .tuple [kdD 18, d]]
def spKept (K : PySem.W.Frag) : Sp := fun vs H Q _ => ∃ v d, vs = [v] ∧ Vk K H v d ∧ ∀ u H', Same H H' → Dp K H' u (.list (keptD d)) → Q u H'
section
variable {P : Program} {w : World} {K : PySem.W.Frag} {mg : Str → Option Value} {base : Heap} {C fI : Nat → Addr} {fd : Nat → FuncData} {ps : Nat → List Str}
theorem ok_l_kept_told (D : Df K mg "_law_kept_told" s_l_kept_told ["_law_value"]) (T : Tab K mg C) (M : Mk P w K mg base C fI fd ps) (G_l_index : Cg P w K mg base 1 "_law_index" (spIdx K)) (G_l_kinds : Cg P w K mg base 2 "_law_kinds" (spKinds K C)) : Cg P w K mg base 3 "_law_kept_told" (spKept K) := by
  refine D.ok sc_l_kept_told (fun vs H Q E h => ?_) (fun cdv A outer s H vs Q E f hc hr h => ?_)
  · obtain ⟨v, d, rfl, _⟩ := h
    rfl
  · obtain ⟨v, d, rfl, hv, q⟩ := h
    refine ⟨_, (pss_cons (ps_par3 (i := 1) (j := 2) (l := 3) (by rfl) sc_l_kept_told.nd rfl rfl rfl (by decide) (by decide) (by decide) rfl rfl rfl (pa_cons (pe_mkE (f := fld 10) (M.ei 10 (by decide) (by decide)) (M.no 10 (by decide) (by decide)) (M.ok 10 (by decide) (by decide)) hc (hr.mono (by decide)) (M.bind 10 (by decide) (by decide)) (by rfl) (T.g 10 (by decide)) (pa_cons (pe_cg G_l_index hc hr (by rfl) (pa_cons (pv 0) pa_nil)) pa_nil)) (pa_cons (pe_mkE (f := fld 11) (M.ei 11 (by decide) (by decide)) (M.no 11 (by decide) (by decide)) (M.ok 11 (by decide) (by decide)) hc (hr.mono (by decide)) (M.bind 11 (by decide) (by decide)) (by rfl) (T.g 11 (by decide)) (pa_cons (pv 0) pa_nil)) (pa_cons (pe_mkE (f := fld 12) (M.ei 12 (by decide) (by decide)) (M.no 12 (by decide) (by decide)) (M.ok 12 (by decide) (by decide)) hc (hr.mono (by decide)) (M.bind 12 (by decide) (by decide)) (by rfl) (T.g 12 (by decide)) (pa_cons (pv 0) pa_nil)) pa_nil))) (by rfl))
      (pss_cons (ps_par3 (i := 4) (j := 5) (l := 6) (by rfl) sc_l_kept_told.nd rfl rfl rfl (by decide) (by decide) (by decide) rfl rfl rfl (pa_cons (pe_mkE (f := fld 13) (M.ei 13 (by decide) (by decide)) (M.no 13 (by decide) (by decide)) (M.ok 13 (by decide) (by decide)) hc (hr.mono (by decide)) (M.bind 13 (by decide) (by decide)) (by rfl) (T.g 13 (by decide)) (pa_cons (pv 0) pa_nil)) (pa_cons (pe_mkE (f := fld 14) (M.ei 14 (by decide) (by decide)) (M.no 14 (by decide) (by decide)) (M.ok 14 (by decide) (by decide)) hc (hr.mono (by decide)) (M.bind 14 (by decide) (by decide)) (by rfl) (T.g 14 (by decide)) (pa_cons (pv 0) pa_nil)) (pa_cons (pe_mkE (f := fld 15) (M.ei 15 (by decide) (by decide)) (M.no 15 (by decide) (by decide)) (M.ok 15 (by decide) (by decide)) hc (hr.mono (by decide)) (M.bind 15 (by decide) (by decide)) (by rfl) (T.g 15 (by decide)) (pa_cons (pv 0) pa_nil)) pa_nil))) (by rfl))
      (pss_cons (ps_par3 (i := 7) (j := 8) (l := 9) (by rfl) sc_l_kept_told.nd rfl rfl rfl (by decide) (by decide) (by decide) rfl rfl rfl (pa_cons (pe_mkE (f := fld 16) (M.ei 16 (by decide) (by decide)) (M.no 16 (by decide) (by decide)) (M.ok 16 (by decide) (by decide)) hc (hr.mono (by decide)) (M.bind 16 (by decide) (by decide)) (by rfl) (T.g 16 (by decide)) (pa_cons (pv 0) pa_nil)) (pa_cons (pe_mkE (f := fld 17) (M.ei 17 (by decide) (by decide)) (M.no 17 (by decide) (by decide)) (M.ok 17 (by decide) (by decide)) hc (hr.mono (by decide)) (M.bind 17 (by decide) (by decide)) (by rfl) (T.g 17 (by decide)) (pa_cons (pv 0) pa_nil)) (pa_cons (pe_mkE (f := fld 18) (M.ei 18 (by decide) (by decide)) (M.no 18 (by decide) (by decide)) (M.ok 18 (by decide) (by decide)) hc (hr.mono (by decide)) (M.bind 18 (by decide) (by decide)) (by rfl) (T.g 18 (by decide)) (pa_cons (pv 0) pa_nil)) pa_nil))) (by rfl))
      (pss_cons (ps_set (i := 10) sc_l_kept_told.nd rfl (Or.inl rfl) (pe_lst (pa_cons (pe_tup (pa_cons (pe_cg G_l_kinds hc hr (by rfl) (pa_cons (pv 1) pa_nil)) (pa_cons (pe_ef (f := "number") (pv 1)) pa_nil))) (pa_cons (pe_tup (pa_cons (pe_cg G_l_kinds hc hr (by rfl) (pa_cons (pv 2) pa_nil)) (pa_cons (pe_ef (f := "name") (pv 2)) pa_nil))) (pa_cons (pe_tup (pa_cons (pe_cg G_l_kinds hc hr (by rfl) (pa_cons (pv 3) pa_nil)) (pa_cons (pe_ef (f := "key") (pv 3)) pa_nil))) pa_nil)))))
      (pss_cons (ps_set (i := 10) sc_l_kept_told.nd rfl (Or.inl rfl) (pe_op op_cat (pv 10) (pe_lst (pa_cons (pe_tup (pa_cons (pe_cg G_l_kinds hc hr (by rfl) (pa_cons (pv 4) pa_nil)) (pa_cons (pe_ef (f := "path") (pv 4)) pa_nil))) (pa_cons (pe_tup (pa_cons (pe_cg G_l_kinds hc hr (by rfl) (pa_cons (pv 5) pa_nil)) (pa_cons (pe_ef (f := "where") (pv 5)) pa_nil))) pa_nil)))))
      (pss_cons (ps_expr (pe_bm PySem.F.plainAttrs_list PySem.F.slot_list_append PySem.F.type_list_append mt_append (pv 10) (pa_cons (pe_tup (pa_cons (pe_cg G_l_kinds hc hr (by rfl) (pa_cons (pv 6) pa_nil)) (pa_cons (pe_ef (f := "value") (pv 6)) pa_nil))) pa_nil)))
      (pss_cons (ps_set (i := 10) sc_l_kept_told.nd rfl (Or.inl rfl) (pe_op op_cat (pv 10) (pe_lst (pa_cons (pe_tup (pa_cons (pe_cg G_l_kinds hc hr (by rfl) (pa_cons (pv 7) pa_nil)) (pa_cons (pe_ef (f := "many") (pv 7)) pa_nil))) (pa_cons (pe_tup (pa_cons (pe_cg G_l_kinds hc hr (by rfl) (pa_cons (pv 8) pa_nil)) (pa_cons (pe_ef (f := "limit") (pv 8)) pa_nil))) pa_nil)))))
      (pss_one (ps_ret (pe_op op_cat (pv 10) (pe_lst (pa_cons (pe_tup (pa_cons (pe_cg G_l_kinds hc hr (by rfl) (pa_cons (pv 9) pa_nil)) (pa_cons (pe_ef (f := "pledge") (pv 9)) pa_nil))) pa_nil)))))))))))), ?_⟩
    refine par3_go (gk_idx rfl hv) (gk_var rfl hv) (gk_var rfl hv) fun a10 a11 a12 H1 s1 k10 k11 k12 => ?_
    have hv1 := hv.same s1
    refine par3_go (gk_var rfl hv1) (gk_var rfl hv1) (gk_var rfl hv1) fun a13 a14 a15 H2 s2 k13 k14 k15 => ?_
    have hv2 := hv1.same s2
    refine par3_go (gk_var rfl hv2) (gk_var rfl hv2) (gk_var rfl hv2) fun a16 a17 a18 H3 s3 k16 k17 k18 => ?_
    have t := fun (i : Nat) (hi : 10 ≤ i) (hi' : i < 19) {j : Nat} {a : Addr} {e : PyData} {σ : L2.St} {H : Hp} (h : σ[j]? = some (some (.ref a))) (p : Kp K C i e a H) => gd_kept (T.ec i hi') hi' (M.no i hi hi') h p
    have s23 := s2.trans s3
    refine asg_new (gd_lst (gd_cons (t 10 (by decide) (by decide) rfl (k10.same s23)) (gd_cons (t 11 (by decide) (by decide) rfl (k11.same s23)) (gd_cons (t 12 (by decide) (by decide) rfl (k12.same s23)) gd_nil))) (by show 3 ≤ sizeLine; decide)) fun p0 H4 x0 s4 n0 d0 => ?_
    have e0 := same_new (o := .lst x0) n0
    have s4' := s4.trans e0
    refine asg_new (gd_catV rfl upd_same (Dp.sameAll e0 _ _ d0) (gd_lst (gd_cons (t 13 (by decide) (by decide) rfl ((k13.same s3).same s4')) (gd_cons (t 14 (by decide) (by decide) rfl ((k14.same s3).same s4')) gd_nil)) (by show 2 ≤ sizeLine; decide)) (by show 3 + 2 ≤ sizeLine; decide)) fun p1 H5 x1 s5 n1 d1 => ?_
    have e1 := same_new (o := .lst x1) n1
    have s5' := (s4'.trans s5).trans e1
    -- found.append((kinds, value))
    obtain ⟨u, dx, hu, f1, f2⟩ := k15.same (s3.trans (s4'.trans s5))
    refine ⟨_, rfl, .inl ⟨rfl, _, .inl (.inl upd_same)⟩, _, rfl, a15, 15, rfl, by decide, .inr ⟨dx, _, e1 _ _ f1, e1 _ _ f2⟩, fun k Hk sk lk => ⟨_, rfl, a15, C 15, dx, _, u, rfl, T.ec 15 (by decide), M.no 15 (by decide) (by decide), sk _ _ (e1 _ _ f1), sk _ _ (e1 _ _ f2), by rfl, by show 2 ≤ sizeLine; decide, fun t0 nt => ?_⟩⟩
    have st := same_new (o := .tup [V.ref k, u]) nt
    have at1 : upd Hk t0 (.tup [V.ref k, u]) p1 = some (.lst x1) := st _ _ (sk _ _ upd_same)
    have kp : k ≠ p1 := fun z => by
      have lk' : Hk k = some (.lst ((kinds 15 7).map V.str)) := lk
      rw [z, sk _ _ upd_same] at lk'
      have ex : x1 = (kinds 15 7).map V.str := by
        injection lk' with lk'
        injection lk'
      rw [ex] at d1
      cases d1 with
      | cons a _ => cases a
    have tp : t0 ≠ p1 := fun z => by
      rw [z, upd_same] at at1
      cases at1
    have kt : k ≠ t0 := fun z => by
      have lk' : Hk k = some (.lst ((kinds 15 7).map V.str)) := lk
      rw [z, nt] at lk'
      cases lk'
    refine ⟨p1, x1, _, rfl, rfl, at1, by rw [dpAll_len d1]; show 5 < sizeLine; decide, ?_⟩
    have sf : Same H5 (upd (upd Hk t0 (.tup [V.ref k, u])) p1 (.lst (x1 ++ [V.ref t0]))) := same_put n1 ((e1.trans sk).trans st)
    have dt : Dp K (upd (upd Hk t0 (.tup [V.ref k, u])) p1 (.lst (x1 ++ [V.ref t0]))) (.ref t0) (.tuple [kdD 15, d]) := by
      have ek : upd (upd Hk t0 (.tup [V.ref k, u])) p1 (.lst (x1 ++ [V.ref t0])) k = some (HO.lst ((kinds 15 7).map V.str)) := by
        rw [upd_ne kp, upd_ne kt]
        exact lk
      exact .tup (.inl (.inl (by rw [upd_ne tp, upd_same]))) (.cons (.lst (.inl (.inl ek)) (dpAll_strs _)) (.cons (hu.same sf).dp .nil))
    have d3 := dpAll_app (Dp.sameAll sf _ _ d1) (.cons dt .nil)
    have s3f := (s4'.trans s5).trans sf
    refine asg_new (gd_catV rfl upd_same d3 (gd_lst (gd_cons (t 16 (by decide) (by decide) rfl (k16.same s3f)) (gd_cons (t 17 (by decide) (by decide) rfl (k17.same s3f)) gd_nil)) (by show 2 ≤ sizeLine; decide)) (by show 6 + 2 ≤ sizeLine; decide)) fun p2 H6 x2 s6 n2 d6 => ?_
    have e6 := same_new (o := .lst x2) n2
    have s3g := (s3f.trans s6).trans e6
    exact ret_new (gd_catV rfl upd_same (Dp.sameAll e6 _ _ d6) (gd_lst (gd_cons (t 18 (by decide) (by decide) rfl (k18.same s3g)) gd_nil) (by show 1 ≤ sizeLine; decide)) (by show 8 + 1 ≤ sizeLine; decide)) fun p3 H7 x3 s7 n3 d7 =>
      q (.ref p3) _ ((((s1.trans s23).trans s3g).trans s7).trans (same_new n3)) (.lst (.inl (.inl upd_same)) (Dp.sameAll (same_new n3) _ _ d7))
abbrev t4 (a b c : Str) (d : PyData) : PyData := .tuple [t3 a b c, d]
abbrev t4' (a b : Str) (d : PyData) : PyData := .tuple [t2 a b, d]
def dueK (d : PyData) : List PyData := [t4 "mend" "parse" "ValueError" (idxD d), t4 "unknown" "KeyError" "LookupError" d, t4 "absent" "KeyError" "LookupError" d, t4' "path" "LookupError" d, t4' "where" "LookupError" d, t4 "number" "IndexError" "LookupError" d, t4' "undo" "RuntimeError" d, t4 "many" "OverflowError" "ArithmeticError" d, t4' "refused" "ArithmeticError" d]
theorem kept_due (d : PyData) : keptD d = dueK d := rfl
theorem ok_l_kept_due (D : Df K mg "_law_kept_due" s_l_kept_due ["_law_value"]) (G_l_index : Cg P w K mg base 1 "_law_index" (spIdx K)) : Cg P w K mg base 2 "_law_kept_due" (spKept K) := by
  refine D.ok sc_l_kept_due (fun vs H Q E h => ?_) (fun cdv A outer s H vs Q E f hc hr h => ?_)
  · obtain ⟨v, d, rfl, _⟩ := h
    rfl
  · obtain ⟨v, d, rfl, hv, q⟩ := h
    refine ⟨_, (pss_cons (ps_set (i := 1) sc_l_kept_due.nd rfl (Or.inl rfl) (pe_lst (pa_cons (pe_tup (pa_cons (pe_lst (pa_cons pe_str (pa_cons pe_str (pa_cons pe_str pa_nil)))) (pa_cons (pe_cg G_l_index hc hr (by rfl) (pa_cons (pv 0) pa_nil)) pa_nil))) (pa_cons (pe_tup (pa_cons (pe_lst (pa_cons pe_str (pa_cons pe_str (pa_cons pe_str pa_nil)))) (pa_cons (pv 0) pa_nil))) pa_nil))))
      (pss_cons (ps_set (i := 1) sc_l_kept_due.nd rfl (Or.inl rfl) (pe_op op_cat (pv 1) (pe_lst (pa_cons (pe_tup (pa_cons (pe_lst (pa_cons pe_str (pa_cons pe_str (pa_cons pe_str pa_nil)))) (pa_cons (pv 0) pa_nil))) (pa_cons (pe_tup (pa_cons (pe_lst (pa_cons pe_str (pa_cons pe_str pa_nil))) (pa_cons (pv 0) pa_nil))) pa_nil)))))
      (pss_cons (ps_set (i := 1) sc_l_kept_due.nd rfl (Or.inl rfl) (pe_op op_cat (pv 1) (pe_lst (pa_cons (pe_tup (pa_cons (pe_lst (pa_cons pe_str (pa_cons pe_str pa_nil))) (pa_cons (pv 0) pa_nil))) (pa_cons (pe_tup (pa_cons (pe_lst (pa_cons pe_str (pa_cons pe_str (pa_cons pe_str pa_nil)))) (pa_cons (pv 0) pa_nil))) pa_nil)))))
      (pss_cons (ps_set (i := 1) sc_l_kept_due.nd rfl (Or.inl rfl) (pe_op op_cat (pv 1) (pe_lst (pa_cons (pe_tup (pa_cons (pe_lst (pa_cons pe_str (pa_cons pe_str pa_nil))) (pa_cons (pv 0) pa_nil))) (pa_cons (pe_tup (pa_cons (pe_lst (pa_cons pe_str (pa_cons pe_str (pa_cons pe_str pa_nil)))) (pa_cons (pv 0) pa_nil))) pa_nil)))))
      (pss_one (ps_ret (pe_op op_cat (pv 1) (pe_lst (pa_cons (pe_tup (pa_cons (pe_lst (pa_cons pe_str (pa_cons pe_str pa_nil))) (pa_cons (pv 0) pa_nil))) pa_nil))))))))), ?_⟩
    have c3 : ∀ {H1 : Hp} {σ : L2.St} (a b c : Str) (e : PyData) (te : TE), GivesD K te σ H1 e → GivesD K (tTup (tCons (tLst (tCons (tC (.str a)) (tCons (tC (.str b)) (tCons (tC (.str c)) tNil)))) (tCons te tNil))) σ H1 (t4 a b c e) := fun a b c e te g =>
      gd_tup (gd_cons (gd_lst (gd_cons gd_str (gd_cons gd_str (gd_cons gd_str gd_nil))) (by show 3 ≤ sizeLine; decide)).data (gd_cons g gd_nil)) (by show 2 ≤ sizeLine; decide)
    have c2 : ∀ {H1 : Hp} {σ : L2.St} (a b : Str) (e : PyData) (te : TE), GivesD K te σ H1 e → GivesD K (tTup (tCons (tLst (tCons (tC (.str a)) (tCons (tC (.str b)) tNil))) (tCons te tNil))) σ H1 (t4' a b e) := fun a b e te g =>
      gd_tup (gd_cons (gd_lst (gd_cons gd_str (gd_cons gd_str gd_nil)) (by show 2 ≤ sizeLine; decide)).data (gd_cons g gd_nil)) (by show 2 ≤ sizeLine; decide)
    have two : ∀ {H1 : Hp} {σ : L2.St} {t u : TE} {a b : PyData}, GivesD K t σ H1 a → GivesD K u σ H1 b → GivesN K (tLst (tCons t (tCons u tNil))) σ H1 [a, b] := fun g g' => gd_lst (gd_cons g (gd_cons g' gd_nil)) (by show 2 ≤ sizeLine; decide)
    have gi : GivesD K (tCall (spIdx K) [] E0 (tCons (tVar 0) tNil)) (start ["_law_value", "_law_found"] [v]) H (idxD d) := fun H1 Q s k => ⟨v, rfl, v, d, rfl, hv.same s, fun u H' s' hu => k u H' s' hu.dp⟩
    refine asg_new (two (c3 _ _ _ _ _ gi) (c3 _ _ _ _ _ (gd_var rfl hv.dp))) fun p0 H0 x0 s0 n0 d0 => ?_
    have e0 := same_new (o := .lst x0) n0
    have v0 := hv.same (s0.trans e0)
    refine asg_new (gd_catV rfl upd_same (Dp.sameAll e0 _ _ d0) (two (c3 _ _ _ _ _ (gd_var rfl v0.dp)) (c2 _ _ _ _ (gd_var rfl v0.dp))) (by show 2 + 2 ≤ sizeLine; decide)) fun p1 H1 x1 s1 n1 d1 => ?_
    have e1 := same_new (o := .lst x1) n1
    have v1 := v0.same (s1.trans e1)
    refine asg_new (gd_catV rfl upd_same (Dp.sameAll e1 _ _ d1) (two (c2 _ _ _ _ (gd_var rfl v1.dp)) (c3 _ _ _ _ _ (gd_var rfl v1.dp))) (by show 4 + 2 ≤ sizeLine; decide)) fun p2 H2 x2 s2 n2 d2 => ?_
    have e2 := same_new (o := .lst x2) n2
    have v2 := v1.same (s2.trans e2)
    refine asg_new (gd_catV rfl upd_same (Dp.sameAll e2 _ _ d2) (two (c2 _ _ _ _ (gd_var rfl v2.dp)) (c3 _ _ _ _ _ (gd_var rfl v2.dp))) (by show 6 + 2 ≤ sizeLine; decide)) fun p3 H3 x3 s3 n3 d3 => ?_
    have e3 := same_new (o := .lst x3) n3
    have v3 := v2.same (s3.trans e3)
    exact ret_new (gd_catV rfl upd_same (Dp.sameAll e3 _ _ d3) (gd_lst (gd_cons (c2 _ _ _ _ (gd_var rfl v3.dp)) gd_nil) (by show 1 ≤ sizeLine; decide)) (by show 8 + 1 ≤ sizeLine; decide)) fun p4 H4 x4 s4 n4 d4 =>
      q (.ref p4) _ (((((((((s0.trans e0).trans s1).trans e1).trans s2).trans e2).trans s3).trans e3).trans s4).trans (same_new n4)) (.lst (.inl (.inl upd_same)) (kept_due d ▸ Dp.sameAll (same_new n4) _ _ d4 : DpAll K _ x4 (keptD d)))
end
end K02
set_option Elab.async false
set_option linter.all false
set_option autoImplicit false
set_option maxRecDepth 100000
set_option maxHeartbeats 4000000
namespace K02
open Gd Xp Xr Xt L2H PySem PySem.Spec PyProof.Rows L2 Vb Wd Xe Xi Xm
abbrev s_l_caught : Stmt := topS 31
theorem sc_l_caught : FnScope ["_law_value", "_law_way", "e"] ["_law_value", "_law_way"] (defScope s_l_caught) := ⟨rfl, rfl, rfl, by decide +kernel, rfl, by decide +kernel, by decide +kernel⟩

def okD (d : PyData) : Prop := d.showable = true ∧ d.hasDict = false ∧ d.depth < 60 ∧ d.shown.length ≤ 1000
/-- what the written part tells of raising and catching -/
structure Tab3 (K : PySem.W.Frag) (C : Nat → Addr) : Prop where
  ex : ∀ i j, i < 19 → (j = 0 ∨ j = 11 ∨ j = 17) → PySem.W.exmOne K (.ref (C i)) (.ref (C j)) = some (tab i j)
  xf : ∀ i, 10 ≤ i → i < 19 → XfC K (C i)
  s7 : PySem.W.subIn K (.ref (C 7)) (.type "BaseException") = some true
  t7 : PySem.W.typeIn K (.ref (C 7)) = some (.type "type")
/-- _law_own_kinds(e), e caught at a, in slot i -/
def tOwnA (C : Nat → Addr) (a : Addr) (cls : Value) (d : Option Addr) (n : Nat) : TE := fun σ H Q => σ[n]? = some (some (.ref a)) ∧ ∃ i, i < 19 ∧ cls = .ref (C i) ∧ (∀ dd, d = some dd → ∃ fs, H dd = some (.xd fs)) ∧ ∀ p H', Same H H' → LS H' p (own i 18) → Q (.ref p) H'
theorem pe_ownA {X : Cx} {C : Nat → Addr} {a : Addr} {oe : Obj} {cls : Value} {d : Option Addr} {pn : List (Addr × Obj)} {f : Addr} {fd : FuncData} {ps : List Str} {k n : Nat} {p pos : Pos} {e : Expr} (hz : Zc cls d oe) (hf : ∃ vs, oe.data = .fields vs)
    (F : FnP X.prog X.w X.K X.mg X.base k f fd ps (spOwnP X.K C)) (hc : Calm X.A) (hr : RoomH k (X.A.mark (some (.ref a)))) (hg : Gl X "_law_own_kinds") (hm : X.mg "_law_own_kinds" = some (.ref f)) (hk : PySem.W.keepIn X.K (.ref f) = true) (hb : Binds X.K fd ps [])
    (he : PE (X.suite a ((a, oe) :: pn)) e (tVar n)) (hs : starEach [e] (X.suite a ((a, oe) :: pn)).env = (false, eval e (X.suite a ((a, oe) :: pn)).env) :: starEach [] (X.suite a ((a, oe) :: pn)).env := by rfl) : PE (X.suite a ((a, oe) :: pn)) (.Call (.Name "_law_own_kinds" p) [e] [] pos) (tOwnA C a cls d n) := by
  have r := pe_callP (X := X.suite a ((a, oe) :: pn)) (h := (a, oe)) (p := p) (pos := pos) F List.mem_cons_self hc hr hg hm hk hb (pa_cons he pa_nil (hs := hs)) (by decide) hs (by rfl)
  refine ⟨fun pins s σ H Q I h => r.run pins s σ H Q I ?_⟩
  obtain ⟨h1, i, hi, hcl, hd, q⟩ := h
  exact ⟨.ref a, h1, i, d, rfl, hi, hcl ▸ hz, hf, hd, q⟩
theorem room_mark {A : Around} {v : Option Value} (r : Room 2 A) : RoomH 1 (A.mark v) := ⟨by have := r.dp; show A.depth + 3 * 1 + 5 < _; omega, by have := r.un; show A.units + 16 * 1 + 200 < _; omega⟩
def caughtT (d : PyData) : Nat → Str
  | 0 => "mend ['mend', 'shape']" | 1 => "mend ['mend', 'parse']" | 2 => "many " ++ d.shown | _ => "unknown " ++ d.shown
theorem me7 (d : PyData) : ("mend " : Str) ++ (PyData.list ((own 7 18).map .str)).shown = caughtT d 0 := by
  show _ = ("mend ['mend', 'shape']" : Str)
  decide +kernel
theorem me10 (d : PyData) : ("mend " : Str) ++ (PyData.list ((own 10 18).map .str)).shown = caughtT d 1 := by
  show _ = ("mend ['mend', 'parse']" : Str)
  decide +kernel
def spCaught (K : PySem.W.Frag) : Sp := fun vs H Q _ => ∃ v d n, vs = [v, .int (n : Nat)] ∧ n < 4 ∧ Vk K H v d ∧ okD d ∧ ∀ H', Same H H' → Q (.str (caughtT d n)) H'
section
variable {P : Program} {w : World} {K : PySem.W.Frag} {mg : Str → Option Value} {base : Heap} {C fI : Nat → Addr} {fd : Nat → FuncData} {ps : Nat → List Str}
theorem ok_l_caught {fo : Addr} {fdo : FuncData} (D : Df K mg "_law_caught" s_l_caught ["_law_value", "_law_way"]) (T : Tab K mg C) (T2 : Tab2 K C) (T3 : Tab3 K C) (M : Mk P w K mg base C fI fd ps) (G_l_index : Cg P w K mg base 1 "_law_index" (spIdx K)) (Fo : FnP P w K mg base 1 fo fdo ["_law_error"] (spOwnP K C)) (mo : mg "_law_own_kinds" = some (.ref fo)) (ko : PySem.W.keepIn K (.ref fo) = true) (bo : Binds K fdo ["_law_error"] []) (z_repr : mg "repr" = none) :
    Cg P w K mg base 3 "_law_caught" (spCaught K) := by
  refine D.ok sc_l_caught (fun vs H Q E h => ?_) (fun cdv A outer s H vs Q E f hc hr h => ?_)
  · obtain ⟨v, d, n, rfl, _⟩ := h
    rfl
  · obtain ⟨v, d, n, rfl, hn, hv, hd, q⟩ := h
    refine ⟨_, pss_one (ps_tries (by rfl) (by rfl) sc_l_caught.nd takes_none5 (fun W pn xe tk hpo =>
      (pss_cons (ps_if (pt_cmpR op_eq (pv 1) pe_int (nomark _)) (pss_one (ps_raise (by rfl) tk (pmk_own PySem.F.excBase_ValueError (T2.exc 7 (by decide)) (T.g 7 (by decide)) (T2.kp 7 (by decide)) (raises_own T3.s7 T3.t7) (by rfl)))) pss_nil)
      (pss_cons (ps_if (pt_cmpR op_eq (pv 1) pe_int (nomark _)) (pss_one (ps_raise (by rfl) tk (pmk_E (f := fld 10) (M.ei 10 (by decide) (by decide)) (M.no 10 (by decide) (by decide)) (M.ok 10 (by decide) (by decide)) hc (hr.mono (by decide)) (M.bind 10 (by decide) (by decide)) (by rfl) (T.g 10 (by decide)) (pa_cons (pe_cg G_l_index hc hr (by rfl) (pa_cons (pv 0) pa_nil)) pa_nil)))) pss_nil)
      (pss_cons (ps_if (pt_cmpR op_eq (pv 1) pe_int (nomark _)) (pss_one (ps_raise (by rfl) tk (pmk_E (f := fld 17) (M.ei 17 (by decide) (by decide)) (M.no 17 (by decide) (by decide)) (M.ok 17 (by decide) (by decide)) hc (hr.mono (by decide)) (M.bind 17 (by decide) (by decide)) (by rfl) (T.g 17 (by decide)) (pa_cons (pv 0) pa_nil)))) pss_nil)
      (pss_one (ps_raise (by rfl) tk (pmk_E (f := fld 11) (M.ei 11 (by decide) (by decide)) (M.no 11 (by decide) (by decide)) (M.ok 11 (by decide) (by decide)) hc (hr.mono (by decide)) (M.bind 11 (by decide) (by decide)) (by rfl) (T.g 11 (by decide)) (pa_cons (pv 0) pa_nil))))))))
      (.cons (i := 2) ⟨by rfl, by decide, .inl (T.g 0 (by decide))⟩ rfl rfl (fun a oe cls d pn hz hf => pss_one (ps_ret (pe_op op_add_str pe_str (pe_callB (cr_reprD hc hr.units : CallR _ (.builtin "repr") (rReprD K)) (by rfl) z_repr (by decide +kernel) (pa_cons (pe_ownA hz hf Fo hc (room_mark hr) (by rfl) mo ko bo (pv 2)) pa_nil)))))
      (.cons (i := 2) ⟨by rfl, by decide, .inl (T.g 17 (by decide))⟩ rfl rfl (fun a oe cls d pn hz hf => pss_one (ps_ret (pe_op op_add_str pe_str (pe_callB (cr_reprD hc hr.units : CallR _ (.builtin "repr") (rReprD K)) (by rfl) z_repr (by decide +kernel) (pa_cons (pe_xf (n := fld 17) (T3.xf 17 (by decide) (by decide)) (M.no 17 (by decide) (by decide)) hz hf (pv 2)) pa_nil)))))
      (.cons (i := 2) ⟨by rfl, by decide, .inl (T.g 11 (by decide))⟩ rfl rfl (fun a oe cls d pn hz hf => pss_one (ps_ret (pe_op op_add_str pe_str (pe_callB (cr_reprD hc hr.units : CallR _ (.builtin "repr") (rReprD K)) (by rfl) z_repr (by decide +kernel) (pa_cons (pe_xf (n := fld 11) (T3.xf 11 (by decide) (by decide)) (M.no 11 (by decide) (by decide)) hz hf (pv 2)) pa_nil)))))
      .nil)))), ?_⟩
    have no : ∀ {b : Bool}, b = false → b = true → False := fun h e => by rw [h] at e; cases e
    have mendT : ∀ (i n : Nat) (cls : Value) (d' : Option Addr) (a : Addr) (σ : L2.St) (H1 : Hp), i = 7 ∨ i = 10 → ("mend " : Str) ++ (PyData.list ((own i 18).map .str)).shown = caughtT d n → Same H H1 → σ[2]? = some (some (.ref a)) → cls = .ref (C i) → (∀ dd, d' = some dd → ∃ fs, H1 dd = some (.xd fs)) → (∀ H', Same H H' → Q (.str (caughtT d n)) H') →
        tRet (tOp (fun x y H Q => ∃ i j, x = V.str i ∧ y = V.str j ∧ i.length + j.length ≤ sizeLine ∧ Q (V.str (i ++ j)) H) (tC (V.str "mend ")) (tCB (rReprD K) (tCons (tOwnA C a cls d' 2) tNil))) { nx := fun _ _ => False, rt := Q } σ H1 := fun i n cls d' a σ H1 hi me s1 h2 hcl hxd q => by
      have facts : (PyData.list ((own i 18).map .str)).showable = true ∧ (PyData.list ((own i 18).map .str)).hasDict = false ∧ (PyData.list ((own i 18).map .str)).depth < 64 ∧ (PyData.list ((own i 18).map .str)).shown.length ≤ 100 := by
        rcases hi with rfl | rfl <;> decide +kernel
      obtain ⟨g1, g2, g3, g4⟩ := facts
      refine ⟨h2, i, by omega, hcl, hxd, fun p H' s' l => ⟨.ref p, _, rfl, .lst (.inl (.inl l)) (dpAll_strs _), g1, g2, g3, Nat.le_trans g4 (by decide), _, _, rfl, rfl, Nat.le_trans (Nat.add_le_add (show _ ≤ 100 by decide) g4) (by decide), ?_⟩⟩
      rw [me]
      exact q _ (s1.trans s')
    obtain ⟨o1, o2, o3, o4⟩ := hd
    have cases4 : n = 0 ∨ n = 1 ∨ n = 2 ∨ n = 3 := by omega
    rcases cases4 with rfl | rfl | rfl | rfl
    · refine ⟨_, rfl, rfl, _, rfl, ite2 (fun _ => ?_) (fun e => absurd (by decide) e)⟩
      exact ⟨_, T3.ex 7 0 (by decide) (.inl rfl), fun _ a na => mendT 7 0 _ none a _ _ (.inl rfl) (me7 d) (Same.refl H) rfl rfl nofun q, fun e => absurd e (by decide)⟩
    · refine ⟨_, rfl, rfl, _, rfl, ite2 (fun e => absurd e (by decide)) (fun _ => ⟨_, rfl, rfl, _, rfl, ite2 (fun _ => ?_) (fun e => absurd (by decide) e)⟩)⟩
      refine ⟨_, rfl, v, d, rfl, hv, fun u H1 s1 hu => ⟨u, rfl, fun dx nx => ?_⟩⟩
      exact ⟨_, T3.ex 10 0 (by decide) (.inl rfl), fun _ a na => mendT 10 1 _ (some dx) a _ _ (.inr rfl) (me10 d) (s1.trans (same_new nx)) rfl rfl (fun dd e => ⟨_, by cases e; exact upd_same⟩) q, fun e => absurd e (by decide)⟩
    · refine ⟨_, rfl, rfl, _, rfl, ite2 (fun e => absurd e (by decide)) (fun _ => ⟨_, rfl, rfl, _, rfl, ite2 (fun e => absurd e (by decide)) (fun _ => ⟨_, rfl, rfl, _, rfl, ite2 (fun _ => ?_) (fun e => absurd (by decide) e)⟩)⟩)⟩
      refine ⟨_, rfl, v, rfl, fun dx nx => ⟨_, T3.ex 17 0 (by decide) (.inl rfl), fun e => absurd e (by decide), fun _ => ⟨_, T3.ex 17 17 (by decide) (.inr (.inr rfl)), fun _ a na => ?_, fun e => absurd e (by decide)⟩⟩⟩
      exact ⟨_, rfl, rfl, rfl, dx, _, v, rfl, upd_same, by rfl, v, d, rfl, (hv.same (same_new nx)).dp, o1, o2, Nat.lt_trans o3 (by decide), Nat.le_trans o4 (by decide), _, _, rfl, rfl, Nat.le_trans (Nat.add_le_add (show _ ≤ 100 by decide) o4) (by decide), q _ (same_new nx)⟩
    · refine ⟨_, rfl, rfl, _, rfl, ite2 (fun e => absurd e (by decide)) (fun _ => ⟨_, rfl, rfl, _, rfl, ite2 (fun e => absurd e (by decide)) (fun _ => ⟨_, rfl, rfl, _, rfl, ite2 (fun e => absurd e (by decide)) (fun _ => ?_)⟩)⟩)⟩
      refine ⟨_, rfl, v, rfl, fun dx nx => ⟨_, T3.ex 11 0 (by decide) (.inl rfl), fun e => absurd e (by decide), fun _ => ⟨_, T3.ex 11 17 (by decide) (.inr (.inr rfl)), fun e => absurd e (by decide), fun _ => ⟨_, T3.ex 11 11 (by decide) (.inr (.inl rfl)), fun _ a na => ?_, fun e => absurd e (by decide)⟩⟩⟩⟩
      exact ⟨_, rfl, rfl, rfl, dx, _, v, rfl, upd_same, by rfl, v, d, rfl, (hv.same (same_new nx)).dp, o1, o2, Nat.lt_trans o3 (by decide), Nat.le_trans o4 (by decide), _, _, rfl, rfl, Nat.le_trans (Nat.add_le_add (show _ ≤ 100 by decide) o4) (by decide), q _ (same_new nx)⟩
end
end K02
set_option Elab.async false
set_option linter.all false
set_option autoImplicit false
set_option maxRecDepth 100000
set_option maxHeartbeats 4000000
namespace K02
open Gd PySem PySem.Spec PyProof.Rows L2 Vb Wd Xe Xi Xm
abbrev s_l_right : Stmt := topS 32
theorem sc_l_right : FnScope ["_law_value", "_law_told", "_law_due", "_law_way"] ["_law_value"] (defScope s_l_right) := ⟨rfl, rfl, rfl, by decide +kernel, rfl, by decide +kernel, by decide +kernel⟩
abbrev s_law : Stmt := topS 33
theorem sc_law : FnScope ["_law_script", "_law_spot", "_law_dice_here", "_law_number", "_law_some", "_law_value"] ["_law_script"] (defScope s_law) := ⟨rfl, rfl, rfl, by decide +kernel, rfl, by decide +kernel, by decide +kernel⟩

theorem eqv_strs : ∀ ys zs : List Str, PyData.eqvAll (ys.map PyData.str) (zs.map PyData.str) = decide (ys = zs)
  | [], [] => rfl
  | [], z :: zs => by simp [PyData.eqvAll]
  | y :: ys, [] => by simp [PyData.eqvAll]
  | y :: ys, z :: zs => by
    show (PyData.eqv (.str y) (.str z) && PyData.eqvAll (ys.map PyData.str) (zs.map PyData.str)) = _
    rw [eqv_strs ys zs]
    by_cases e : y = z
    · subst e
      by_cases e2 : ys = zs
      · subst e2; simp [PyData.eqv]
      · simp [PyData.eqv, e2]
    · simp [PyData.eqv, e]
theorem eqv_list (ys zs : List Str) : PyData.eqv (.list (ys.map PyData.str)) (.list (zs.map PyData.str)) = decide (ys = zs) := by
  rw [← eqv_strs]
  simp [PyData.eqv]
def Lay (y : Str) : Prop := ∀ c ∈ y.cps.toList, c < 0x110000
theorem lay_app {x y : Str} (a : Lay x) (b : Lay y) : Lay (x ++ y) := fun c hc => by
  have e : (x ++ y).cps.toList = x.cps.toList ++ y.cps.toList := by
    show (x.cps ++ y.cps).toList = _
    exact Array.toList_append
  rw [e] at hc
  exact (List.mem_append.mp hc).elim (a c) (b c)
theorem lay_lit {z : Str} (h : z.cps.toList.all (· < 0x110000) = true) : Lay z := fun c hc => of_decide_eq_true (List.all_eq_true.mp h c hc)
theorem layL : ∀ l : List Str, (∀ y ∈ l, Lay y) → PyData.canLayAll0 (l.map PyData.str) = true ∧ PyData.depthAll (l.map PyData.str) = 0
  | [], _ => ⟨rfl, rfl⟩
  | y :: l, h => by
    obtain ⟨h1, h2⟩ := layL l fun z hz => h z (List.mem_cons_of_mem _ hz)
    constructor
    · show (PyData.canLay0 (.str y) && PyData.canLayAll0 (l.map PyData.str)) = true
      rw [h1, Bool.and_true]
      show y.cps.all (· < 0x110000) = true
      rw [← Array.all_toList, List.all_eq_true]
      exact fun c hc => decide_eq_true (h y List.mem_cons_self c hc)
    · show max (PyData.depth (.str y)) (PyData.depthAll (l.map PyData.str)) = 0
      rw [h2]
      rfl
theorem shapedL {l : List Str} (h : ∀ y ∈ l, Lay y) : SeqAt.shaped (.list (l.map PyData.str)) = true := by
  obtain ⟨h1, h2⟩ := layL l h
  show (PyData.canLay0 (.list (l.map PyData.str)) && decide (PyData.depth (.list (l.map PyData.str)) ≤ 64)) = true
  rw [show PyData.canLay0 (.list (l.map PyData.str)) = true from h1, Bool.true_and]
  exact decide_eq_true (by show PyData.depthAll _ + 1 ≤ 64; rw [h2]; decide)
theorem lay_caught {d : PyData} (h : Lay d.shown) : ∀ n, Lay (caughtT d n)
  | 0 => lay_lit (z := "mend ['mend', 'shape']") (by decide +kernel)
  | 1 => lay_lit (z := "mend ['mend', 'parse']") (by decide +kernel)
  | 2 => lay_app (lay_lit (by decide +kernel)) h
  | _ + 3 => lay_app (lay_lit (by decide +kernel)) h
/-! ### what is kept, written out -/
theorem kd_ok : ∀ i, i < 19 → (kdD i).showable = true ∧ (kdD i).hasDict = false ∧ (kdD i).depth ≤ 60 ∧ (kdD i).shown.length ≤ 200 := by decide +kernel
theorem idx_ok {d : PyData} (h : okD d) : okD (idxD d) := by
  have n : okD .none := ⟨rfl, rfl, by decide, by decide +kernel⟩
  cases d with
  | int i =>
    show okD (if 0 ≤ i then .int i else .none)
    split
    · exact h
    · exact n
  | _ => exact n
theorem tup_ok {i : Nat} (hi : i < 19) {d : PyData} (h : okD d) : (PyData.tuple [kdD i, d]).showable = true ∧ (PyData.tuple [kdD i, d]).hasDict = false ∧ (PyData.tuple [kdD i, d]).depth ≤ 61 ∧ (PyData.tuple [kdD i, d]).shown.length ≤ 1300 := by
  obtain ⟨a1, a2, a3, a4⟩ := kd_ok i hi
  obtain ⟨o1, o2, o3, o4⟩ := h
  refine ⟨?_, ?_, ?_, ?_⟩
  · show (PyData.showable (kdD i) && (PyData.showable d && true)) = true
    rw [a1, o1]; rfl
  · show (PyData.hasDict (kdD i) || (PyData.hasDict d || false)) = false
    rw [a2, o2]; rfl
  · show max (PyData.depth (kdD i)) (max (PyData.depth d) 0) + 1 ≤ 61
    omega
  · have e := tupleText_len_le [(kdD i).shown, d.shown]
    have e2 : (PyData.tuple [kdD i, d]).shown = tupleText [(kdD i).shown, d.shown] := by simp only [PyData.shown, PyData.shownAll]
    rw [e2]
    simp only [List.map_cons, List.map_nil, List.sum_cons, List.sum_nil, List.length_cons, List.length_nil] at e
    omega
theorem lst_ok : ∀ {l : List PyData}, (∀ x ∈ l, x.showable = true ∧ x.hasDict = false ∧ x.depth ≤ 61 ∧ x.shown.length ≤ 1300) → PyData.showableAll l = true ∧ PyData.hasDictAll l = false ∧ PyData.depthAll l ≤ 61 ∧ ((PyData.shownAll l).map (·.length)).sum ≤ 1300 * l.length ∧ (PyData.shownAll l).length = l.length
  | [], _ => ⟨rfl, rfl, Nat.zero_le _, Nat.zero_le _, rfl⟩
  | x :: l, h => by
    obtain ⟨a1, a2, a3, a4⟩ := h x List.mem_cons_self
    obtain ⟨b1, b2, b3, b4, b5⟩ := lst_ok (l := l) fun z hz => h z (List.mem_cons_of_mem _ hz)
    refine ⟨?_, ?_, ?_, ?_, ?_⟩
    · show (PyData.showable x && PyData.showableAll l) = true
      rw [a1, b1]; rfl
    · show (PyData.hasDict x || PyData.hasDictAll l) = false
      rw [a2, b2]; rfl
    · show max (PyData.depth x) (PyData.depthAll l) ≤ 61
      omega
    · show (PyData.shown x).length + ((PyData.shownAll l).map (·.length)).sum ≤ 1300 * (l.length + 1)
      omega
    · show (PyData.shownAll l).length + 1 = l.length + 1
      rw [b5]
theorem kept_ok {d : PyData} (h : okD d) : (PyData.list (keptD d)).showable = true ∧ (PyData.list (keptD d)).hasDict = false ∧ (PyData.list (keptD d)).depth < 64 ∧ (PyData.list (keptD d)).shown.length ≤ sizeLine := by
  have all : ∀ x ∈ keptD d, x.showable = true ∧ x.hasDict = false ∧ x.depth ≤ 61 ∧ x.shown.length ≤ 1300 := fun x hx => by
    unfold keptD at hx
    simp only [List.mem_cons, List.not_mem_nil, or_false] at hx
    rcases hx with rfl | rfl | rfl | rfl | rfl | rfl | rfl | rfl | rfl
    · exact tup_ok (by decide) (idx_ok h)
    all_goals exact tup_ok (by decide) h
  obtain ⟨b1, b2, b3, b4, b5⟩ := lst_ok all
  refine ⟨b1, b2, Nat.lt_of_le_of_lt (Nat.succ_le_succ b3) (by decide), ?_⟩
  have e := listText_len_le (PyData.shownAll (keptD d))
  have e2 : (PyData.list (keptD d)).shown = listText (PyData.shownAll (keptD d)) := by simp only [PyData.shown]
  rw [e2]
  have l9 : (keptD d).length = 9 := rfl
  rw [b5, l9] at e
  rw [l9] at b4
  exact Nat.le_trans (show _ ≤ 20000 by omega) (by decide)
def spRight (K : PySem.W.Frag) : Sp := fun vs H Q _ => ∃ v d, vs = [v] ∧ Vk K H v d ∧ okD d ∧ Lay d.shown ∧ ∀ H', Same H H' → Q (.bl true) H'
def due4 (d : PyData) : List Str := [caughtT d 0, caughtT d 1, caughtT d 2, caughtT d 3]
section
variable {P : Program} {w : World} {K : PySem.W.Frag} {mg : Str → Option Value} {base : Heap}
theorem ok_l_right (D : Df K mg "_law_right" s_l_right ["_law_value"]) (G_l_invalid_told : Cg P w K mg base 3 "_law_invalid_told" (spTold K)) (G_l_invalid_due : Cg P w K mg base 1 "_law_invalid_due" (spDueI K)) (G_l_kept_told : Cg P w K mg base 3 "_law_kept_told" (spKept K)) (G_l_kept_due : Cg P w K mg base 2 "_law_kept_due" (spKept K))
    (G_l_caught : Cg P w K mg base 3 "_law_caught" (spCaught K)) (z_repr : mg "repr" = none) (z_range : mg "range" = none) : Cg P w K mg base 4 "_law_right" (spRight K) := by
  refine D.ok sc_l_right (fun vs H Q E h => ?_) (fun cdv A outer s H vs Q E f hc hr h => ?_)
  · obtain ⟨v, d, rfl, _⟩ := h
    rfl
  · obtain ⟨v, d, rfl, hv, ok, ly, q⟩ := h
    refine ⟨_, (pss_cons (ps_if (pt_cmpR (op_neD hr.units) (pe_cg G_l_invalid_told hc hr (by rfl) (pa_cons pe_str pa_nil)) (pe_cg0 G_l_invalid_due hc hr (by rfl)) (nomark _))
      (pss_one (ps_ret pe_bl))
      pss_nil)
      (pss_cons (ps_par (i := 1) (j := 2) (by rfl) sc_l_right.nd rfl rfl (by decide) rfl rfl (pa_cons (pe_cg G_l_kept_told hc hr (by rfl) (pa_cons (pv 0) pa_nil)) (pa_cons (pe_cg G_l_kept_due hc hr (by rfl) (pa_cons (pv 0) pa_nil)) pa_nil)) (by rfl))
      (pss_cons (ps_if (pt_cmpR op_ne (pe_callB (cr_reprD hc hr.units) (by rfl) z_repr (by decide +kernel) (pa_cons (pv 1) pa_nil)) (pe_callB (cr_reprD hc hr.units) (by rfl) z_repr (by decide +kernel) (pa_cons (pv 2) pa_nil)) (nomark _))
      (pss_one (ps_ret pe_bl))
      pss_nil)
      (pss_cons (ps_set (i := 2) sc_l_right.nd rfl (Or.inl rfl) (pe_lst (pa_cons pe_str (pa_cons pe_str (pa_cons (pe_op op_add_str pe_str (pe_callB (cr_reprD hc hr.units) (by rfl) z_repr (by decide +kernel) (pa_cons (pv 0) pa_nil))) (pa_cons (pe_op op_add_str pe_str (pe_callB (cr_reprD hc hr.units) (by rfl) z_repr (by decide +kernel) (pa_cons (pv 0) pa_nil))) pa_nil))))))
      (pss_one (ps_ret (pe_cmpR (op_eqD hr.units) (pe_lc (own := [("_law_way", 3)]) (g := gName 3) (by rfl) sc_l_right.nd (pi_range1 (by rfl) z_range (pa_cons pe_int pa_nil)) (blkOk_by (own := [("_law_way", 3)]) (N := ["_law_value", "_law_told", "_law_due", "_law_way"]) (sc := defScope s_l_right) (by decide +kernel)) (fun _ _ _ _ _ => pg_name (i := 3) sc_l_right.nd rfl (Or.inl rfl)) (fun _ _ _ _ _ => pts_nil) (fun _ _ _ _ _ => (pe_cg G_l_caught hc hr (by rfl) (pa_cons (pv 0) (pa_cons (pv 3) pa_nil))))) (pv 2) (nomark _)))))))), ?_⟩
    obtain ⟨k1, k2, k3, k4⟩ := kept_ok ok
    refine ⟨_, rfl, fun u1 H1 s1 r1 => ⟨rfl, fun u2 H2 s2 r2 => ⟨_, _, Dp.same s2 _ _ r1, r2, by decide +kernel, by decide +kernel, _, rfl, ite2 (fun e => by rw [told_due] at e; cases e) (fun _ => ?_)⟩⟩⟩
    have t2 := s1.trans s2
    refine ⟨_, rfl, v, d, rfl, hv.same t2, fun u3 H3 s3 r3 => ⟨_, rfl, v, d, rfl, hv.same (t2.trans s3), fun u4 H4 s4 r4 => ⟨_, _, rfl, ?_⟩⟩⟩
    have t4 := (t2.trans s3).trans s4
    refine ⟨_, rfl, u3, _, rfl, Dp.same s4 _ _ r3, k1, k2, k3, k4, _, rfl, u4, _, rfl, r4, k1, k2, k3, k4, rfl, _, rfl, ite2 (fun e => absurd e (by simp)) (fun _ => ?_)⟩
    obtain ⟨o1, o2, o3, o4⟩ := id ok
    have o3' : d.depth < 64 := Nat.lt_trans o3 (by decide)
    have o4' : d.shown.length ≤ sizeLine := Nat.le_trans o4 (by decide)
    have dv := (hv.same t4).dp
    have sum : ∀ {x : Str}, x.length ≤ 100 → x.length + d.shown.length ≤ sizeLine := fun h => Nat.le_trans (Nat.add_le_add h o4) (by decide)
    refine ⟨_, rfl, v, d, rfl, dv, o1, o2, o3', o4', _, _, rfl, rfl, sum (by decide), _, rfl, v, d, rfl, dv, o1, o2, o3', o4', _, _, rfl, rfl, sum (by decide), by show 4 ≤ sizeLine; decide, fun p np => ?_⟩
    have sp := same_new (o := .lst ((due4 d).map V.str)) np
    have ep : upd H4 p (.lst ((due4 d).map V.str)) p = some (.lst ((due4 d).map V.str)) := upd_same
    refine ⟨_, rfl, by decide, by decide, fun D nD => ?_⟩
    refine lc_range (lo := 0) (n := 4) (fun i H' => Same (upd H4 p (.lst ((due4 d).map V.str))) H' ∧ H' D = some (.lst (((due4 d).take i).map V.str))) ⟨same_put nD (Same.refl _), upd_same⟩ (fun i H' hi ⟨s5, e5⟩ => ?_) (fun H' ⟨s5, e5⟩ => ?_)
    · refine ⟨rfl, _, rfl, _, rfl, v, d, i, by rw [show (0 : Int) + (i : Int) = (i : Int) by omega]; rfl, by omega, (hv.same t4).same (sp.trans s5), ok, fun H6 s6 => ⟨_, s6 _ _ e5, ?_, same_put nD (s5.trans s6), ?_⟩⟩
      · rw [List.length_map, List.length_take]
        exact Nat.lt_of_le_of_lt (Nat.min_le_right _ _) (by show 4 < sizeLine; decide)
      · rw [upd_same]
        have c4 : i = 0 ∨ i = 1 ∨ i = 2 ∨ i = 3 := by omega
        rcases c4 with rfl | rfl | rfl | rfl <;> rfl
    · refine ⟨_, rfl, .list ((due4 d).map .str), .list ((due4 d).map .str), .lst (.inl (.inl e5)) (dpAll_strs _), .lst (.inl (.inl (s5 _ _ ep))) (dpAll_strs _), ?_, ?_, ?_⟩
      · exact shapedL fun y hy => by
          unfold due4 at hy
          simp only [List.mem_cons, List.not_mem_nil, or_false] at hy
          rcases hy with rfl | rfl | rfl | rfl <;> exact lay_caught ly _
      · exact shapedL fun y hy => by
          unfold due4 at hy
          simp only [List.mem_cons, List.not_mem_nil, or_false] at hy
          rcases hy with rfl | rfl | rfl | rfl <;> exact lay_caught ly _
      · rw [eqv_list, decide_eq_true rfl]
        exact q _ ((t4.trans sp).trans s5)
end
end K02
set_option Elab.async false
set_option linter.all false
set_option autoImplicit false
set_option maxRecDepth 100000
set_option maxHeartbeats 4000000
namespace K02
open Gd PySem PySem.Spec PyProof.Rows L2 Vb Wd Xe Xi Xm

theorem lay_of (s : String) : Lay (Str.ofString s) := fun c hc => by
  rw [Str.ofString_eq_toList] at hc
  have hc' : c ∈ s.toList.map Char.toNat := by simpa using hc
  obtain ⟨x, _, rfl⟩ := List.mem_map.mp hc'
  have v := x.valid
  show x.val.toNat < _
  rcases v with v | ⟨_, v⟩
  · exact Nat.lt_trans v (by decide)
  · exact v
/-- kept values: what they read is short and plain -/
def Fit (d : PyData) : Prop := okD d ∧ Lay d.shown
theorem fit_int {i : Int} (h : i.natAbs < 10 ^ 60) : Fit (.int i) := by
  have big : (10 : Nat) ^ 60 < 2 ^ 1920 := by decide +kernel
  have lg : i.natAbs.log2 < 1920 := by
    by_cases z : i.natAbs = 0
    · rw [z]; decide
    · exact (Nat.log2_lt z).mpr (Nat.lt_trans h big)
  have e := PyData.shown_int i
  refine ⟨⟨decide_eq_true lg, rfl, by show 0 < 60; decide, ?_⟩, ?_⟩
  · rw [e]
    have l := int_text_length_le10 (k := 60) (by decide) h
    rw [PySem.ofString_length]
    omega
  · rw [e]
    exact lay_of _
theorem fit_pair {i : Int} (h : i.natAbs < 10 ^ 60) : Fit (.tuple [.int i, .none]) := by
  obtain ⟨⟨o1, o2, o3, o4⟩, ly⟩ := fit_int h
  have e2 : (PyData.tuple [.int i, .none]).shown = tupleText [(PyData.int i).shown, "None"] := by simp only [PyData.shown, PyData.shownAll]
  refine ⟨⟨?_, rfl, by show max 0 (max 0 0) + 1 < 60; decide, ?_⟩, ?_⟩
  · show (PyData.showable (.int i) && (true && true)) = true
    rw [o1]; rfl
  · have e := tupleText_len_le [(PyData.int i).shown, "None"]
    rw [e2]
    have n4 : ("None" : Str).length = 4 := by decide +kernel
    simp only [List.map_cons, List.map_nil, List.sum_cons, List.sum_nil, List.length_cons, List.length_nil] at e
    rw [n4] at e
    have o5 : (PyData.int i).shown.length ≤ 61 := by
      rw [PyData.shown_int i, PySem.ofString_length]
      exact int_text_length_le10 (k := 60) (by decide) h
    omega
  · rw [e2]
    exact lay_app (lay_app (lay_lit (z := "(") (by decide +kernel)) (lay_app (lay_app ly (lay_lit (z := ", ") (by decide +kernel))) (lay_lit (z := "None") (by decide +kernel)))) (lay_lit (z := ")") (by decide +kernel))
theorem fit_non : Fit .none := ⟨⟨rfl, rfl, by decide, by decide +kernel⟩, lay_lit (z := "None") (by decide +kernel)⟩
theorem fit_true : Fit (.bool true) := ⟨⟨rfl, rfl, by decide, by decide +kernel⟩, lay_lit (z := "True") (by decide +kernel)⟩
theorem fit_e : Fit (.str "") := ⟨⟨rfl, rfl, by decide, by decide +kernel⟩, lay_lit (z := (PyData.str "").shown) (by decide +kernel)⟩
theorem fit_two : Fit (.str "two") := ⟨⟨rfl, rfl, by decide, by decide +kernel⟩, lay_lit (z := (PyData.str "two").shown) (by decide +kernel)⟩
theorem fit_t0 : Fit (.tuple []) := ⟨⟨rfl, rfl, by decide, by decide +kernel⟩, lay_lit (z := (PyData.tuple []).shown) (by decide +kernel)⟩
def five : List PyData := [.str "mend", .str "two", .int 0, .int 1, .str "t"]
theorem fit_t5 : Fit (.tuple five) := ⟨⟨by decide +kernel, by decide +kernel, by decide +kernel, by decide +kernel⟩, lay_lit (z := (PyData.tuple five).shown) (by decide +kernel)⟩
def spLaw (K : PySem.W.Frag) : Sp := fun vs H Q _ => ∃ (a : Addr) (ns : List Int), vs = [.ref a] ∧ SqL K H a (ns.map V.int) ∧ ns.length ≤ 63 ∧ ∀ H', Q (.bl true) H'
section
variable {P : Program} {w : World} {K : PySem.W.Frag} {mg : Str → Option Value} {base : Heap}
theorem ok_law {f : Addr} {fd : FuncData} (F : Fun K "law" "law" s_law f fd) (G_l_dice : Cg P w K mg base 1 "_law_dice" (spDice K)) (G_l_roll : Cg P w K mg base 1 "_law_roll" spRoll) (G_l_pick : Cg P w K mg base 2 "_law_pick" (spPick K)) (G_l_right : Cg P w K mg base 4 "_law_right" (spRight K))
    (z_range : mg "range" = none) (z_max : mg "max" = none) (z_min : mg "min" = none) (z_len : mg "len" = none) : FnG P w K mg base 5 f fd ["_law_script"] (spLaw K) := by
  refine goes_by F sc_law (fun vs H Q E h => ?_) (fun cdv A outer s H vs Q E hc hr h => ?_)
  · obtain ⟨a, ns, rfl, _⟩ := h
    rfl
  · obtain ⟨a, ns, rfl, hS, hlen, q⟩ := h
    refine ⟨_, (pss_cons (ps_for PassesOwn.never rfl (pi_range1 (by rfl) z_range (pa_cons (pe_callB (call_max2 rfl) (by rfl) z_max (by decide +kernel) (pa_cons pe_int (pa_cons (pe_callB (call_min2 rfl) (by rfl) z_min (by decide +kernel) (pa_cons pe_int (pa_cons (pe_callB call_len_seq (by rfl) z_len PySem.boot_len (pa_cons (pv 0) pa_nil)) pa_nil))) pa_nil))) pa_nil)) (pg_name (i := 1) sc_law.nd rfl (Or.inl rfl))
      (pss_cons (ps_set (i := 2) sc_law.nd rfl (Or.inl rfl) (pe_cg G_l_dice hc hr (by rfl) (pa_cons (pv 0) (pa_cons (pv 1) pa_nil))))
      (pss_cons (ps_set (i := 3) sc_law.nd rfl (Or.inl rfl) (pe_cg G_l_roll hc hr (by rfl) (pa_cons (pv 2) (pa_cons (pe_op op_powW pe_int pe_int) pa_nil))))
      (pss_cons (ps_set (i := 4) sc_law.nd rfl (Or.inl rfl) (pe_lst (pa_cons pe_non (pa_cons pe_int (pa_cons (pe_un un_neg (pv 3)) (pa_cons (pv 3) (pa_cons pe_str (pa_cons pe_str (pa_cons (pe_tup pa_nil) (pa_cons (pe_tup (pa_cons pe_str (pa_cons pe_str (pa_cons pe_int (pa_cons pe_int (pa_cons pe_str pa_nil)))))) (pa_cons (pe_tup (pa_cons (pv 3) (pa_cons pe_non pa_nil))) (pa_cons pe_bl pa_nil))))))))))))
      (pss_one (ps_for PassesOwn.never rfl (pi_list (pe_lst (pa_cons (pe_cg G_l_pick hc hr (by rfl) (pa_cons (pv 2) (pa_cons (pv 4) pa_nil))) (pa_cons (pe_cg G_l_pick hc hr (by rfl) (pa_cons (pv 2) (pa_cons (pv 4) pa_nil))) (pa_cons (pv 3) pa_nil))))) (pg_name (i := 5) sc_law.nd rfl (Or.inl rfl))
      (pss_one (ps_if (pt_not (pt_val (pe_cg G_l_right hc hr (by rfl) (pa_cons (pv 5) pa_nil))))
      (pss_one (ps_ret pe_bl))
      pss_nil))))))))
      (pss_one (ps_ret pe_bl))), ?_⟩
    refine ⟨_, rfl, a, _, rfl, .inl hS, _, _, rfl, _, _, rfl, _, rfl, ?_, ?_, for_range (lo := 0) (fun i σ H' => ∃ x1 x2 x3 x4 x5, σ = [some (.ref a), x1, x2, x3, x4, x5] ∧ Same H H') ⟨none, none, none, none, none, rfl, Same.refl H⟩ ?_ ?_⟩
    · split <;> split <;> omega
    · split <;> split <;> omega
    · rintro i σ H' hi ⟨x1, x2, x3, x4, x5, rfl, s0⟩
      have w60 : CPowW 10 60 := ⟨by decide, by decide +kernel⟩
      refine ⟨_, rfl, _, rfl, a, ns, _, rfl, s0.seq hS, by omega, fun d g s nd => ?_⟩
      have dd : Dice (upd H' d (dz g s 0)) d := ⟨g, s, 0, upd_same⟩
      refine ⟨_, rfl, _, _, rfl, rfl, w60, d, _, rfl, dd, by decide +kernel, by decide +kernel, fun n H2 p2 n0 n1 => ?_⟩
      refine ⟨_, rfl, _, rfl, _, rfl, by show 0 ≤ sizeLine; decide, fun q1 nq1 => ⟨by show 5 ≤ sizeLine; decide, fun q2 nq2 => ⟨_, rfl, by show 2 ≤ sizeLine; decide, fun q3 nq3 => ⟨by show 10 ≤ sizeLine; decide, fun sl nsl => ?_⟩⟩⟩⟩
      have nn : n.natAbs < 10 ^ 60 := by
        have e : ((10 : Int) ^ (60 : Int).toNat) = ((10 ^ 60 : Nat) : Int) := by decide +kernel
        rw [e] at n1
        omega
      have k1 := same_new (o := .tup []) nq1
      have k2 := same_new (o := .tup [V.str "mend", .str "two", .int 0, .int 1, .str "t"]) nq2
      have k3 := same_new (o := .tup [V.int n, .non]) nq3
      have k4 := same_new (o := .lst [V.non, .int 0, .int (-n), .int n, .str "", .str "two", .ref q1, .ref q2, .ref q3, .bl true]) nsl
      have pL := p2.trans (Vb.Past.same p2.dice (((k1.trans k2).trans k3).trans k4))
      have a1 := (((k2.trans k3).trans k4) _ _ upd_same)
      have a2 := ((k3.trans k4) _ _ upd_same)
      have a3 := k4 _ _ upd_same
      have dL := pL.dice
      have d1 : q1 ≠ d := p2.dice.ne nq1
      have d2 : q2 ≠ d := (Vb.Past.same p2.dice k1).dice.ne nq2
      have d3 : q3 ≠ d := (Vb.Past.same p2.dice (k1.trans k2)).dice.ne nq3
      have d4 : sl ≠ d := (Vb.Past.same p2.dice ((k1.trans k2).trans k3)).dice.ne nsl
      have okv : ∀ v ∈ [V.non, .int 0, .int (-n), .int n, .str "", .str "two", .ref q1, .ref q2, .ref q3, .bl true], ∀ H', H' q1 = some (.tup []) → H' q2 = some (.tup [V.str "mend", .str "two", .int 0, .int 1, .str "t"]) → H' q3 = some (.tup [V.int n, .non]) → ∃ d, Vk K H' v d ∧ Fit d := fun v hv H' e1 e2 e3 => by
        simp only [List.mem_cons, List.not_mem_nil, or_false] at hv
        rcases hv with rfl | rfl | rfl | rfl | rfl | rfl | rfl | rfl | rfl | rfl
        · exact ⟨_, .inl ⟨rfl, rfl⟩, fit_non⟩
        · exact ⟨_, .inr (.inr (.inl ⟨_, rfl, rfl⟩)), fit_int (by decide +kernel)⟩
        · exact ⟨_, .inr (.inr (.inl ⟨_, rfl, rfl⟩)), fit_int (by rw [Int.natAbs_neg]; exact nn)⟩
        · exact ⟨_, .inr (.inr (.inl ⟨_, rfl, rfl⟩)), fit_int nn⟩
        · exact ⟨_, .inr (.inr (.inr (.inl ⟨_, rfl, rfl⟩))), fit_e⟩
        · exact ⟨_, .inr (.inr (.inr (.inl ⟨_, rfl, rfl⟩))), fit_two⟩
        · exact ⟨_, .inr (.inr (.inr (.inr ⟨_, _, _, rfl, e1, .nil, rfl⟩))), fit_t0⟩
        · exact ⟨_, .inr (.inr (.inr (.inr ⟨_, _, _, rfl, e2, .cons (.str _) (.cons (.str _) (.cons (.int _) (.cons (.int _) (.cons (.str _) .nil)))), rfl⟩))), fit_t5⟩
        · exact ⟨_, .inr (.inr (.inr (.inr ⟨_, _, _, rfl, e3, .cons (.int _) (.cons .non .nil), rfl⟩))), fit_pair nn⟩
        · exact ⟨_, .inr (.inl ⟨true, rfl, rfl⟩), fit_true⟩
      refine ⟨_, rfl, _, rfl, d, .ref sl, (fun v => v ∈ [V.non, .int 0, .int (-n), .int n, .str "", .str "two", .ref q1, .ref q2, .ref q3, .bl true]), rfl, dL, .inl ⟨sl, _, rfl, d4, .inl (.inl (.inl upd_same)), by simp, by show 10 ≤ 1000000; decide, fun v hv => hv⟩, fun v1 H5 p5 m1 => ?_⟩
      have e5 := p5.keep d4 upd_same
      refine ⟨_, rfl, _, rfl, d, .ref sl, (fun v => v ∈ [V.non, .int 0, .int (-n), .int n, .str "", .str "two", .ref q1, .ref q2, .ref q3, .bl true]), rfl, p5.dice, .inl ⟨sl, _, rfl, d4, .inl (.inl (.inl e5)), by simp, by show 10 ≤ 1000000; decide, fun v hv => hv⟩, fun v2 H6 p6 m2 => ?_⟩
      refine ⟨_, rfl, by show 3 ≤ sizeLine; decide, fun l nl => ?_⟩
      have p7 := p5.trans p6
      have kl := same_new (o := .lst [v1, v2, .int n]) nl
      have f1 := kl _ _ (p7.keep d1 a1)
      have f2 := kl _ _ (p7.keep d2 a2)
      have f3 := kl _ _ (p7.keep d3 a3)
      have el : upd H6 l (.lst [v1, v2, .int n]) l = some (.lst [v1, v2, .int n]) := upd_same
      have sH : Same H (upd H6 l (.lst [v1, v2, .int n])) := (s0.trans (same_past nd (pL.trans p7))).trans kl
      have m3 : ∀ v ∈ [v1, v2, V.int n], v ∈ [V.non, .int 0, .int (-n), .int n, .str "", .str "two", .ref q1, .ref q2, .ref q3, .bl true] := fun v hv => by
        simp only [List.mem_cons, List.not_mem_nil, or_false] at hv
        rcases hv with rfl | rfl | rfl
        · exact m1
        · exact m2
        · simp
      refine ⟨l, rfl, ⟨_, .inl (.inl el)⟩, for_list (K := K) (a := l) (xs := [v1, v2, .int n]) (fun j σ H' => ∃ y, σ = [some (.ref a), some (.int (0 + (i : Int))), some (.ref d), some (.int n), some (.ref sl), y] ∧ Same (upd H6 l (.lst [v1, v2, .int n])) H') ⟨_, rfl, Same.refl _⟩ (fun j σ H6 _ ⟨_, _, s6⟩ => .inl (.inl (s6 _ _ el))) ?_ ?_⟩
      · rintro j x σ H7 hj ⟨y, rfl, s7⟩
        obtain ⟨dx, hv, ok, ly⟩ := okv x (m3 x (List.mem_of_getElem? hj)) H7 (s7 _ _ f1) (s7 _ _ f2) (s7 _ _ f3)
        exact ⟨_, rfl, x, dx, rfl, hv, ok, ly, fun H8 s8 => ⟨_, rfl, iteF ⟨_, rfl, s7.trans s8⟩⟩⟩
      · rintro σ H7 ⟨y, rfl, s7⟩
        exact ⟨_, _, _, _, _, rfl, sH.trans s7⟩
    · rintro σ H' ⟨x1, x2, x3, x4, x5, rfl, s0⟩
      exact q _
end
end K02
set_option Elab.async false
set_option linter.all false
set_option autoImplicit false
set_option maxRecDepth 100000
set_option maxHeartbeats 4000000
namespace K02
open Gd Xk Xp L2H PySem PySem.Spec PyProof.Rows L2 Vb Wd Xe Xi Xm
abbrev leTail : List Value := [.type "LookupError", .type "Exception", .type "BaseException", .type "object"]
abbrev ieTail : List Value := [.type "IndexError", .type "LookupError", .type "Exception", .type "BaseException", .type "object"]
abbrev reTail : List Value := [.type "RuntimeError", .type "Exception", .type "BaseException", .type "object"]
abbrev oeTail : List Value := [.type "OverflowError", .type "ArithmeticError", .type "Exception", .type "BaseException", .type "object"]
abbrev aeTail : List Value := [.type "ArithmeticError", .type "Exception", .type "BaseException", .type "object"]
/-- the first statement of a class -/
def inBody (st : Stmt) : Stmt := match st with
  | .ClassDef _ _ _ b _ _ _ _ _ _ _ => b.getD 0 (.Pass ⟨0, 0, 0, 0⟩)
  | _ => .Pass ⟨0, 0, 0, 0⟩
/-- the def st of a class -/
def Mt (K : PySem.W.Frag) (qual : Str) (st : Stmt) (f : Addr) (ps : List Str) : Prop := ∃ fd : FuncData, Fun K "__init__" qual st f fd ∧ Binds K fd ps []
theorem Mt.mk {K : PySem.W.Frag} {qual : Str} {st : Stmt} {ps : List Str} {f : Addr} {oc : Value} {od an : Option Addr} {osl : Array (Option Value)} {kV doc pm cdv ct : Value}
    (l : K.lookup f = some ⟨oc, od, .func (PySem.W.fnOf "__init__" qual (defArgs st) (defBody st) (defScope st) .none kV doc pm an cdv ct), osl⟩) (c : PySem.W.codeIn K cdv qual = true) (k : PySem.W.keepIn K (.ref f) = true)
    (b : ∀ (kV doc pm : Value) (an : Option Addr) (cdv ct : Value) (us : List Value), us.length = ps.length → bindArgs (PySem.W.fnOf "__init__" qual (defArgs st) (defBody st) (defScope st) .none kV doc pm an cdv ct) ⟨us, []⟩ = pure (ps.zip us)) : Mt K qual st f ps :=
  ⟨_, fun_mk (st := st) l c k, (fun_mk (st := st) l c k).binds b⟩
section
variable {P : Program} {w : World} {K : PySem.W.Frag} {mg : Str → Option Value} {base : Heap}
abbrev s_i10 : Stmt := inBody (topS 11)
theorem sc_i10 : FnScope ["self", "number"] ["self", "number"] (defScope s_i10) := ⟨rfl, rfl, rfl, by decide +kernel, rfl, by decide +kernel, by decide +kernel⟩
theorem ok_i10 {f C fI : Addr} {fd : FuncData} (F : Fun K "__init__" "ParseError.__init__" s_i10 f fd) : FnG P w K mg base 1 f fd ["self", "number"] (spSet K C fI "number") := by
  refine goes_by F sc_i10 (fun vs H Q E h => ?_) (fun cdv A outer s H vs Q E hc hr h => ?_)
  · obtain ⟨a, y, rfl, _⟩ := h
    rfl
  · obtain ⟨a, y, rfl, T, no, e, q⟩ := h
    exact ⟨_, pss_one (ps_setE (f := "number") (pv 0) (pv 1)), _, rfl, _, rfl, a, C, fI, rfl, T, no, e, fun d nd ne => q d nd ne⟩
abbrev s_i11 : Stmt := inBody (topS 12)
theorem sc_i11 : FnScope ["self", "name"] ["self", "name"] (defScope s_i11) := ⟨rfl, rfl, rfl, by decide +kernel, rfl, by decide +kernel, by decide +kernel⟩
theorem ok_i11 {f C fI : Addr} {fd : FuncData} (F : Fun K "__init__" "UnknownName.__init__" s_i11 f fd) : FnG P w K mg base 1 f fd ["self", "name"] (spSet K C fI "name") := by
  refine goes_by F sc_i11 (fun vs H Q E h => ?_) (fun cdv A outer s H vs Q E hc hr h => ?_)
  · obtain ⟨a, y, rfl, _⟩ := h
    rfl
  · obtain ⟨a, y, rfl, T, no, e, q⟩ := h
    exact ⟨_, pss_one (ps_setE (f := "name") (pv 0) (pv 1)), _, rfl, _, rfl, a, C, fI, rfl, T, no, e, fun d nd ne => q d nd ne⟩
abbrev s_i12 : Stmt := inBody (topS 13)
theorem sc_i12 : FnScope ["self", "key"] ["self", "key"] (defScope s_i12) := ⟨rfl, rfl, rfl, by decide +kernel, rfl, by decide +kernel, by decide +kernel⟩
theorem ok_i12 {f C fI : Addr} {fd : FuncData} (F : Fun K "__init__" "AbsentKey.__init__" s_i12 f fd) : FnG P w K mg base 1 f fd ["self", "key"] (spSet K C fI "key") := by
  refine goes_by F sc_i12 (fun vs H Q E h => ?_) (fun cdv A outer s H vs Q E hc hr h => ?_)
  · obtain ⟨a, y, rfl, _⟩ := h
    rfl
  · obtain ⟨a, y, rfl, T, no, e, q⟩ := h
    exact ⟨_, pss_one (ps_setE (f := "key") (pv 0) (pv 1)), _, rfl, _, rfl, a, C, fI, rfl, T, no, e, fun d nd ne => q d nd ne⟩
abbrev s_i13 : Stmt := inBody (topS 14)
theorem sc_i13 : FnScope ["self", "path"] ["self", "path"] (defScope s_i13) := ⟨rfl, rfl, rfl, by decide +kernel, rfl, by decide +kernel, by decide +kernel⟩
theorem ok_i13 {f C fI : Addr} {fd : FuncData} (F : Fun K "__init__" "UnknownPath.__init__" s_i13 f fd) : FnG P w K mg base 1 f fd ["self", "path"] (spSet K C fI "path") := by
  refine goes_by F sc_i13 (fun vs H Q E h => ?_) (fun cdv A outer s H vs Q E hc hr h => ?_)
  · obtain ⟨a, y, rfl, _⟩ := h
    rfl
  · obtain ⟨a, y, rfl, T, no, e, q⟩ := h
    exact ⟨_, pss_one (ps_setE (f := "path") (pv 0) (pv 1)), _, rfl, _, rfl, a, C, fI, rfl, T, no, e, fun d nd ne => q d nd ne⟩
abbrev s_i14 : Stmt := inBody (topS 15)
theorem sc_i14 : FnScope ["self", "where"] ["self", "where"] (defScope s_i14) := ⟨rfl, rfl, rfl, by decide +kernel, rfl, by decide +kernel, by decide +kernel⟩
theorem ok_i14 {f C fI : Addr} {fd : FuncData} (F : Fun K "__init__" "NoMend.__init__" s_i14 f fd) : FnG P w K mg base 1 f fd ["self", "where"] (spSet K C fI "where") := by
  refine goes_by F sc_i14 (fun vs H Q E h => ?_) (fun cdv A outer s H vs Q E hc hr h => ?_)
  · obtain ⟨a, y, rfl, _⟩ := h
    rfl
  · obtain ⟨a, y, rfl, T, no, e, q⟩ := h
    exact ⟨_, pss_one (ps_setE (f := "where") (pv 0) (pv 1)), _, rfl, _, rfl, a, C, fI, rfl, T, no, e, fun d nd ne => q d nd ne⟩
abbrev s_i15 : Stmt := inBody (topS 16)
theorem sc_i15 : FnScope ["self", "value"] ["self", "value"] (defScope s_i15) := ⟨rfl, rfl, rfl, by decide +kernel, rfl, by decide +kernel, by decide +kernel⟩
theorem ok_i15 {f C fI : Addr} {fd : FuncData} (F : Fun K "__init__" "InvalidNumber.__init__" s_i15 f fd) : FnG P w K mg base 1 f fd ["self", "value"] (spSet K C fI "value") := by
  refine goes_by F sc_i15 (fun vs H Q E h => ?_) (fun cdv A outer s H vs Q E hc hr h => ?_)
  · obtain ⟨a, y, rfl, _⟩ := h
    rfl
  · obtain ⟨a, y, rfl, T, no, e, q⟩ := h
    exact ⟨_, pss_one (ps_setE (f := "value") (pv 0) (pv 1)), _, rfl, _, rfl, a, C, fI, rfl, T, no, e, fun d nd ne => q d nd ne⟩
abbrev s_i16 : Stmt := inBody (topS 17)
theorem sc_i16 : FnScope ["self", "many"] ["self", "many"] (defScope s_i16) := ⟨rfl, rfl, rfl, by decide +kernel, rfl, by decide +kernel, by decide +kernel⟩
theorem ok_i16 {f C fI : Addr} {fd : FuncData} (F : Fun K "__init__" "NothingToUndo.__init__" s_i16 f fd) : FnG P w K mg base 1 f fd ["self", "many"] (spSet K C fI "many") := by
  refine goes_by F sc_i16 (fun vs H Q E h => ?_) (fun cdv A outer s H vs Q E hc hr h => ?_)
  · obtain ⟨a, y, rfl, _⟩ := h
    rfl
  · obtain ⟨a, y, rfl, T, no, e, q⟩ := h
    exact ⟨_, pss_one (ps_setE (f := "many") (pv 0) (pv 1)), _, rfl, _, rfl, a, C, fI, rfl, T, no, e, fun d nd ne => q d nd ne⟩
abbrev s_i17 : Stmt := inBody (topS 18)
theorem sc_i17 : FnScope ["self", "limit"] ["self", "limit"] (defScope s_i17) := ⟨rfl, rfl, rfl, by decide +kernel, rfl, by decide +kernel, by decide +kernel⟩
theorem ok_i17 {f C fI : Addr} {fd : FuncData} (F : Fun K "__init__" "TooMany.__init__" s_i17 f fd) : FnG P w K mg base 1 f fd ["self", "limit"] (spSet K C fI "limit") := by
  refine goes_by F sc_i17 (fun vs H Q E h => ?_) (fun cdv A outer s H vs Q E hc hr h => ?_)
  · obtain ⟨a, y, rfl, _⟩ := h
    rfl
  · obtain ⟨a, y, rfl, T, no, e, q⟩ := h
    exact ⟨_, pss_one (ps_setE (f := "limit") (pv 0) (pv 1)), _, rfl, _, rfl, a, C, fI, rfl, T, no, e, fun d nd ne => q d nd ne⟩
abbrev s_i18 : Stmt := inBody (topS 19)
theorem sc_i18 : FnScope ["self", "pledge"] ["self", "pledge"] (defScope s_i18) := ⟨rfl, rfl, rfl, by decide +kernel, rfl, by decide +kernel, by decide +kernel⟩
theorem ok_i18 {f C fI : Addr} {fd : FuncData} (F : Fun K "__init__" "Refused.__init__" s_i18 f fd) : FnG P w K mg base 1 f fd ["self", "pledge"] (spSet K C fI "pledge") := by
  refine goes_by F sc_i18 (fun vs H Q E h => ?_) (fun cdv A outer s H vs Q E hc hr h => ?_)
  · obtain ⟨a, y, rfl, _⟩ := h
    rfl
  · obtain ⟨a, y, rfl, T, no, e, q⟩ := h
    exact ⟨_, pss_one (ps_setE (f := "pledge") (pv 0) (pv 1)), _, rfl, _, rfl, a, C, fI, rfl, T, no, e, fun d nd ne => q d nd ne⟩
end
/-! ### what the written part is asked, all at once -/
def rg (n : Nat) (f : Nat → Bool) : Bool := (List.range n).all f
theorem rg_at {n : Nat} {f : Nat → Bool} (h : rg n f = true) {i : Nat} (hi : i < n) : f i = true := List.all_eq_true.mp h i (List.mem_range.mpr hi)
def at_ (l : List Addr) (i : Nat) : Addr := l.getD i 0
def askEc (K : PySem.W.Frag) (L : List Addr) : Bool := rg 19 fun i => ecB K (at_ L i)
def askOwn (K : PySem.W.Frag) (L : List Addr) : Bool := rg 19 fun i => rg 19 fun j => decide (PySem.W.kitOne K (.ref (at_ L i)) (.ref (at_ L j)) = some (tab i j))
def askBlt (K : PySem.W.Frag) (L : List Addr) : Bool := rg 19 fun i => rg 7 fun j => decide (PySem.W.kitOne K (.ref (at_ L i)) (.type (bn j)) = some (tabB i j))
def askEx (K : PySem.W.Frag) (L : List Addr) : Bool := rg 19 fun i => decide (PySem.W.exmOne K (.ref (at_ L i)) (.ref (at_ L 0)) = some (tab i 0)) && (decide (PySem.W.exmOne K (.ref (at_ L i)) (.ref (at_ L 11)) = some (tab i 11)) && decide (PySem.W.exmOne K (.ref (at_ L i)) (.ref (at_ L 17)) = some (tab i 17)))
def askKp (K : PySem.W.Frag) (L : List Addr) : Bool := rg 19 fun i => PySem.W.keepIn K (.ref (at_ L i))
def askExc (K : PySem.W.Frag) (L : List Addr) : Bool := rg 10 fun i => PySem.W.excIn K (at_ L i) PX.veTail "ValueError.__new__"
def askNo (K : PySem.W.Frag) (L : List Addr) : Bool := rg 9 fun i => decide (PySem.W.findIn K (.ref (at_ L (i + 10))) (fld (i + 10)) = some none)
def askEi (K : PySem.W.Frag) (L M : List Addr) : Bool := eiB K (at_ L 10) (at_ M 0) PX.veTail "ValueError.__new__" && (eiB K (at_ L 11) (at_ M 1) keTail "LookupError.__new__" && (eiB K (at_ L 12) (at_ M 2) keTail "LookupError.__new__" && (eiB K (at_ L 13) (at_ M 3) leTail "LookupError.__new__" && (eiB K (at_ L 14) (at_ M 4) leTail "LookupError.__new__" && (eiB K (at_ L 15) (at_ M 5) ieTail "IndexError.__new__" && (eiB K (at_ L 16) (at_ M 6) reTail "RuntimeError.__new__" && (eiB K (at_ L 17) (at_ M 7) oeTail "OverflowError.__new__" && (eiB K (at_ L 18) (at_ M 8) aeTail "ArithmeticError.__new__"))))))))
section
set_option maxHeartbeats 0
theorem fin {l : PySem.W.OpenLaw} {w : World} {K : PySem.W.Frag} {mg : Str → Option Value} {fa : Addr} {c0 c1 c2 c3 c4 c5 c6 c7 c8 c9 c10 c11 c12 c13 c14 c15 c16 c17 c18 f10 f11 f12 f13 f14 f15 f16 f17 f18 : Addr}
    (L : ∃ fd : FuncData, (∀ (s : Shared) (v : Value), BindsTo s fd ⟨[v], []⟩ [("_law_script", v)]) ∧ Fun K "law" "law" s_law fa fd)
    (D1 : Df K mg "_law_dice" s_l_dice ["_law_script", "_law_spot"])
    (D2 : Df K mg "_law_roll" s_l_roll ["_law_dice_here", "_law_total"])
    (D3 : Df K mg "_law_pick" s_l_pick ["_law_dice_here", "_law_items"])
    (D4 : Df K mg "_law_own_kinds" s_l_own_kinds ["_law_error"])
    (D5 : Df K mg "_law_kinds" s_l_kinds ["_law_error"])
    (D6 : Df K mg "_law_invalid_told" s_l_invalid_told ["_law_text"])
    (D7 : Df K mg "_law_index" s_l_index ["_law_value"])
    (D8 : Df K mg "_law_kept_told" s_l_kept_told ["_law_value"])
    (D9 : Df K mg "_law_invalid_due" s_l_invalid_due [])
    (D10 : Df K mg "_law_kept_due" s_l_kept_due ["_law_value"])
    (D11 : Df K mg "_law_caught" s_l_caught ["_law_value", "_law_way"])
    (D12 : Df K mg "_law_right" s_l_right ["_law_value"])
    (g0 : mg "MendError" = some (.ref c0))
    (g1 : mg "InvalidName" = some (.ref c1))
    (g2 : mg "InvalidForm" = some (.ref c2))
    (g3 : mg "InvalidScheme" = some (.ref c3))
    (g4 : mg "InvalidPicture" = some (.ref c4))
    (g5 : mg "InvalidDrawing" = some (.ref c5))
    (g6 : mg "InvalidBook" = some (.ref c6))
    (g7 : mg "InvalidShape" = some (.ref c7))
    (g8 : mg "InvalidPaper" = some (.ref c8))
    (g9 : mg "InvalidOperation" = some (.ref c9))
    (g10 : mg "ParseError" = some (.ref c10))
    (g11 : mg "UnknownName" = some (.ref c11))
    (g12 : mg "AbsentKey" = some (.ref c12))
    (g13 : mg "UnknownPath" = some (.ref c13))
    (g14 : mg "NoMend" = some (.ref c14))
    (g15 : mg "InvalidNumber" = some (.ref c15))
    (g16 : mg "NothingToUndo" = some (.ref c16))
    (g17 : mg "TooMany" = some (.ref c17))
    (g18 : mg "Refused" = some (.ref c18))
    (j10 : PySem.W.findIn K (.ref c10) "__init__" = some (some (.ref f10)))
    (j11 : PySem.W.findIn K (.ref c11) "__init__" = some (some (.ref f11)))
    (j12 : PySem.W.findIn K (.ref c12) "__init__" = some (some (.ref f12)))
    (j13 : PySem.W.findIn K (.ref c13) "__init__" = some (some (.ref f13)))
    (j14 : PySem.W.findIn K (.ref c14) "__init__" = some (some (.ref f14)))
    (j15 : PySem.W.findIn K (.ref c15) "__init__" = some (some (.ref f15)))
    (j16 : PySem.W.findIn K (.ref c16) "__init__" = some (some (.ref f16)))
    (j17 : PySem.W.findIn K (.ref c17) "__init__" = some (some (.ref f17)))
    (j18 : PySem.W.findIn K (.ref c18) "__init__" = some (some (.ref f18)))
    (m10 : Mt K "ParseError.__init__" s_i10 f10 ["self", "number"])
    (m11 : Mt K "UnknownName.__init__" s_i11 f11 ["self", "name"])
    (m12 : Mt K "AbsentKey.__init__" s_i12 f12 ["self", "key"])
    (m13 : Mt K "UnknownPath.__init__" s_i13 f13 ["self", "path"])
    (m14 : Mt K "NoMend.__init__" s_i14 f14 ["self", "where"])
    (m15 : Mt K "InvalidNumber.__init__" s_i15 f15 ["self", "value"])
    (m16 : Mt K "NothingToUndo.__init__" s_i16 f16 ["self", "many"])
    (m17 : Mt K "TooMany.__init__" s_i17 f17 ["self", "limit"])
    (m18 : Mt K "Refused.__init__" s_i18 f18 ["self", "pledge"])
    (a1 : askEc K [c0, c1, c2, c3, c4, c5, c6, c7, c8, c9, c10, c11, c12, c13, c14, c15, c16, c17, c18] = true) (a2 : askOwn K [c0, c1, c2, c3, c4, c5, c6, c7, c8, c9, c10, c11, c12, c13, c14, c15, c16, c17, c18] = true) (a3 : askBlt K [c0, c1, c2, c3, c4, c5, c6, c7, c8, c9, c10, c11, c12, c13, c14, c15, c16, c17, c18] = true) (a4 : askEx K [c0, c1, c2, c3, c4, c5, c6, c7, c8, c9, c10, c11, c12, c13, c14, c15, c16, c17, c18] = true) (a5 : askKp K [c0, c1, c2, c3, c4, c5, c6, c7, c8, c9, c10, c11, c12, c13, c14, c15, c16, c17, c18] = true) (a6 : askExc K [c0, c1, c2, c3, c4, c5, c6, c7, c8, c9, c10, c11, c12, c13, c14, c15, c16, c17, c18] = true) (a7 : askNo K [c0, c1, c2, c3, c4, c5, c6, c7, c8, c9, c10, c11, c12, c13, c14, c15, c16, c17, c18] = true) (a8 : askEi K [c0, c1, c2, c3, c4, c5, c6, c7, c8, c9, c10, c11, c12, c13, c14, c15, c16, c17, c18] [f10, f11, f12, f13, f14, f15, f16, f17, f18] = true) (a9 : PySem.W.typeIn K (.ref c7) = some (.type "type"))
    (z_int : mg "int" = none) (z_bool : mg "bool" = none) (z_len : mg "len" = none) (z_abs : mg "abs" = none) (z_max : mg "max" = none) (z_min : mg "min" = none) (z_range : mg "range" = none) (z_isinstance : mg "isinstance" = none) (z_repr : mg "repr" = none) (z_ValueError : mg "ValueError" = none) (z_KeyError : mg "KeyError" = none) (z_IndexError : mg "IndexError" = none) (z_LookupError : mg "LookupError" = none) (z_RuntimeError : mg "RuntimeError" = none) (z_OverflowError : mg "OverflowError" = none) (z_ArithmeticError : mg "ArithmeticError" = none) :
    ∃ fd : FuncData, (∀ (s : Shared) (v : Value), BindsTo s fd ⟨[v], []⟩ [("_law_script", v)]) ∧ ∀ base : Heap, K.In base → base.Ns mainGlobals mg → FnG l.prog w K mg base 5 fa fd ["_law_script"] (spLaw K) := by
  obtain ⟨fd, b, F⟩ := L
  refine ⟨fd, b, fun base _ _ => ?_⟩
  have T : Tab K mg (at_ [c0, c1, c2, c3, c4, c5, c6, c7, c8, c9, c10, c11, c12, c13, c14, c15, c16, c17, c18]) := ⟨fun i hi => ?g, fun i hi => ec_of (rg_at a1 hi), fun i j hi hj => of_decide_eq_true (rg_at (rg_at a2 hi) hj), fun i j hi hj => of_decide_eq_true (rg_at (rg_at a3 hi) hj)⟩
  case g =>
    match i, hi with
    | 0, _ => exact g0
    | 1, _ => exact g1
    | 2, _ => exact g2
    | 3, _ => exact g3
    | 4, _ => exact g4
    | 5, _ => exact g5
    | 6, _ => exact g6
    | 7, _ => exact g7
    | 8, _ => exact g8
    | 9, _ => exact g9
    | 10, _ => exact g10
    | 11, _ => exact g11
    | 12, _ => exact g12
    | 13, _ => exact g13
    | 14, _ => exact g14
    | 15, _ => exact g15
    | 16, _ => exact g16
    | 17, _ => exact g17
    | 18, _ => exact g18
    | n + 19, h => exact absurd h (by omega)
  have T2 : Tab2 K (at_ [c0, c1, c2, c3, c4, c5, c6, c7, c8, c9, c10, c11, c12, c13, c14, c15, c16, c17, c18]) := ⟨fun i hi => rg_at a6 hi, fun i hi => rg_at a5 hi⟩
  have T3 : Tab3 K (at_ [c0, c1, c2, c3, c4, c5, c6, c7, c8, c9, c10, c11, c12, c13, c14, c15, c16, c17, c18]) := by
    refine ⟨fun i j hi hj => ?_, fun i h1 h2 => ⟨(T.ec i h2).ga, (T.ec i h2).gt, (T.ec i h2).sub, (T.ec i h2).hd⟩, (T.ec 7 (by decide)).sub, a9⟩
    have e := rg_at a4 hi
    simp only [Bool.and_eq_true, decide_eq_true_eq] at e
    rcases hj with rfl | rfl | rfl
    · exact e.1
    · exact e.2.1
    · exact e.2.2
  have ei := a8
  unfold askEi at ei
  simp only [Bool.and_eq_true] at ei
  obtain ⟨e10, e11, e12, e13, e14, e15, e16, e17, e18⟩ := ei
  have no : ∀ i, 10 ≤ i → i < 19 → PySem.W.findIn K (.ref (at_ [c0, c1, c2, c3, c4, c5, c6, c7, c8, c9, c10, c11, c12, c13, c14, c15, c16, c17, c18] i)) (fld i) = some none := fun i h1 h2 => by
    have e := of_decide_eq_true (rg_at a7 (show i - 10 < 9 by omega))
    rw [show i - 10 + 10 = i by omega] at e
    exact e
  have eis : ∀ i, 10 ≤ i → i < 19 → EI K (at_ [c0, c1, c2, c3, c4, c5, c6, c7, c8, c9, c10, c11, c12, c13, c14, c15, c16, c17, c18] i) (at_ [f10, f11, f12, f13, f14, f15, f16, f17, f18] (i - 10)) := fun i h1 h2 => by
    match i, h1, h2 with
    | 10, _, _ => exact ei_of PySem.F.store_ValueError PySem.F.excBase_ValueError ⟨by decide +kernel, by decide +kernel, by decide +kernel⟩ e10
    | 11, _, _ => exact ei_of storeKE PySem.F.excBase_LookupError ⟨by decide +kernel, by decide +kernel, by decide +kernel⟩ e11
    | 12, _, _ => exact ei_of storeKE PySem.F.excBase_LookupError ⟨by decide +kernel, by decide +kernel, by decide +kernel⟩ e12
    | 13, _, _ => exact ei_of PySem.F.store_LookupError PySem.F.excBase_LookupError ⟨by decide +kernel, by decide +kernel, by decide +kernel⟩ e13
    | 14, _, _ => exact ei_of PySem.F.store_LookupError PySem.F.excBase_LookupError ⟨by decide +kernel, by decide +kernel, by decide +kernel⟩ e14
    | 15, _, _ => exact ei_of PySem.F.store_IndexError PySem.F.excBase_IndexError ⟨by decide +kernel, by decide +kernel, by decide +kernel⟩ e15
    | 16, _, _ => exact ei_of PySem.F.store_RuntimeError PySem.F.excBase_RuntimeError ⟨by decide +kernel, by decide +kernel, by decide +kernel⟩ e16
    | 17, _, _ => exact ei_of PySem.F.store_OverflowError PySem.F.excBase_OverflowError ⟨by decide +kernel, by decide +kernel, by decide +kernel⟩ e17
    | 18, _, _ => exact ei_of PySem.F.store_ArithmeticError PySem.F.excBase_ArithmeticError ⟨by decide +kernel, by decide +kernel, by decide +kernel⟩ e18
    | n + 19, _, h => exact absurd h (by omega)
  have ex : ∀ i, ∃ x : FuncData × List Str, 10 ≤ i → i < 19 → FnG l.prog w K mg base 1 (at_ [f10, f11, f12, f13, f14, f15, f16, f17, f18] (i - 10)) x.1 x.2 (spSet K (at_ [c0, c1, c2, c3, c4, c5, c6, c7, c8, c9, c10, c11, c12, c13, c14, c15, c16, c17, c18] i) (at_ [f10, f11, f12, f13, f14, f15, f16, f17, f18] (i - 10)) (fld i)) ∧ Binds K x.1 x.2 [] := fun i => by
    match i with
    | 0 => exact ⟨(fd, []), fun h => absurd h (by decide)⟩
    | 1 => exact ⟨(fd, []), fun h => absurd h (by decide)⟩
    | 2 => exact ⟨(fd, []), fun h => absurd h (by decide)⟩
    | 3 => exact ⟨(fd, []), fun h => absurd h (by decide)⟩
    | 4 => exact ⟨(fd, []), fun h => absurd h (by decide)⟩
    | 5 => exact ⟨(fd, []), fun h => absurd h (by decide)⟩
    | 6 => exact ⟨(fd, []), fun h => absurd h (by decide)⟩
    | 7 => exact ⟨(fd, []), fun h => absurd h (by decide)⟩
    | 8 => exact ⟨(fd, []), fun h => absurd h (by decide)⟩
    | 9 => exact ⟨(fd, []), fun h => absurd h (by decide)⟩
    | 10 =>
      obtain ⟨y, F1, b1⟩ := m10
      exact ⟨(y, _), fun _ _ => ⟨ok_i10 F1, b1⟩⟩
    | 11 =>
      obtain ⟨y, F1, b1⟩ := m11
      exact ⟨(y, _), fun _ _ => ⟨ok_i11 F1, b1⟩⟩
    | 12 =>
      obtain ⟨y, F1, b1⟩ := m12
      exact ⟨(y, _), fun _ _ => ⟨ok_i12 F1, b1⟩⟩
    | 13 =>
      obtain ⟨y, F1, b1⟩ := m13
      exact ⟨(y, _), fun _ _ => ⟨ok_i13 F1, b1⟩⟩
    | 14 =>
      obtain ⟨y, F1, b1⟩ := m14
      exact ⟨(y, _), fun _ _ => ⟨ok_i14 F1, b1⟩⟩
    | 15 =>
      obtain ⟨y, F1, b1⟩ := m15
      exact ⟨(y, _), fun _ _ => ⟨ok_i15 F1, b1⟩⟩
    | 16 =>
      obtain ⟨y, F1, b1⟩ := m16
      exact ⟨(y, _), fun _ _ => ⟨ok_i16 F1, b1⟩⟩
    | 17 =>
      obtain ⟨y, F1, b1⟩ := m17
      exact ⟨(y, _), fun _ _ => ⟨ok_i17 F1, b1⟩⟩
    | 18 =>
      obtain ⟨y, F1, b1⟩ := m18
      exact ⟨(y, _), fun _ _ => ⟨ok_i18 F1, b1⟩⟩
    | n + 19 => exact ⟨(fd, []), fun _ h => absurd h (by omega)⟩
  obtain ⟨ch, hch⟩ := Classical.axiomOfChoice ex
  have M : Mk l.prog w K mg base (at_ [c0, c1, c2, c3, c4, c5, c6, c7, c8, c9, c10, c11, c12, c13, c14, c15, c16, c17, c18]) (fun i => at_ [f10, f11, f12, f13, f14, f15, f16, f17, f18] (i - 10)) (fun i => (ch i).1) (fun i => (ch i).2) := ⟨eis, no, fun i h1 h2 => (hch i h1 h2).1, fun i h1 h2 => (hch i h1 h2).2⟩
  have z : ∀ j, j < 7 → mg (.ofString (bn j)) = none := fun j hj => by
    match j, hj with
    | 0, _ => exact z_ValueError
    | 1, _ => exact z_KeyError
    | 2, _ => exact z_IndexError
    | 3, _ => exact z_LookupError
    | 4, _ => exact z_RuntimeError
    | 5, _ => exact z_OverflowError
    | 6, _ => exact z_ArithmeticError
    | n + 7, h => exact absurd h (by omega)
  have gRoll : Cg l.prog w K mg base 1 "_law_roll" spRoll := ok_roll D2 z_int
  have gOwn : Cg l.prog w K mg base 1 "_law_own_kinds" (spOwn K (at_ [c0, c1, c2, c3, c4, c5, c6, c7, c8, c9, c10, c11, c12, c13, c14, c15, c16, c17, c18])) := ok_l_own_kinds D4 T z_isinstance z_int
  have gKinds : Cg l.prog w K mg base 2 "_law_kinds" (spKinds K (at_ [c0, c1, c2, c3, c4, c5, c6, c7, c8, c9, c10, c11, c12, c13, c14, c15, c16, c17, c18])) := ok_l_kinds D5 T gOwn z z_isinstance z_int
  have gIdx : Cg l.prog w K mg base 1 "_law_index" (spIdx K) := ok_l_index D7 z_isinstance z_int z_bool
  obtain ⟨fo, fdo, Fo, mo, bo⟩ := D4
  have gCaught : Cg l.prog w K mg base 3 "_law_caught" (spCaught K) := ok_l_caught D11 T T2 T3 M gIdx (hot_l_own_kinds Fo T z_isinstance z_int) mo Fo.kp bo z_repr
  exact ok_law F (ok_dice D1 z_int z_len z_abs z_max) gRoll (ok_pick D3 gRoll z_len) (ok_l_right D12 (ok_l_invalid_told D6 T T2 gKinds) (ok_l_invalid_due D9) (ok_l_kept_told D8 T M gIdx gKinds) (ok_l_kept_due D10 gIdx) gCaught z_repr z_range) z_range z_max z_min z_len
end
end K02
set_option Elab.async false
set_option linter.all false
open PySem PySem.W PyProof.Rows
set_option maxRecDepth 100000 in
set_option maxHeartbeats 0 in
theorem PySem.Challenge.cw_mendbooks_k02_errors_holds : PySem.Challenge.rw_mendbooks_k02_errors.Holds := by
  w_on; o_law; k_head; (case hw => w_witness2)
  k_fill
  refine Vb.walk_calm (l := PySem.Challenge.rw_mendbooks_k02_errors) (n := 63) (k := 5) (x := "_law_script") (sp := K02.spLaw) rfl (by decide) rfl ⟨rfl, by decide, by decide⟩ (fun w h Y => PySem.W.kIn_of Y) ?F (fun K H a ns hl _ hS => ⟨a, ns, rfl, hS, hl, fun _ => rfl⟩)
  case F =>
    intro w mg fa h KX G hmg
    refine' K02.fin (Vb.law_def KX G hmg ?lb ?la ?ll ?lc ?lk) (Vb.Df.mk KX G ?a1 ?l1 ?c1 ?k1 ?b1) (Vb.Df.mk KX G ?a2 ?l2 ?c2 ?k2 ?b2) (Vb.Df.mk KX G ?a3 ?l3 ?c3 ?k3 ?b3) (Vb.Df.mk KX G ?a4 ?l4 ?c4 ?k4 ?b4) (Vb.Df.mk KX G ?a5 ?l5 ?c5 ?k5 ?b5) (Vb.Df.mk KX G ?a6 ?l6 ?c6 ?k6 ?b6) (Vb.Df.mk KX G ?a7 ?l7 ?c7 ?k7 ?b7) (Vb.Df.mk KX G ?a8 ?l8 ?c8 ?k8 ?b8) (Vb.Df.mk KX G ?a9 ?l9 ?c9 ?k9 ?b9) (Vb.Df.mk KX G ?a10 ?l10 ?c10 ?k10 ?b10) (Vb.Df.mk KX G ?a11 ?l11 ?c11 ?k11 ?b11) (Vb.Df.mk KX G ?a12 ?l12 ?c12 ?k12 ?b12)
      (PySem.W.mg_of KX G ?gg0) (PySem.W.mg_of KX G ?gg1) (PySem.W.mg_of KX G ?gg2) (PySem.W.mg_of KX G ?gg3) (PySem.W.mg_of KX G ?gg4) (PySem.W.mg_of KX G ?gg5) (PySem.W.mg_of KX G ?gg6) (PySem.W.mg_of KX G ?gg7) (PySem.W.mg_of KX G ?gg8) (PySem.W.mg_of KX G ?gg9) (PySem.W.mg_of KX G ?gg10) (PySem.W.mg_of KX G ?gg11) (PySem.W.mg_of KX G ?gg12) (PySem.W.mg_of KX G ?gg13) (PySem.W.mg_of KX G ?gg14) (PySem.W.mg_of KX G ?gg15) (PySem.W.mg_of KX G ?gg16) (PySem.W.mg_of KX G ?gg17) (PySem.W.mg_of KX G ?gg18)
      ?j10 ?j11 ?j12 ?j13 ?j14 ?j15 ?j16 ?j17 ?j18
      (K02.Mt.mk ?ml10 ?mc10 ?mk10 ?mb10) (K02.Mt.mk ?ml11 ?mc11 ?mk11 ?mb11) (K02.Mt.mk ?ml12 ?mc12 ?mk12 ?mb12) (K02.Mt.mk ?ml13 ?mc13 ?mk13 ?mb13) (K02.Mt.mk ?ml14 ?mc14 ?mk14 ?mb14) (K02.Mt.mk ?ml15 ?mc15 ?mk15 ?mb15) (K02.Mt.mk ?ml16 ?mc16 ?mk16 ?mb16) (K02.Mt.mk ?ml17 ?mc17 ?mk17 ?mb17) (K02.Mt.mk ?ml18 ?mc18 ?mk18 ?mb18)
      ?qq1 ?qq2 ?qq3 ?qq4 ?qq5 ?qq6 ?qq7 ?qq8 ?qq9
      (PySem.W.mg_none_of KX G ?z1) (PySem.W.mg_none_of KX G ?z2) (PySem.W.mg_none_of KX G ?z3) (PySem.W.mg_none_of KX G ?z4) (PySem.W.mg_none_of KX G ?z5) (PySem.W.mg_none_of KX G ?z6) (PySem.W.mg_none_of KX G ?z7) (PySem.W.mg_none_of KX G ?z8) (PySem.W.mg_none_of KX G ?z9) (PySem.W.mg_none_of KX G ?z10) (PySem.W.mg_none_of KX G ?z11) (PySem.W.mg_none_of KX G ?z12) (PySem.W.mg_none_of KX G ?z13) (PySem.W.mg_none_of KX G ?z14) (PySem.W.mg_none_of KX G ?z15) (PySem.W.mg_none_of KX G ?z16)
    (case lb => exact fun _ _ _ _ _ _ _ _ => .of_eq rfl); (case la => k_is); (case ll => k_is); (case lc => k_is); (case lk => k_is)
    (case a1 => k_is); (case l1 => k_is); (case c1 => k_is); (case k1 => k_is); (case b1 => exact fun _ _ _ _ _ _ us hl => match us, hl with | [_, _], _ => rfl)
    (case a2 => k_is); (case l2 => k_is); (case c2 => k_is); (case k2 => k_is); (case b2 => exact fun _ _ _ _ _ _ us hl => match us, hl with | [_, _], _ => rfl)
    (case a3 => k_is); (case l3 => k_is); (case c3 => k_is); (case k3 => k_is); (case b3 => exact fun _ _ _ _ _ _ us hl => match us, hl with | [_, _], _ => rfl)
    (case a4 => k_is); (case l4 => k_is); (case c4 => k_is); (case k4 => k_is); (case b4 => exact fun _ _ _ _ _ _ us hl => match us, hl with | [_], _ => rfl)
    (case a5 => k_is); (case l5 => k_is); (case c5 => k_is); (case k5 => k_is); (case b5 => exact fun _ _ _ _ _ _ us hl => match us, hl with | [_], _ => rfl)
    (case a6 => k_is); (case l6 => k_is); (case c6 => k_is); (case k6 => k_is); (case b6 => exact fun _ _ _ _ _ _ us hl => match us, hl with | [_], _ => rfl)
    (case a7 => k_is); (case l7 => k_is); (case c7 => k_is); (case k7 => k_is); (case b7 => exact fun _ _ _ _ _ _ us hl => match us, hl with | [_], _ => rfl)
    (case a8 => k_is); (case l8 => k_is); (case c8 => k_is); (case k8 => k_is); (case b8 => exact fun _ _ _ _ _ _ us hl => match us, hl with | [_], _ => rfl)
    (case a9 => k_is); (case l9 => k_is); (case c9 => k_is); (case k9 => k_is); (case b9 => exact fun _ _ _ _ _ _ us hl => match us, hl with | [], _ => rfl)
    (case a10 => k_is); (case l10 => k_is); (case c10 => k_is); (case k10 => k_is); (case b10 => exact fun _ _ _ _ _ _ us hl => match us, hl with | [_], _ => rfl)
    (case a11 => k_is); (case l11 => k_is); (case c11 => k_is); (case k11 => k_is); (case b11 => exact fun _ _ _ _ _ _ us hl => match us, hl with | [_, _], _ => rfl)
    (case a12 => k_is); (case l12 => k_is); (case c12 => k_is); (case k12 => k_is); (case b12 => exact fun _ _ _ _ _ _ us hl => match us, hl with | [_], _ => rfl)
    (case gg0 => k_is); (case gg1 => k_is); (case gg2 => k_is); (case gg3 => k_is); (case gg4 => k_is); (case gg5 => k_is); (case gg6 => k_is); (case gg7 => k_is); (case gg8 => k_is); (case gg9 => k_is); (case gg10 => k_is); (case gg11 => k_is); (case gg12 => k_is); (case gg13 => k_is); (case gg14 => k_is); (case gg15 => k_is); (case gg16 => k_is); (case gg17 => k_is); (case gg18 => k_is)
    (case j10 => k_is); (case j11 => k_is); (case j12 => k_is); (case j13 => k_is); (case j14 => k_is); (case j15 => k_is); (case j16 => k_is); (case j17 => k_is); (case j18 => k_is)
    (case ml10 => k_is); (case mc10 => k_is); (case mk10 => k_is); (case mb10 => exact fun _ _ _ _ _ _ us hl => match us, hl with | [_, _], _ => rfl)
    (case ml11 => k_is); (case mc11 => k_is); (case mk11 => k_is); (case mb11 => exact fun _ _ _ _ _ _ us hl => match us, hl with | [_, _], _ => rfl)
    (case ml12 => k_is); (case mc12 => k_is); (case mk12 => k_is); (case mb12 => exact fun _ _ _ _ _ _ us hl => match us, hl with | [_, _], _ => rfl)
    (case ml13 => k_is); (case mc13 => k_is); (case mk13 => k_is); (case mb13 => exact fun _ _ _ _ _ _ us hl => match us, hl with | [_, _], _ => rfl)
    (case ml14 => k_is); (case mc14 => k_is); (case mk14 => k_is); (case mb14 => exact fun _ _ _ _ _ _ us hl => match us, hl with | [_, _], _ => rfl)
    (case ml15 => k_is); (case mc15 => k_is); (case mk15 => k_is); (case mb15 => exact fun _ _ _ _ _ _ us hl => match us, hl with | [_, _], _ => rfl)
    (case ml16 => k_is); (case mc16 => k_is); (case mk16 => k_is); (case mb16 => exact fun _ _ _ _ _ _ us hl => match us, hl with | [_, _], _ => rfl)
    (case ml17 => k_is); (case mc17 => k_is); (case mk17 => k_is); (case mb17 => exact fun _ _ _ _ _ _ us hl => match us, hl with | [_, _], _ => rfl)
    (case ml18 => k_is); (case mc18 => k_is); (case mk18 => k_is); (case mb18 => exact fun _ _ _ _ _ _ us hl => match us, hl with | [_, _], _ => rfl)
    (case qq1 => kernel_rfl)
    (case qq2 => kernel_rfl)
    (case qq3 => kernel_rfl)
    (case qq4 => kernel_rfl)
    (case qq5 => kernel_rfl)
    (case qq6 => kernel_rfl)
    (case qq7 => kernel_rfl)
    (case qq8 => kernel_rfl)
    (case qq9 => k_is)
    (case z1 => k_is); (case z2 => k_is); (case z3 => k_is); (case z4 => k_is); (case z5 => k_is); (case z6 => k_is); (case z7 => k_is); (case z8 => k_is); (case z9 => k_is); (case z10 => k_is); (case z11 => k_is); (case z12 => k_is); (case z13 => k_is); (case z14 => k_is); (case z15 => k_is); (case z16 => k_is)
