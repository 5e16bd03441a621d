import PyProof.Rows.All
import Wide.All
import OpenK.AllK
import Wide.FinOn
import HandS.ForMost
import HandS.IsInst
import HandS.Wide
import HandS.WideMore
import HandS.Flow
import HandS.Style
import HandS.StrMore
import HandS.RaiseMore
import HandS.FStr
import HandS.TupSets
import KE.KxText
import HandS.Walk
import HandS.Replace
import PySem.Challenge.RW_mendbooks_k01_whole_tuples_of_names
set_option Elab.async false
set_option linter.all false
set_option autoImplicit false
set_option maxRecDepth 100000
set_option maxHeartbeats 4000000
/-! Vb: the layer below all laws: defs that are entered where no container is being written out (calm room), repr of data, powers. -/
namespace Vb
open PySem PySem.Spec PyProof.Rows L2

/-- nothing is being written out by repr around here -/
def Calm (A : Around) : Prop := A.guards = some []
theorem Calm.deep {A : Around} (h : Calm A) (env : Env) : Calm (A.deeper env) := h
theorem calm_caller : Calm callerA := rfl

/-- a promise that is kept where nothing is being written out -/
structure FnG (P : Program) (w : World) (K : PySem.W.Frag) (mg : Str → Option Value) (base : Heap) (k : Nat) (f : Addr) (fd : FuncData) (ps : List Str) (sp : Sp) : Prop where
  count : ∀ vs H Q E, sp vs H Q E → vs.length = ps.length
  goes : ∀ (A : Around) (outer : List Env) (s : Shared) (H : Hp) (args : Args) (us : List Value) (vs : List V) (Q : VK) (E : XK), Calm A → Room k A →
    Env0 P w K mg base A outer s H → BindsTo s fd args (ps.zip us) → Vals vs us → sp vs H Q E → codeAny (model P w) A (.call (.ref f) args) (CR CX0 outer P w H s Q E) s

section
variable {P : Program} {w : World} {K : PySem.W.Frag} {mg : Str → Option Value} {base : Heap}
theorem FnG.of {k : Nat} {f : Addr} {fd : FuncData} {ps : List Str} {sp : Sp} (F : FnOk P w K mg base CX0 k f fd ps sp) : FnG P w K mg base k f fd ps sp :=
  ⟨F.len, fun A outer s H args us vs Q E _ hr => F.run A outer s H args us vs Q E hr⟩

/-- a def's promise by its body, entered in calm room -/
theorem goes_by {x qual : Str} {st : Stmt} {f : Addr} {fd : FuncData} {N ps : List Str} {k : Nat} {sp : Sp} (F : Fun K x qual st f fd) (S : FnScope N ps (defScope st)) (len : ∀ vs H Q E, sp vs H Q E → vs.length = ps.length)
    (body : ∀ (cdv : Value) (A : Around) (outer : List Env) (s : Shared) (H : Hp) (vs : List V) (Q : VK) (E : XK), Calm (A.deeper (envOfC qual (defScope st) s.heap.objs.size f cdv)) → Room k (A.deeper (envOfC qual (defScope st) s.heap.objs.size f cdv)) → sp vs H Q E →
      ∃ t, PSs (cxOf CX0 P w K mg base N qual (defScope st) f cdv A outer s H E).nox (defBody st) t ∧ t { nx := fun _ H' => Q .non H', rt := Q } (start N vs) H) : FnG P w K mg base (k + 1) f fd ps sp := by
  obtain ⟨oc, od, kV, doc, pm, an, cdv, ct, osl, rfl, lk, hcd⟩ := F.ex
  refine ⟨len, fun A outer s H args us vs Q E hc hr e0 hb r hsp => ?_⟩
  have hl := len _ _ _ _ hsp
  have KX : K.In s.heap := e0.mod.kin.keeps fun b o e => (e0.bs b o e).1
  have lim : s.heap.NoLimit := e0.mod.nolimit.keeps fun b o e => (e0.bs b o e).1
  have kinds : ∀ y ∈ ps.zip us, (defScope st).names.lookup y.1 = some .local ∨ ((defScope st).names.lookup y.1 = some .cell ∧ ((cellsFrom (s.heap.objs.size + 1) (defScope st).names []).lookup y.1).isSome = true) := by
    intro y hy
    obtain ⟨n, v⟩ := y
    exact (S.par n (List.of_mem_zip hy).1).imp id fun q => ⟨q, PySem.W.cellsFrom_some _ _ _ (Or.inl q)⟩
  refine codeAny_call_function hr.depth (KX _ _ lk) rfl S.co S.gen rfl (PySem.W.codeRec_of KX hcd) (hb _ _ _ _ ?_)
  refine wpAny_newFunctionEnv_cells S.kind kinds fun env he s1 x => ?_
  cases he
  refine ⟨lim.keeps x.toInCall.keep, codeAny_func ?_⟩
  obtain ⟨t, ht, hq⟩ := body cdv A outer s H vs Q E (hc.deep _) (hr.deeper _) hsp
  have I := inv_start (CX := CX0) (E := E) S hr.hd e0 hl r x
  refine wpAny_mono (ht.nox.run [] s1 (start N vs) H _ I hq) (fun fl s' hs => ?_) (fun _ _ z => z)
  cases fl with
  | brk => exact hs.elim fun _ z => z.elim fun _ z => z.2.elim
  | cont => exact hs.elim fun _ z => z.elim fun _ z => z.2.elim
  | ret u =>
    obtain ⟨v, σ', H', J, rv, q⟩ := hs
    exact ⟨v, H', J.os, J.bare, J.base, J.hok, rv, q⟩
  | next =>
    obtain ⟨σ', H', J, q⟩ := hs
    exact ⟨V.non, H', J.os, J.bare, J.base, J.hok, rfl, q⟩
end

section
variable {X : Cx} {k : Nat} {f : Addr} {fd : FuncData} {ps : List Str} {sp : Sp} {dvs : List V} {ds : List Value} {E : XK} {x : Str} {p pos : Pos} {e : Expr} {es : List Expr} {t : TA}
theorem goes_in {pins : List (Addr × Obj)} {σ : L2.St} {H : Hp} {s : Shared} {Q : VK} {us : List Value} {vs : List V} (F : FnG X.prog X.w X.K X.mg X.base k f fd ps sp) (hc : Calm X.A) (hr : Room k X.A) (hb : Binds X.K fd ps ds) (hd : Vals dvs ds) (hx : Passes CX0 X E)
    (I : Inv X pins σ H s) (r : Vals vs us) (h : sp (vs ++ dvs) H Q E) : wpAny (model X.prog X.w) X.A (call (.ref f) us) (EP X pins σ Q) X.xe s := by
  have both : Vals (vs ++ dvs) (us ++ ds) := r.append hd
  have hl : (us ++ ds).length = ps.length := both.length ▸ F.count _ _ _ _ h
  have go := F.goes X.A X.stack s H ⟨us, []⟩ (us ++ ds) (vs ++ dvs) Q E hc hr I.env0 (hb s us I.kIn hl) both h
  refine wpAny_call (codeAny_mono go fun r s' hq => ?_)
  match r, hq with
  | .error e, hq => exact hx pins σ H s e s' I hq
  | .ok (.ret u), hq => exact I.after hq
  | .ok .next, hq => exact hq.elim
  | .ok .brk, hq => exact hq.elim
  | .ok .cont, hq => exact hq.elim
/-- f(e, ..), f entered in calm room -/
theorem pe_callG (F : FnG X.prog X.w X.K X.mg X.base k f fd ps sp) (hc : Calm X.A) (hr : Room k X.A) (hg : Gl X x) (hm : X.mg x = some (.ref f)) (hk : PySem.W.keepIn X.K (.ref f) = true) (hb : Binds X.K fd ps ds) (hd : Vals dvs ds) (hx : Passes CX0 X E)
    (ha : PA X (e :: es) t) (hdb : (x == ("__debug__" : Str)) = false := by decide) (he : starEach (e :: es) X.env = (false, eval e X.env) :: starEach es X.env := by rfl) (hpl : (backTo pos (starEach es X.env)).any (·.1) = false := by rfl) :
    PE X (.Call (.Name x p) (e :: es) [] pos) (tCall sp dvs E t) :=
  ⟨fun pins s σ H Q I h => wpAny_Call_Name_kw (ld_glob I hg hm
    (PySem.W.callWith_K (h₀ := X.base) I.ok.mod.kin hk (thn (ha.run pos pins s σ H _ I h) fun us s1 ⟨vs, H1, I1, r, q⟩ => ⟨I1.kIn, goes_in F hc hr hb hd hx I1 r q⟩) he hpl) hdb)⟩
/-- f() -/
theorem pe_callG0 (F : FnG X.prog X.w X.K X.mg X.base k f fd ps sp) (hc : Calm X.A) (hr : Room k X.A) (hg : Gl X x) (hm : X.mg x = some (.ref f)) (hk : PySem.W.keepIn X.K (.ref f) = true) (hb : Binds X.K fd ps ds) (hd : Vals dvs ds) (hx : Passes CX0 X E)
    (hdb : (x == ("__debug__" : Str)) = false := by decide) : PE X (.Call (.Name x p) [] [] pos) (tCall sp dvs E tNil) :=
  ⟨fun pins s σ H Q I h => wpAny_Call_Name_kw (ld_glob I hg hm (PySem.W.callWith_K0 I.kIn hk (goes_in (us := []) F hc hr hb hd hx I .nil h)) hdb)⟩
end
/-! ### the law's own end, in calm room -/
section
variable {P : Program} {w : World} {K : PySem.W.Frag} {mg mb : Str → Option Value} {s₁ : Shared} {H : Hp} {a : Addr}
/-- what is seen behind the top once the script alone may be tracked -/
structure Lone (K : PySem.W.Frag) (s₁ : Shared) (H : Hp) (a : Addr) : Prop where
  only : Only H
  at_a : ∀ b, H b ≠ none → b = a
  noK : H a ≠ none → K.lookup a = none
  noD : ∀ o, s₁.heap.get? a = some o → ∀ es ep, o.data ≠ .dict es ep
theorem Lone.bare (L : Lone K s₁ H a) {b : Addr} {o : Obj} (e : s₁.heap.get? b = some o) (h : (∃ es ep, o.data = .dict es ep) ∨ K.lookup b = some o) : H b = none := by
  refine Classical.byContradiction fun n => ?_
  have eb := L.at_a b n
  subst eb
  rcases h with ⟨es, ep, d⟩ | h
  · exact L.noD o e es ep d
  · exact nomatch (L.noK n).symm.trans h
theorem Lone.env (L : Lone K s₁ H a) (KX : K.In s₁.heap) (hns : s₁.heap.Ns mainGlobals mg) (hb : s₁.heap.Ns builtinsNs mb) (hbb : ∀ x : Str, x ≠ "__name__" → mb x = bootBuiltins x) (hlim : s₁.heap.NoLimit) (hg : s₁.gens = #[])
    (hok : HOk P w H s₁.heap) : K.In (hidT s₁.heap H) ∧ (hidT s₁.heap H).Ns mainGlobals mg ∧ Env0 P w K mg (hidT s₁.heap H) callerA [] s₁ H := by
  have ns : ∀ {b : Addr} {m : Str → Option Value}, s₁.heap.Ns b m → (hidT s₁.heap H).Ns b m := fun ⟨o, es, ep, e, d, r⟩ => ⟨o, es, ep, hidT_get e (L.bare e (.inl ⟨es, ep, d⟩)), d, r⟩
  have kin : K.In (hidT s₁.heap H) := fun b o e => hidT_get (KX b o e) (L.bare (KX b o e) (.inr e))
  obtain ⟨mc, c1, c2⟩ := hlim
  exact ⟨kin, ns hns, rfl, ⟨kin, ns hns, ⟨mb, ns hb, hbb⟩, ⟨mc, ns c1, c2⟩⟩, fun b o e => of_hidT e, Nat.le_of_eq (hidT_size _ _), trivial, fun b z => (List.not_mem_nil z).elim, hok, .of_eq hg⟩
theorem Lone.kept (L : Lone K s₁ H a) {s' : Shared} (hok : HOk P w H s₁.heap) {u : Value} (c : CE [] P w H s₁ (fun v _ => v = .bl true) u s') : Flow.ret u = .ret (.bool true) ∧ OldK s₁.heap s'.heap ∧ s'.os = s₁.os ∧ AllBare s'.gens := by
  obtain ⟨v, H', os, bare, un, hok', r', q⟩ := c
  cases (show v = .bl true from q)
  cases (show u = Value.bool true from r')
  refine ⟨rfl, OldK.of_keep fun b o e => ?_, os, bare⟩
  cases q : H b with
  | none => exact un.keep b o e q (fun z => (List.not_mem_nil z).elim) (fun z => (List.not_mem_nil z).elim)
  | some u =>
    rcases L.only b with z | ⟨ob, xs, z⟩
    · exact nomatch q.symm.trans z
    · have before := (hok b _ z).1
      have after := (hok' b _ (un.frzs b ob _ z)).1
      cases before.symm.trans e
      exact after
variable {k : Nat} {fa : Addr} {fd : FuncData} {x : Str} {sp : Sp} {vs : List Value} {ns : List Int}
theorem law_goes (KX : K.In s₁.heap) (hns : s₁.heap.Ns mainGlobals mg) (hb : s₁.heap.Ns builtinsNs mb) (hbb : ∀ x : Str, x ≠ "__name__" → mb x = bootBuiltins x) (hlim : s₁.heap.NoLimit) (hg : s₁.gens = #[])
    (ha : s₁.heap.get? a = some { cls := .type "list", data := .seq vs.toArray }) (hi : IntsAre vs ns) (hl : ns.length ≤ sizeLine) (hr : Room k callerA)
    (F : ∀ base : Heap, K.In base → base.Ns mainGlobals mg → FnG P w K mg base k fa fd [x] sp) (bind : ∀ (s : Shared) (u : Value), BindsTo s fd ⟨[u], []⟩ [(x, u)])
    (hsp : ∀ H : Hp, Only H → SqL K H a (ns.map V.int) → sp [.ref a] H (fun v _ => v = .bl true) fun _ _ _ => False) :
    codeAny (model P w) callerA (.call (.ref fa) ⟨[.ref a], []⟩) (fun r s' => r = .ok (.ret (.bool true)) ∧ OldK s₁.heap s'.heap ∧ s'.os = s₁.os ∧ AllBare s'.gens) s₁ := by
  have rv := vals_ints hi
  have core : ∀ H : Hp, Lone K s₁ H a → SqL K H a (ns.map V.int) → HOk P w H s₁.heap → codeAny (model P w) callerA (.call (.ref fa) ⟨[.ref a], []⟩) (fun r s' => r = .ok (.ret (.bool true)) ∧ OldK s₁.heap s'.heap ∧ s'.os = s₁.os ∧ AllBare s'.gens) s₁ := by
    intro H L hS hok
    obtain ⟨kin, kns, e0⟩ := L.env (P := P) (w := w) KX hns hb hbb hlim hg hok
    refine codeAny_mono ((F _ kin kns).goes callerA [] s₁ H ⟨[.ref a], []⟩ [.ref a] [.ref a] _ _ calm_caller hr e0 (bind s₁ (.ref a)) (.cons rfl .nil) (hsp H L.only hS)) fun r s' h => ?_
    match r, h with
    | .error _, h => exact h.elim
    | .ok .next, h => exact h.elim
    | .ok .brk, h => exact h.elim
    | .ok .cont, h => exact h.elim
    | .ok (.ret u), h =>
      obtain ⟨e, rest⟩ := L.kept hok h
      exact ⟨congrArg Except.ok e, rest⟩
  have noD : ∀ o, s₁.heap.get? a = some o → ∀ es ep, o.data ≠ .dict es ep := fun o e es ep d => by
    cases ha.symm.trans e
    cases (show Data.seq vs.toArray _ = Data.dict es ep from d)
  cases hk : K.lookup a with
  | some o =>
    cases ha.symm.trans (KX a o hk)
    exact core (fun _ => none) ⟨fun _ => .inl rfl, fun b z => (z rfl).elim, fun z => (z rfl).elim, noD⟩ (.inr ⟨_, vs.toArray, _, hk, rfl, rfl, rfl, by rw [List.size_toArray, hi.length]; exact hl, by simpa using rv⟩) (fun b u z => nomatch (show (none : Option HO) = some u from z))
  | none =>
    let T : HO := .frz { cls := .type "list", data := .seq vs.toArray } (.lst (ns.map V.int))
    have tA : ∀ b u, (if b = a then some T else none : Option HO) = some u → b = a ∧ u = T := fun b u z => by
      by_cases q : b = a
      · rw [if_pos q] at z
        exact ⟨q, (Option.some.inj z).symm⟩
      · rw [if_neg q] at z
        cases z
    refine core (fun b => if b = a then some T else none) ⟨fun b => ?_, fun b z => ?_, fun _ => hk, noD⟩ (.inl (.inr ⟨{ cls := .type "list", data := .seq vs.toArray }, if_pos rfl⟩)) (fun b u z => ?_)
    · by_cases q : b = a
      · exact .inr ⟨_, _, if_pos q⟩
      · exact .inl (if_neg q)
    · exact Classical.byContradiction fun q => z (if_neg q)
    · obtain ⟨e1, e2⟩ := tA b u z
      subst e1
      subst e2
      exact ⟨ha, by rw [List.length_map]; exact hl, vs, _, rv, ha⟩
end
/-- the goal that the head leaves, from the law's promise in calm room -/
theorem walk_calm {l : PySem.W.OpenLaw} {n k : Nat} {q : Program} {loose : List Str} {XP : (Str → Option Value) → Heap → Prop} {YP : World → Heap → Prop} {d : DefRec} {K : Params → PySem.W.Frag} {sp : PySem.W.Frag → Sp} {x : Str}
    (hn : l.most = some n) (hn2 : n ≤ sizeLine) (hdf : d.params.defaults = []) (hr : Room k callerA) (hY : ∀ (w : World) (h : Heap), YP w h → (K w.params).In h)
    (F : ∀ (w : World) (mg : Str → Option Value) (fa : Addr) (h : Heap), (K w.params).In h → h.Ns mainGlobals mg → mg d.name = some (.ref fa) →
      ∃ fd : FuncData, (∀ (s : Shared) (u : Value), BindsTo s fd ⟨[u], []⟩ [(x, u)]) ∧ ∀ base : Heap, (K w.params).In base → base.Ns mainGlobals mg → FnG l.prog w (K w.params) mg base k fa fd [x] (sp (K w.params)))
    (hsp : ∀ (K : PySem.W.Frag) (H : Hp) (a : Addr) (ns : List Int), ns.length ≤ n → Only H → SqL K H a (ns.map V.int) → sp K [.ref a] H (fun v _ => v = .bl true) fun _ _ _ => False) :
    PySem.W.WalkO q loose XP YP l.row.toRowW d [] (fun f vs => PySem.call f vs) :=
  Att.attach_call hn hdf fun w s₀ s₁ mg mb fa o pm cd doc a vs ns G Y ho hd hcd hmg hobj hints hlen hg => by
    obtain ⟨fd, hb, hF⟩ := F w mg fa _ (hY w _ Y) G.T.g hmg
    exact law_goes (hY w _ Y) G.T.g G.T.b G.T.builtins G.T.nolimit hg hobj hints (Nat.le_trans hlen hn2) hr hF hb fun H hO hS => hsp _ H a ns hlen hO hS

/-! ### repr of data, in calm room -/
section
variable {X : Cx}
/-- repr(x) of data: its text is the data's -/
def rRepr (K : PySem.W.Frag) : List V → Hp → VK → Prop := fun xs H Q => ∃ (a : Addr) (d : PyData), xs = [.ref a] ∧ Dp K H (.ref a) d ∧ d.showable = true ∧ d.hasDict = false ∧ d.depth < 64 ∧ d.shown.length ≤ sizeLine ∧ Q (.str d.shown) H
theorem call_repr_data (hc : Calm X.A) (hu : X.A.units + 64 < cLine) : CallR X (.builtin "repr") (rRepr X.K) := by
  intro pins s σ H xs us Q I r h
  obtain ⟨a, d, rfl, hd, hs, hn, hz, hl, q⟩ := h
  obtain ⟨u, rfl, r1⟩ := vals1 r
  cases (show u = Value.ref a from r1)
  obtain ⟨as, hr⟩ := Dp.reads I d _ _ hd r1
  refine repr_of_reads' (h₀ := s.heap) hr hs (fun z => ?_) hc (by omega) (fun _ _ e => e) (fun h' u tk hk => ?_) hl
  · rw [hn] at z
    cases z
  · exact ⟨.str _, H, I.kept hk, ⟨_, rfl⟩, q⟩
/-- a power of any two written numbers that is not too long -/
def CPowW (i j : Int) : Prop := 0 ≤ j ∧ (Builtin.Int.intBits i : Int) * j ≤ 2 ^ 27
theorem op_powW : OpR X (binaryOp .Pow) (rI CPowW fun i j => .int (i ^ j.toNat)) := opI fun _ _ _ _ _ _ _ hc q => pow_int hc.1 hc.2 q
end

/-! ### names that stand for defs -/
/-- the name x stands for a def that keeps the promise sp in calm room, by at most level k -/
def Cg (P : Program) (w : World) (K : PySem.W.Frag) (mg : Str → Option Value) (base : Heap) (k : Nat) (x : Str) (sp : Sp) : Prop :=
  ∃ (f : Addr) (fd : FuncData) (ps : List Str), FnG P w K mg base k f fd ps sp ∧ mg x = some (.ref f) ∧ PySem.W.keepIn K (.ref f) = true ∧ Binds K fd ps []
/-- the def st of the text stands at the name x -/
def Df (K : PySem.W.Frag) (mg : Str → Option Value) (x : Str) (st : Stmt) (ps : List Str) : Prop :=
  ∃ (f : Addr) (fd : FuncData), Fun K x x st f fd ∧ mg x = some (.ref f) ∧ Binds K fd ps []
section
variable {P : Program} {w : World} {K : PySem.W.Frag} {mg : Str → Option Value} {base : Heap}
theorem FnG.mono {j k : Nat} {f : Addr} {fd : FuncData} {ps : List Str} {sp : Sp} (F : FnG P w K mg base j f fd ps sp) (h : j ≤ k) : FnG P w K mg base k f fd ps sp :=
  ⟨F.count, fun A outer s H args us vs Q E hc hr => F.goes A outer s H args us vs Q E hc (hr.mono h)⟩
theorem Cg.mono {j k : Nat} {x : Str} {sp : Sp} (G : Cg P w K mg base j x sp) (h : j ≤ k) : Cg P w K mg base k x sp := by
  obtain ⟨f, fd, ps, F, m, kp, b⟩ := G
  exact ⟨f, fd, ps, F.mono h, m, kp, b⟩
/-- a name's promise by its def's body -/
theorem Df.ok {x : Str} {st : Stmt} {N ps : List Str} {k : Nat} {sp : Sp} (D : Df K mg x st ps) (S : FnScope N ps (defScope st)) (len : ∀ vs H Q E, sp vs H Q E → vs.length = ps.length)
    (body : ∀ (cdv : Value) (A : Around) (outer : List Env) (s : Shared) (H : Hp) (vs : List V) (Q : VK) (E : XK) (f : Addr), Calm (A.deeper (envOfC x (defScope st) s.heap.objs.size f cdv)) → Room k (A.deeper (envOfC x (defScope st) s.heap.objs.size f cdv)) → sp vs H Q E →
      ∃ t, PSs (cxOf CX0 P w K mg base N x (defScope st) f cdv A outer s H E).nox (defBody st) t ∧ t { nx := fun _ H' => Q .non H', rt := Q } (start N vs) H) : Cg P w K mg base (k + 1) x sp := by
  obtain ⟨f, fd, F, m, b⟩ := D
  exact ⟨f, fd, ps, goes_by F S len fun cdv A outer s H vs Q E hc hr h => body cdv A outer s H vs Q E f hc hr h, m, F.kp, b⟩
/-- .. where what runs around does not matter -/
theorem Df.mk {x : Str} {st : Stmt} {ps : List Str} {h : Heap} {f : Addr} {oc : Value} {od an : Option Addr} {osl : Array (Option Value)} {kV doc pm cdv ct : Value} (X : K.In h) (G : h.Ns mainGlobals mg) (a : PySem.W.nsIn K mainGlobals x = some (some (.ref f)))
    (l : K.lookup f = some ⟨oc, od, .func (PySem.W.fnOf x x (defArgs st) (defBody st) (defScope st) .none kV doc pm an cdv ct), osl⟩) (c : PySem.W.codeIn K cdv x = true) (k : PySem.W.keepIn K (.ref f) = true)
    (b : ∀ (kV doc pm : Value) (an : Option Addr) (cdv ct : Value) (us : List Value), us.length = ps.length → bindArgs (PySem.W.fnOf x x (defArgs st) (defBody st) (defScope st) .none kV doc pm an cdv ct) ⟨us, []⟩ = pure (ps.zip us)) : Df K mg x st ps :=
  ⟨f, _, fun_mk (st := st) l c k, PySem.W.mg_of X G a, (fun_mk (st := st) l c k).binds b⟩
end
section
variable {X : Cx} {j k : Nat} {sp : Sp} {E : XK} {x : Str} {p pos : Pos} {e : Expr} {es : List Expr} {t : TA}
theorem pe_cg (G : Cg X.prog X.w X.K X.mg X.base j x sp) (hc : Calm X.A) (hr : Room k X.A) (hg : Gl X x) (ha : PA X (e :: es) t) (hj : j ≤ k := by decide) (hx : Passes CX0 X E := by exact pass0) (hdb : (x == ("__debug__" : Str)) = false := by decide)
    (he : starEach (e :: es) X.env = (false, eval e X.env) :: starEach es X.env := by rfl) (hpl : (backTo pos (starEach es X.env)).any (·.1) = false := by rfl) : PE X (.Call (.Name x p) (e :: es) [] pos) (tCall sp [] E t) := by
  obtain ⟨f, fd, ps, F, m, kp, b⟩ := G
  exact pe_callG F hc (hr.mono hj) hg m kp b .nil hx ha hdb he hpl
theorem pe_cg0 (G : Cg X.prog X.w X.K X.mg X.base j x sp) (hc : Calm X.A) (hr : Room k X.A) (hg : Gl X x) (hj : j ≤ k := by decide) (hx : Passes CX0 X E := by exact pass0) (hdb : (x == ("__debug__" : Str)) = false := by decide) :
    PE X (.Call (.Name x p) [] [] pos) (tCall sp [] E tNil) := by
  obtain ⟨f, fd, ps, F, m, kp, b⟩ := G
  exact pe_callG0 F hc (hr.mono hj) hg m kp b .nil hx hdb
end

/-! ### the dice of all laws: a list of three ints, at an address of its own -/
def dz (g s c : Int) : HO := .lst [.int g, .int s, .int c]
def Dice (H : Hp) (d : Addr) : Prop := ∃ g s c, H d = some (dz g s c)
/-- all but the dice stays, more may stand -/
def Past (d : Addr) (H H' : Hp) : Prop := (∀ b o, b ≠ d → H b = some o → H' b = some o) ∧ Dice H' d
theorem Past.dice {d : Addr} {H H' : Hp} (h : Past d H H') : Dice H' d := h.2
theorem Past.trans {d : Addr} {H H1 H2 : Hp} (a : Past d H H1) (b : Past d H1 H2) : Past d H H2 := ⟨fun x o n e => b.1 x o n (a.1 x o n e), b.2⟩
theorem Past.refl {d : Addr} {H : Hp} (h : Dice H d) : Past d H H := ⟨fun _ _ _ e => e, h⟩
theorem Past.upd {d : Addr} {H : Hp} (g s c : Int) : Past d H (L2.upd H d (dz g s c)) := ⟨fun x o n e => by rw [upd_ne n]; exact e, g, s, c, upd_same⟩
theorem Past.same {d : Addr} {H H' : Hp} (hd : Dice H d) (h : Same H H') : Past d H H' := by
  obtain ⟨g, s, c, e⟩ := hd
  exact ⟨fun x o _ q => h x o q, g, s, c, h _ _ e⟩
theorem Past.new {d p : Addr} {H : Hp} {o : HO} (hd : Dice H d) (h : H p = none) : Past d H (L2.upd H p o) := Past.same hd fun b x e => by
  rw [upd_ne (ne_of_none e h)]
  exact e
/-- what is kept: anything of another kind than the dice, or at another place -/
theorem Past.keep {d b : Addr} {H H' : Hp} {o : HO} (h : Past d H H') (n : b ≠ d) (e : H b = some o) : H' b = some o := h.1 b o n e
theorem Dice.ne {H : Hp} {d p : Addr} (h : Dice H d) (n : H p = none) : p ≠ d := by
  obtain ⟨g, s, c, e⟩ := h
  exact (ne_of_none e n).symm
theorem Past.seq {K : PySem.W.Frag} {d a : Addr} {xs : List V} {H H' : Hp} (h : Past d H H') (n : a ≠ d) (s : SqL K H a xs) : SqL K H' a xs := by
  rcases s with (s | ⟨o, s⟩) | s
  · exact .inl (.inl (h.1 _ _ n s))
  · exact .inl (.inr ⟨o, h.1 _ _ n s⟩)
  · exact .inr s

/-- the law's own def, by its address -/
theorem law_def {st : Stmt} {x : Str} {K : PySem.W.Frag} {mg : Str → Option Value} {h : Heap} {f fa : Addr} {oc : Value} {od an : Option Addr} {osl : Array (Option Value)} {kV doc pm cdv ct : Value} (X : K.In h) (G : h.Ns mainGlobals mg) (hfa : mg "law" = some (.ref fa))
    (hb : ∀ (kV doc pm : Value) (an : Option Addr) (cdv ct : Value) (s : Shared) (v : Value), BindsTo s (PySem.W.fnOf "law" "law" (defArgs st) (defBody st) (defScope st) .none kV doc pm an cdv ct) ⟨[v], []⟩ [(x, v)]) (a : PySem.W.nsIn K mainGlobals "law" = some (some (.ref f)))
    (l : K.lookup f = some ⟨oc, od, .func (PySem.W.fnOf "law" "law" (defArgs st) (defBody st) (defScope st) .none kV doc pm an cdv ct), osl⟩) (c : PySem.W.codeIn K cdv "law" = true) (k : PySem.W.keepIn K (.ref f) = true) :
    ∃ fd : FuncData, (∀ (s : Shared) (v : Value), BindsTo s fd ⟨[v], []⟩ [(x, v)]) ∧ Fun K "law" "law" st fa fd := by
  cases hfa.symm.trans (PySem.W.mg_of X G a)
  exact ⟨_, hb kV doc pm an cdv ct, fun_mk (st := st) l c k⟩
end Vb
set_option Elab.async false
set_option linter.all false
set_option autoImplicit false
set_option maxRecDepth 100000
set_option maxHeartbeats 4000000
/-! Ts: sets of texts that are made of a list or a tuple, and sorted at once. -/
namespace Ts
open PySem PySem.Spec PyProof.Rows L2 Vb
section
variable {P : Program} {w : World}
/-- two members are unlike -/
def Unlike (P : Program) (w : World) (e e' : Int × Value) : Prop := ∀ k, (PySem.strKind P w).is k e.2 = true → (PySem.strKind P w).is k e'.2 = false
theorem Unlike.symm {e e' : Int × Value} (h : Unlike P w e e') : Unlike P w e' e := fun k hk => by
  cases q : (PySem.strKind P w).is k e.2 with
  | false => rfl
  | true => rw [h k q] at hk; cases hk
/-- a table whose members are just the texts of S, each once, and that can be walked -/
structure Good (P : Program) (w : World) (S : Str → Bool) (es : Array (Int × Value)) (t : SetTable) : Prop where
  el : ElemsOf (PySem.strKind P w) es.toList
  ap : es.toList.Pairwise (Unlike P w)
  mem : ∀ k, S k = true ↔ ∃ e ∈ es.toList, (PySem.strKind P w).is k e.2 = true
  few : es.size < scanBound
  fit : t.fits es.size = true
  ris : Ris t.place.toList
  led : w.params.followText "set-order" = true ∨ t.led = true
theorem size_perm {es es' : Array (Int × Value)} (p : es'.toList.Perm es.toList) : es'.size = es.size := by
  have := p.length_eq
  simpa using this
theorem Good.perm {S : Str → Bool} {es es' : Array (Int × Value)} {t t' : SetTable} (G : Good P w S es t) (p : es'.toList.Perm es.toList) (f : t'.fits es'.size = true) (r : Ris t'.place.toList) (l : t'.led = t.led) : Good P w S es' t' where
  el := G.el.perm p
  ap := (p.pairwise_iff fun h => h.symm).mpr G.ap
  mem := fun k => (G.mem k).trans ⟨fun ⟨e, he, q⟩ => ⟨e, p.mem_iff.mpr he, q⟩, fun ⟨e, he, q⟩ => ⟨e, p.mem_iff.mp he, q⟩⟩
  few := size_perm p ▸ G.few
  fit := f
  ris := r
  led := l ▸ G.led
theorem Good.relay {S : Str → Bool} {es : Array (Int × Value)} {t : SetTable} (G : Good P w S es t) (m : Nat) : Good P w S (relayAll t es m).1 (relayAll t es m).2.1 ∧ (relayAll t es m).1.size = es.size :=
  ⟨G.perm (relayAll_perm t es m) (relayAll_fits t es m) (relayAll_ris t es m) (relayAll_led t es m), size_perm (relayAll_perm t es m)⟩
theorem Good.plain {S : Str → Bool} {es : Array (Int × Value)} {t : SetTable} (G : Good P w S es t) : Good P w S es { t with plain := false } := ⟨G.el, G.ap, G.mem, G.few, SetTable.fits_plain_off G.fit, G.ris, G.led⟩
theorem Good.lay {S : Str → Bool} {es : Array (Int × Value)} {t : SetTable} (G : Good P w S es t) (k : Str) (tk : Tok) (new : ∀ e ∈ es.toList, (PySem.strKind P w).is k e.2 = false) (room : es.size + 1 < scanBound) :
    Good P w (fun j => S j || decide (j = k)) (layNew t es ((PySem.strKind P w).hash k) (.str k tk)).1 (layNew t es ((PySem.strKind P w).hash k) (.str k tk)).2.1 ∧ (layNew t es ((PySem.strKind P w).hash k) (.str k tk)).1.size = es.size + 1 := by
  have isk : (PySem.strKind P w).is k (.str k tk) = true := by simp [PySem.strKind, Value.isStrOf]
  have p := layNew_perm t es ((PySem.strKind P w).hash k) (.str k tk)
  rw [Array.toList_push] at p
  have sz : (layNew t es ((PySem.strKind P w).hash k) (.str k tk)).1.size = es.size + 1 := by
    have := p.length_eq
    simpa using this
  refine ⟨⟨(G.el.push isk rfl).perm p, (p.pairwise_iff fun h => h.symm).mpr (List.pairwise_append.mpr ⟨G.ap, List.pairwise_singleton _ _, fun e he e' he' j hj => ?_⟩), fun j => mem_push_iff isk G.mem p j, by rw [sz]; exact room, layNew_fits _ _ _ _, layNew_ris _ _ _ _ G.ris, G.led.imp id fun z => (layNew_led _ _ _ _).trans z⟩, sz⟩
  rw [List.mem_singleton.mp he']
  cases q : (PySem.strKind P w).is j (Value.str k tk) with
  | false => rfl
  | true =>
    have : j = k := (PySem.strKind P w).inj _ j k q isk
    subst this
    rw [new e he] at hj
    cases hj
/-- the set at a -/
def TxtSet (P : Program) (w : World) (h : Heap) (a : Addr) (S : Str → Bool) (n : Nat) : Prop := ∃ o es ep t, h.get? a = some o ∧ o.ExactSet ∧ o.data = .set es ep t ∧ Good P w S es t ∧ es.size = n
theorem TxtSet.at {h h' : Heap} {a : Addr} {S : Str → Bool} {n : Nat} (T : TxtSet P w h a S n) (k : ∀ o, h.get? a = some o → h'.get? a = some o) : TxtSet P w h' a S n := by
  obtain ⟨o, es, ep, t, e, r⟩ := T
  exact ⟨o, es, ep, t, k o e, r⟩
variable {A : Around} {E : Value → Shared → Prop} {s : Shared} {a : Addr} {S : Str → Bool} {n : Nat}
theorem put_tail {g : Bool → Sem Unit} (hg : ∀ (b : Bool) (s₁ : Shared) (Q' : Unit → Shared → Prop), Q' () s₁ → wpAny (model P w) A (g b) Q' E s₁) {o : Obj} {es es1 : Array (Int × Value)} {ep : Nat} {t t1 : SetTable} (ho : s.heap.get? a = some o) (ex : o.ExactSet)
    (hd : o.data = .set es ep t) (G : Good P w S es1 t1) {was : Bool} {R : Option Bool → Shared → Prop} (hR : ∀ h', Heap.SameBut a s.heap h' → TxtSet P w h' a S es1.size → R (some true) { s with heap := h' }) :
    wpAny (model P w) A (do
        storeSet a es1 t1
        if (!was && t1.tooFull) = true then do
            g (relayAll t1 es1 (SetTable.grown es1.size)).2.2
            storeSet a (relayAll t1 es1 (SetTable.grown es1.size)).1 (relayAll t1 es1 (SetTable.grown es1.size)).2.1
            pure (some true)
          else pure (some true)) R E s := by
  have st1 := store_at (es' := es1) (t' := t1) ho hd
  have sb := Heap.SameBut.update s.heap a (Obj.putSet es1 t1)
  refine wpAny_bind (wpAny_storeSet_of ho hd ?_ (fits_of_scanBound G.few))
  by_cases c : (!was && t1.tooFull) = true
  · rw [if_pos c]
    obtain ⟨G2, z⟩ := G.relay (SetTable.grown es1.size)
    refine wpAny_bind (hg _ _ _ (wpAny_bind (wpAny_storeSet_of st1 rfl ?_ (fits_of_scanBound G2.few))))
    exact wpAny_pure (hR _ (sb.trans (Heap.SameBut.update _ a _)) ⟨_, _, _, _, store_at st1 rfl, ex, rfl, G2, z⟩)
  · rw [if_neg c]
    exact wpAny_pure (hR _ sb ⟨_, _, _, _, st1, ex, rfl, G, rfl⟩)
/-- one text more -/
theorem put_text {k : Str} {tk : Tok} {Q : Bool → Shared → Prop} (T : TxtSet P w s.heap a S n) (room : n + 1 < scanBound)
    (hQ : ∀ (b : Bool) h', Heap.SameBut a s.heap h' → TxtSet P w h' a (fun j => S j || decide (j = k)) (if S k = true then n else n + 1) → Q b { s with heap := h' }) : wpAny (model P w) A (setAddHashed a (.str k tk) ((PySem.strKind P w).hash k)) Q E s := by
  obtain ⟨o, es, ep, t, ho, ex, hd, G, hn⟩ := T
  have isk : (PySem.strKind P w).is k (.str k tk) = true := by simp [PySem.strKind, Value.isStrOf]
  have sc : (Value.str k tk).scannable = true := rfl
  unfold setAddHashed setAddHashedIn
  refine wpAny_holding (wpAny_bind (wpAny_setState_of ho hd G.fit ?_))
  dsimp only
  rw [byScan_of sc G.few G.el]
  simp only [↓reduceIte]
  unfold setAddByScan
  refine wpAny_bind (wpAny_bind (wpAny_rule (wpAny_bind (wpAny_setScan_of isk ho hd G.fit G.el ?_))))
  cases f : List.findIdx? (fun e => (PySem.strKind P w).is k e.2) es.toList with
  | some j =>
    obtain ⟨hj, pj, _⟩ := List.findIdx?_eq_some_iff_getElem.mp f
    have there : S k = true := (G.mem k).mpr ⟨_, List.getElem_mem hj, pj⟩
    have same : (fun j => S j || decide (j = k)) = S := funext fun i => by
      by_cases e : i = k
      · rw [e, there]; rfl
      · rw [decide_eq_false e, Bool.or_false]
    have q := hQ false s.heap (Heap.SameBut.refl a s.heap) ⟨o, es, ep, t, ho, ex, hd, same.symm ▸ G, by rw [if_pos there]; exact hn⟩
    exact wpAny_pure (wpAny_pure q)
  | none =>
    have new : ∀ e ∈ es.toList, (PySem.strKind P w).is k e.2 = false := fun e he => by simpa using List.findIdx?_eq_none_iff.mp f e he
    have gone : ¬ S k = true := fun z => by
      obtain ⟨e, he, q⟩ := (G.mem k).mp z
      rw [new e he] at q
      cases q
    have way : ∀ (b : Bool) (s₁ : Shared) (Q' : Unit → Shared → Prop), Q' () s₁ → wpAny (model P w) A (match b with | true => rule "set.scan.the-table-gave-way" | false => pure ()) Q' E s₁ := fun b s₁ Q' q => by
      cases b
      · exact wpAny_pure q
      · exact wpAny_rule q
    obtain ⟨G1, z1⟩ := G.lay k tk new (by omega)
    generalize layNew t es ((PySem.strKind P w).hash k) (.str k tk) = Z at G1 z1
    obtain ⟨es1, t1, was, gave⟩ := Z
    have last : ∀ h', Heap.SameBut a s.heap h' → TxtSet P w h' a (fun j => S j || decide (j = k)) es1.size → Q true { s with heap := h' } := fun h' sb r => by
      refine hQ true h' sb ?_
      rw [if_neg gone, ← hn]
      have z : es1.size = es.size + 1 := z1
      rw [z] at r
      exact r
    dsimp only
    refine wpAny_bind (way _ _ _ ?_)
    split
    · refine wpAny_bind ?_
      rw [hashByValue_scannable 8 sc]
      refine wpAny_pure ?_
      refine put_tail way ho ex hd (t1 := _) ?_ (fun h' sb r => wpAny_pure (last h' sb r))
      first | exact G1 | exact G1.plain | (split <;> first | exact G1 | exact G1.plain)
    · refine wpAny_bind (wpAny_pure ?_)
      simp only [↓reduceIte]
      exact put_tail way ho ex hd G1 (fun h' sb r => wpAny_pure (last h' sb r))

/-- what one gets of texts, one behind the other -/
def among (xs : List Str) (i : Nat) : Str → Bool := fun k => decide (k ∈ xs.take i)
theorem among_step {xs : List Str} {i : Nat} {x : Str} (h : xs[i]? = some x) : (fun j => among xs i j || decide (j = x)) = among xs (i + 1) := funext fun j => by
  unfold among
  rw [List.take_add_one, h]
  by_cases a : j ∈ xs.take i
  · simp [a]
  · simp [a]
theorem empty_set {h : Heap} {b : Addr} (ho : h.get? b = some { cls := .type "set", dict := none, data := .set #[] 0 (.fresh 0 0 (!w.params.followText "set-order")) }) : TxtSet P w h b (fun _ => false) 0 := by
  refine ⟨_, _, _, _, ho, ⟨rfl, rfl, rfl⟩, rfl, ⟨fun e he => by simp at he, by simp, fun k => by simp, by decide, rfl, List.Pairwise.nil, ?_⟩, rfl⟩
  cases q : w.params.followText "set-order"
  · exact .inr rfl
  · exact .inl rfl
/-- the loop that puts all items in -/
theorem fill {I : Addr} {fp wr : List Addr} {G : Array GenState → Array GenState → Prop} {n : Nat} {Pv : Nat → Value → Prop} {St : Nat → Shared → Prop} {R : Result → Shared → Prop} (W : WalksS P w A.in1 I fp wr G n Pv St) (D : Addr) (hD : D ∉ fp) (xs : List Str)
    (hn : xs.length = n) (few : n + 1 < scanBound) (val : ∀ i v, Pv i v → ∃ x t, xs[i]? = some x ∧ v = .str x t) : ∀ (left i c : Nat) (s : Shared), n - i = left → i ≤ n → c ≤ i → St i s → TxtSet P w s.heap D (among xs i) c →
      (∀ s' c', Moved (D :: wr) G s s' → TxtSet P w s'.heap D (among xs n) c' → c' ≤ n → R (.ok (.ret .none)) s') → codeAny (model P w) A (.builtin "set.update.loop" ⟨[.ref D, .ref I], []⟩) R s := by
  have hDw : D ∉ wr := fun h => hD (W.sub _ h)
  have up : ∀ b ∈ wr, b ∈ D :: wr := fun b hb => List.mem_cons_of_mem _ hb
  intro left
  induction left with
  | zero =>
    intro i c s hl hi hc hst T hR
    obtain rfl : i = n := by omega
    refine codeAny_builtin PyProof.Rows.F.entry_set_update_loop ?_
    rw [Around.under_plainId PyProof.Rows.F.plain_set_update_loop _]
    show wpAny _ A.in1 (pyNext (.ref I) >>= _) _ _ s
    refine wpAny_bind (W.done s _ _ hst fun s' hm => ?_)
    show wpAny _ A.in1 (ret Value.none) _ _ s'
    exact wpAny_pure (hR s' c (hm.mono up) (T.at fun o e => hm.heap D o hDw e) hc)
  | succ left ih =>
    intro i c s hl hi hc hst T hR
    have lt : i < n := by omega
    refine codeAny_builtin PyProof.Rows.F.entry_set_update_loop ?_
    rw [Around.under_plainId PyProof.Rows.F.plain_set_update_loop _]
    show wpAny _ A.in1 (pyNext (.ref I) >>= _) _ _ s
    refine wpAny_bind (W.item i s _ _ lt hst fun v s' hP hst' hm => ?_)
    obtain ⟨x, t, hx, rfl⟩ := val i v hP
    have T' : TxtSet P w s'.heap D (among xs i) c := T.at fun o e => hm.heap D o hDw e
    show wpAny _ A.in1 (holding [Value.str x t] (setAdd D (.str x t)) >>= _) _ _ s'
    refine wpAny_bind (wpAny_holding ?_)
    unfold setAdd
    have isx : (PySem.strKind P w).is x (.str x t) = true := by simp [PySem.strKind, Value.isStrOf]
    refine wpAny_holding (wpAny_bind ((PySem.strKind P w).pyHash isx ?_))
    refine put_text (s := { s' with toks := s'.toks + 1 }) T' (by omega) fun b h' sb T2 => ?_
    rw [among_step hx] at T2
    have c2 : (if among xs i x = true then c else c + 1) ≤ i + 1 := by split <;> omega
    refine wpAny_pure ⟨plainId_quiet PyProof.Rows.F.plain_set_update_loop _, ih (i + 1) _ _ (by omega) lt c2 (W.frame _ s' _ _ hst' (Nat.le_succ _) fun b hb o e => ?_) T2 fun s'' c'' hm'' T'' hc'' => ?_⟩
    · rw [sb.2 b fun z : b = D => hD (z ▸ hb)]
      exact e
    · refine hR s'' c'' (Moved.trans W.gtrans ((hm.mono up).then_heap (Nat.le_succ _) fun b o hb e => ?_) hm'') T'' hc''
      rw [sb.2 b fun z : b = D => hb (z ▸ List.mem_cons_self)]
      exact e
theorem strs_get : ∀ {us : List Value} {xs : List Str}, StrsAre us xs → ∀ (i : Nat) (v : Value), us[i]? = some v → ∃ x t, xs[i]? = some x ∧ v = .str x t
  | _, _, .nil, _, _, h => by simp at h
  | _, _, .cons x t _, 0, v, h => ⟨x, t, rfl, by simpa using h.symm⟩
  | _, _, .cons _ _ r, i + 1, v, h => strs_get r i v (by simpa using h)

set_option maxHeartbeats 8000000 in
/-- set(list) -/
theorem set_of_list {l : Addr} {items : Array Value} {xs : List Str} {Q : Value → Shared → Prop} (hh : A.handled = none) (hl : s.heap.IsList l items) (hi : StrsAre items.toList xs) (few : xs.length + 1 < scanBound)
    (hQ : ∀ (h' : Heap) (tk c : Nat), TxtSet P w h' s.heap.objs.size (among xs xs.length) c → c ≤ xs.length → (∀ b o, s.heap.get? b = some o → h'.get? b = some o) → Q (.ref s.heap.objs.size) { s with heap := h', toks := tk }) :
    wpAny (model P w) A (call (.type "set") [.ref l]) Q E s := by
  have hz : xs.length = items.size := by rw [← StrsAre.len_eq hi, Array.length_toList]
  obtain ⟨c, tl, hmro⟩ := PySem.F.called_set.mro
  have made := PySem.F.called_set.made
  have subs := PySem.F.called_set.sub
  refine wpAny_call (codeAny_of_tree ?_)
  show wpAny _ _ (callAny (.type "set") _) _ _ _
  refine wpAny_pure ⟨Code.quiet_builtin _ (by decide +kernel), codeAny_builtin PySem.F.entry_type_call ?_⟩
  rw [Around.under_plain (weight_type_call_type "set" [.ref l] []) rfl]
  have k1 := PySem.F.called_set.notType
  have k2 := PySem.F.called_set.canCreate
  have k3 := PySem.F.typeCall_set_1 (.ref l)
  repeat (any_goals (first | assumption | wp_step))
  refine codeAny_mono (code_set_led1 (.ref l) (E := E) (Q₁ := fun obj s₁ => obj = .ref s.heap.objs.size ∧ s₁ = { s with heap := s.heap.push { cls := .type "set", dict := none, data := .set #[] 0 (.fresh 0 0 (!w.params.followText "set-order")) } }) ⟨rfl, rfl⟩) fun r s₁ hr => ?_
  match r, hr with
  | .error _, hr => exact hr
  | .ok .next, hr => exact hr.elim
  | .ok .brk, hr => exact hr.elim
  | .ok .cont, hr => exact hr.elim
  | .ok (.ret obj), hr =>
    obtain ⟨rfl, rfl⟩ := hr
    have hS : (s.heap.push { cls := .type "set", dict := none, data := .set #[] 0 (.fresh 0 0 (!w.params.followText "set-order")) }).get? s.heap.objs.size = some { cls := .type "set", dict := none, data := .set #[] 0 (.fresh 0 0 (!w.params.followText "set-order")) } := Heap.get?_push_size _ rfl
    have hT : Shared.TypeIs { s with heap := s.heap.push { cls := .type "set", dict := none, data := .set #[] 0 (.fresh 0 0 (!w.params.followText "set-order")) } } (.ref s.heap.objs.size) "set" := ⟨_, hS, rfl⟩
    have k4 := PySem.F.called_set.init.lookup
    have k5 := PySem.F.called_set.init.bind (.ref s.heap.objs.size)
    repeat (any_goals (first | assumption | wp_step))
    refine codeAny_mono (codeAny_call_builtin (R := wants (fun r s₂ => r = .none ∧ ∃ h' tk c, s₂ = { s with heap := h', toks := tk } ∧ TxtSet P w h' s.heap.objs.size (among xs xs.length) c ∧ c ≤ xs.length ∧ (∀ b o, s.heap.get? b = some o → h'.get? b = some o)) E)
      PySem.F.called_set.init.plain PySem.F.entry_set_init (check_set_init_1 hT ?_)) fun r₂ s₂ hr₂ => ?_
    · obtain ⟨⟨ocls, odict, odata, oslots⟩, hol, hcl, nl, hdl⟩ := hl
      simp only at hcl hdl
      subst hcl
      subst hdl
      have hol' : (s.heap.push { cls := .type "set", dict := none, data := .set #[] 0 (.fresh 0 0 (!w.params.followText "set-order")) }).get? l = some { cls := .type "list", dict := odict, data := .seq items nl, slots := oslots } := Heap.get?_push_of_some _ hol
      have k6 := PySem.F.sub_list_set
      have k7 := PySem.F.sub_list_frozenset
      have k8 : (Value.type "list" == Value.type "dict") = false := by decide
      have hl1 : (s.heap.push { cls := .type "set", dict := none, data := .set #[] 0 (.fresh 0 0 (!w.params.followText "set-order")) }).IsList l items := ⟨_, hol', rfl, nl, rfl⟩
      unfold Builtin.«set.__init__» noKeywords Builtin.Frozenset.updateFrom
      generalize hPI : pyIter = PI
      wp_walk
      subst hPI
      refine wpAny_pyIter_list hl1 (wpAny_bind (wpAny_runValue ?_))
      have lS : l < s.heap.objs.size := Heap.lt_size hol
      have lI : l ≠ (s.heap.push { cls := .type "set", dict := none, data := .set #[] 0 (.fresh 0 0 (!w.params.followText "set-order")) }).objs.size := by
        rw [Heap.size_push]
        exact Nat.ne_of_lt (Nat.lt_succ_of_lt lS)
      have nS : s.heap.objs.size ∉ [(s.heap.push { cls := .type "set", dict := none, data := .set #[] 0 (.fresh 0 0 (!w.params.followText "set-order")) }).objs.size, l] := by
        rw [Heap.size_push]
        simp only [List.mem_cons, List.not_mem_nil, or_false, not_or]
        exact ⟨Nat.ne_of_lt (Nat.lt_succ_self _), Nat.ne_of_gt lS⟩
      refine fill ((Walks.list (by simp [hh]) _ l lI items).toS) s.heap.objs.size nS xs hz (by omega) (fun i v hv => strs_get hi i v (by rw [Array.getElem?_toList]; exact hv)) (items.size - 0) 0 0 _ rfl (Nat.zero_le _) (Nat.le_refl _) ⟨⟨_, Heap.get?_push_size _ rfl, rfl, rfl⟩, (hl1.push _)⟩ ?e0 ?e1
      case e0 =>
        have e : among xs 0 = fun _ => false := funext fun k => by simp [among]
        rw [e]
        exact empty_set (Heap.get?_push_of_some _ hS)
      case e1 =>
        intro s' c' hm T hc
        obtain ⟨h', g2, d', tk', os'⟩ := s'
        have eg : g2 = s.gens := hm.gens
        have ed : d' = s.drawn := hm.drawn
        have eo : os' = s.os := hm.os
        subst eg
        subst ed
        subst eo
        show wpAny _ _ _ _ _ _
        refine wpAny_pure ?_
        show wpAny _ _ (ret Value.none) _ _ _
        rw [← hz] at T hc
        refine wpAny_pure ⟨rfl, h', tk', c', rfl, T, hc, fun b o e => hm.heap b o ?_ (Heap.get?_push_of_some _ (Heap.get?_push_of_some _ e))⟩
        have lb : b < s.heap.objs.size := Heap.lt_size e
        rw [Heap.size_push]
        simp only [List.mem_cons, List.not_mem_nil, or_false, not_or]
        exact ⟨Nat.ne_of_lt lb, Nat.ne_of_lt (Nat.lt_succ_of_lt lb)⟩
    · match r₂, hr₂ with
      | .error _, hr₂ => exact hr₂
      | .ok .next, hr₂ => exact hr₂.elim
      | .ok .brk, hr₂ => exact hr₂.elim
      | .ok .cont, hr₂ => exact hr₂.elim
      | .ok (.ret r), hr₂ =>
        obtain ⟨rfl, h', tk, c', rfl, T, hc, hk⟩ := hr₂
        repeat (any_goals (first | assumption | wp_step))
        exact hQ _ _ _ T hc hk

set_option maxHeartbeats 8000000 in
/-- set(tuple) -/
theorem set_of_tuple {l : Addr} {items : Array Value} {xs : List Str} {Q : Value → Shared → Prop} (hh : A.handled = none) (hl : s.heap.IsTuple l items) (hi : StrsAre items.toList xs) (few : xs.length + 1 < scanBound)
    (hQ : ∀ (h' : Heap) (tk c : Nat), TxtSet P w h' s.heap.objs.size (among xs xs.length) c → c ≤ xs.length → (∀ b o, s.heap.get? b = some o → h'.get? b = some o) → Q (.ref s.heap.objs.size) { s with heap := h', toks := tk }) :
    wpAny (model P w) A (call (.type "set") [.ref l]) Q E s := by
  have hz : xs.length = items.size := by rw [← StrsAre.len_eq hi, Array.length_toList]
  obtain ⟨c, tl, hmro⟩ := PySem.F.called_set.mro
  have made := PySem.F.called_set.made
  have subs := PySem.F.called_set.sub
  refine wpAny_call (codeAny_of_tree ?_)
  show wpAny _ _ (callAny (.type "set") _) _ _ _
  refine wpAny_pure ⟨Code.quiet_builtin _ (by decide +kernel), codeAny_builtin PySem.F.entry_type_call ?_⟩
  rw [Around.under_plain (weight_type_call_type "set" [.ref l] []) rfl]
  have k1 := PySem.F.called_set.notType
  have k2 := PySem.F.called_set.canCreate
  have k3 := PySem.F.typeCall_set_1 (.ref l)
  repeat (any_goals (first | assumption | wp_step))
  refine codeAny_mono (code_set_led1 (.ref l) (E := E) (Q₁ := fun obj s₁ => obj = .ref s.heap.objs.size ∧ s₁ = { s with heap := s.heap.push { cls := .type "set", dict := none, data := .set #[] 0 (.fresh 0 0 (!w.params.followText "set-order")) } }) ⟨rfl, rfl⟩) fun r s₁ hr => ?_
  match r, hr with
  | .error _, hr => exact hr
  | .ok .next, hr => exact hr.elim
  | .ok .brk, hr => exact hr.elim
  | .ok .cont, hr => exact hr.elim
  | .ok (.ret obj), hr =>
    obtain ⟨rfl, rfl⟩ := hr
    have hS : (s.heap.push { cls := .type "set", dict := none, data := .set #[] 0 (.fresh 0 0 (!w.params.followText "set-order")) }).get? s.heap.objs.size = some { cls := .type "set", dict := none, data := .set #[] 0 (.fresh 0 0 (!w.params.followText "set-order")) } := Heap.get?_push_size _ rfl
    have hT : Shared.TypeIs { s with heap := s.heap.push { cls := .type "set", dict := none, data := .set #[] 0 (.fresh 0 0 (!w.params.followText "set-order")) } } (.ref s.heap.objs.size) "set" := ⟨_, hS, rfl⟩
    have k4 := PySem.F.called_set.init.lookup
    have k5 := PySem.F.called_set.init.bind (.ref s.heap.objs.size)
    repeat (any_goals (first | assumption | wp_step))
    refine codeAny_mono (codeAny_call_builtin (R := wants (fun r s₂ => r = .none ∧ ∃ h' tk c, s₂ = { s with heap := h', toks := tk } ∧ TxtSet P w h' s.heap.objs.size (among xs xs.length) c ∧ c ≤ xs.length ∧ (∀ b o, s.heap.get? b = some o → h'.get? b = some o)) E)
      PySem.F.called_set.init.plain PySem.F.entry_set_init (check_set_init_1 hT ?_)) fun r₂ s₂ hr₂ => ?_
    · obtain ⟨⟨ocls, odict, odata, oslots⟩, hol, hcl, nl, hdl⟩ := hl
      simp only at hcl hdl
      subst hcl
      subst hdl
      have hol' : (s.heap.push { cls := .type "set", dict := none, data := .set #[] 0 (.fresh 0 0 (!w.params.followText "set-order")) }).get? l = some { cls := .type "tuple", dict := odict, data := .seq items nl, slots := oslots } := Heap.get?_push_of_some _ hol
      have k6 := PySem.F.sub_tuple_set
      have k7 := PySem.F.sub_tuple_frozenset
      have k8 : (Value.type "tuple" == Value.type "dict") = false := by decide
      have hl1 : (s.heap.push { cls := .type "set", dict := none, data := .set #[] 0 (.fresh 0 0 (!w.params.followText "set-order")) }).IsTuple l items := ⟨_, hol', rfl, nl, rfl⟩
      unfold Builtin.«set.__init__» noKeywords Builtin.Frozenset.updateFrom
      generalize hPI : pyIter = PI
      wp_walk
      subst hPI
      refine wpAny_pyIter_tuple hl1 (wpAny_bind (wpAny_runValue ?_))
      have lS : l < s.heap.objs.size := Heap.lt_size hol
      have lI : l ≠ (s.heap.push { cls := .type "set", dict := none, data := .set #[] 0 (.fresh 0 0 (!w.params.followText "set-order")) }).objs.size := by
        rw [Heap.size_push]
        exact Nat.ne_of_lt (Nat.lt_succ_of_lt lS)
      have nS : s.heap.objs.size ∉ [(s.heap.push { cls := .type "set", dict := none, data := .set #[] 0 (.fresh 0 0 (!w.params.followText "set-order")) }).objs.size, l] := by
        rw [Heap.size_push]
        simp only [List.mem_cons, List.not_mem_nil, or_false, not_or]
        exact ⟨Nat.ne_of_lt (Nat.lt_succ_self _), Nat.ne_of_gt lS⟩
      refine fill ((Walks.tuple (by simp [hh]) _ l lI items).toS) s.heap.objs.size nS xs hz (by omega) (fun i v hv => strs_get hi i v (by rw [Array.getElem?_toList]; exact hv)) (items.size - 0) 0 0 _ rfl (Nat.zero_le _) (Nat.le_refl _) ⟨⟨_, Heap.get?_push_size _ rfl, rfl, rfl⟩, (hl1.push _)⟩ ?e0 ?e1
      case e0 =>
        have e : among xs 0 = fun _ => false := funext fun k => by simp [among]
        rw [e]
        exact empty_set (Heap.get?_push_of_some _ hS)
      case e1 =>
        intro s' c' hm T hc
        obtain ⟨h', g2, d', tk', os'⟩ := s'
        have eg : g2 = s.gens := hm.gens
        have ed : d' = s.drawn := hm.drawn
        have eo : os' = s.os := hm.os
        subst eg
        subst ed
        subst eo
        show wpAny _ _ _ _ _ _
        refine wpAny_pure ?_
        show wpAny _ _ (ret Value.none) _ _ _
        rw [← hz] at T hc
        refine wpAny_pure ⟨rfl, h', tk', c', rfl, T, hc, fun b o e => hm.heap b o ?_ (Heap.get?_push_of_some _ (Heap.get?_push_of_some _ e))⟩
        have lb : b < s.heap.objs.size := Heap.lt_size e
        rw [Heap.size_push]
        simp only [List.mem_cons, List.not_mem_nil, or_false, not_or]
        exact ⟨Nat.ne_of_lt lb, Nat.ne_of_lt (Nat.lt_succ_of_lt lb)⟩
    · match r₂, hr₂ with
      | .error _, hr₂ => exact hr₂
      | .ok .next, hr₂ => exact hr₂.elim
      | .ok .brk, hr₂ => exact hr₂.elim
      | .ok .cont, hr₂ => exact hr₂.elim
      | .ok (.ret r), hr₂ =>
        obtain ⟨rfl, h', tk, c', rfl, T, hc, hk⟩ := hr₂
        repeat (any_goals (first | assumption | wp_step))
        exact hQ _ _ _ T hc hk
end
end Ts
set_option Elab.async false
set_option linter.all false
set_option autoImplicit false
set_option maxRecDepth 100000
set_option maxHeartbeats 4000000
namespace Ts
open PySem PySem.Spec PyProof.Rows L2 Vb
section
variable {P : Program} {w : World} {A : Around} {E : Value → Shared → Prop} {s : Shared} {a : Addr} {S : Str → Bool} {n : Nat}
theorem is_str {k : Str} {v : Value} : (PySem.strKind P w).is k v = true ↔ ∃ t, v = .str k t := by
  constructor
  · intro h
    exact Value.isStrOf_shape h
  · rintro ⟨t, rfl⟩
    simp [PySem.strKind, Value.isStrOf]
/-- the members as texts -/
theorem Good.texts {es : Array (Int × Value)} {t : SetTable} (G : Good P w S es t) {out : List Value} (pm : out.Perm (es.toList.map (·.2))) : StrsAre out (out.map PyProof.Rows.strOf) ∧ (out.map PyProof.Rows.strOf).Nodup ∧ ∀ k, k ∈ out.map PyProof.Rows.strOf ↔ S k = true := by
  have all : ∀ v ∈ out, ∃ x t, v = Value.str x t := fun v hv => by
    obtain ⟨e, he, rfl⟩ := List.mem_map.mp (pm.mem_iff.mp hv)
    obtain ⟨⟨k, hk, _⟩, _⟩ := G.el e he
    obtain ⟨t, q⟩ := is_str.mp hk
    exact ⟨k, t, q⟩
  refine ⟨strsAre_map out all, ?_, fun k => ?_⟩
  · have nd : ((es.toList.map (·.2)).map PyProof.Rows.strOf).Nodup := by
      rw [List.map_map]
      refine List.pairwise_map.mpr (G.ap.imp_of_mem fun {e e'} he he' h q => ?_)
      obtain ⟨⟨k, hk, _⟩, _⟩ := G.el e he
      obtain ⟨⟨k', hk', _⟩, _⟩ := G.el e' he'
      obtain ⟨t, q1⟩ := is_str.mp hk
      obtain ⟨t', q2⟩ := is_str.mp hk'
      have e1 : k = k' := by
        have q' : PyProof.Rows.strOf e.2 = PyProof.Rows.strOf e'.2 := q
        rw [q1, q2] at q'
        exact q'
      have := h k hk
      rw [e1, hk'] at this
      cases this
    exact (pm.map PyProof.Rows.strOf).nodup_iff.mpr nd
  · rw [(pm.map PyProof.Rows.strOf).mem_iff, G.mem k]
    constructor
    · intro h
      obtain ⟨v, hv, q⟩ := List.mem_map.mp h
      obtain ⟨e, he, rfl⟩ := List.mem_map.mp hv
      obtain ⟨⟨k', hk', _⟩, _⟩ := G.el e he
      obtain ⟨t', q2⟩ := is_str.mp hk'
      rw [q2] at q
      have q' : k' = k := q
      subst q'
      exact ⟨e, he, hk'⟩
    · rintro ⟨e, he, hk⟩
      obtain ⟨t, q⟩ := is_str.mp hk
      exact List.mem_map.mpr ⟨e.2, List.mem_map.mpr ⟨e, he, rfl⟩, by rw [q]; rfl⟩
theorem sorted_texts {Q : Value → Shared → Prop} (T : TxtSet P w s.heap a S n) (hh : A.handled = none) (h64 : n < 64)
    (hQ : ∀ s' p (out : Array Value) (c : Nat) (ks : List Str), (∀ b o, s.heap.get? b = some o → s'.heap.get? b = some o) → s'.gens = s.gens → s'.os = s.os → s.heap.objs.size ≤ p → s'.heap.get? p = some (seqObj "list" out c) → StrsAre out.toList ks →
      sortedS ks = true → ks.Nodup → (∀ k, k ∈ ks ↔ S k = true) → ks.length = n → Q (.ref p) s') : wpAny (model P w) A (call (.builtin "sorted") [.ref a]) Q E s := by
  obtain ⟨o, es, ep, t, ho, ex, hd, G, hn⟩ := T
  refine Calls.call_function_entry kind_sorted plain_sorted entry_sorted (args_sorted1 _) ?_
  unfold Builtin.«sorted»
  refine wpAny_bind (m := checkCount "sorted" 1 1 _) (wpAny_pure ?_)
  refine wpAny_bind (collect_set (A := A.in1) hh ⟨o, ho, ex.1, hd⟩ G.fit G.few G.ris G.led fun s1 vs k1 hz g1 o1 pm => ?_)
  obtain ⟨hS, nd, mem⟩ := G.texts pm
  have hvl : vs.length = n := by
    have : vs.length = es.size := by simpa using pm.length_eq
    rw [this, hn]
  refine wpAny_bind (wpAny_newList ?_ (by rw [hvl, sizeLine_eq]; omega))
  have hoL : (s1.heap.push (seqObj "list" vs.toArray 0)).get? s1.heap.objs.size = some (seqObj "list" vs.toArray 0) := Heap.get?_push_size _ rfl
  refine wpAny_bind (wpAny_holding (wpAny_call_entry slot_list_sort ⟨_, hoL, rfl⟩ entry_list_sort
    (list_sort_treeK strKind_oneLt hoL hS.keysOf (fun v₁ v₂ rest e => keyKind_strs (by rw [← e]; exact hS)) (by rw [hvl]; exact h64) fun st' hp hs => ⟨_, rfl, ?_⟩) (args_list_sort _)))
  obtain ⟨ks, q1, q2, q3⟩ := sorted_out_str hS hp hs
  obtain ⟨c, hc⟩ := sortedHeap_at (vs := vs) (out := (arrOf st').map (·.2)) hoL
  refine wpAny_pure ⟨_, rfl, hQ _ s1.heap.objs.size _ c ks (fun b u e => ?_) g1 o1 hz hc q1 q3 (q2.nodup_iff.mpr nd) (fun k => q2.mem_iff.trans (mem k)) ?_⟩
  · have lt := Heap.lt_size (k1 b u e)
    have old := sortedHeap_old (h := s1.heap.push (seqObj "list" vs.toArray 0)) (a := s1.heap.objs.size) (vs := vs) (out := (arrOf st').map (·.2)) (b := b) (Nat.ne_of_lt lt) (by rw [Heap.size_push]; exact Nat.lt_succ_of_lt lt)
    exact old.trans (Heap.get?_push_of_some _ (k1 b u e))
  · have := q2.length_eq
    rw [List.length_map] at this
    omega
end
/-- a set of texts, as what stands at a -/
def TsO (P : Program) (w : World) (a : Addr) (S : Str → Bool) (n : Nat) : HO := .ext fun h => TxtSet P w h a S n
section
variable {X : Cx}
def rSetTexts (K : PySem.W.Frag) (P : Program) (w : World) : List V → Hp → VK → Prop := fun xs H Q => ∃ (l : Addr) (ys : List Str), xs = [.ref l] ∧ (SqL K H l (ys.map V.str) ∨ SqT K H l (ys.map V.str)) ∧ ys.length ≤ 1000 ∧
  ∀ a c, H a = none → c ≤ ys.length → Q (.ref a) (upd H a (TsO P w a (among ys ys.length) c))
theorem cr_setTexts (hc : X.calm = true) : CallR X (.type "set") (rSetTexts X.K X.prog X.w) := by
  intro pins s σ H xs us Q I r h
  obtain ⟨l, ys, rfl, hs, hl, q⟩ := h
  rw [Vals.ref1 r]
  have few : ys.length + 1 < scanBound := Nat.lt_of_le_of_lt (Nat.succ_le_succ hl) (by decide)
  have fin : ∀ (h' : Heap) (tk c : Nat), TxtSet X.prog X.w h' s.heap.objs.size (among ys ys.length) c → c ≤ ys.length → (∀ b o, s.heap.get? b = some o → h'.get? b = some o) → EP X pins σ Q (.ref s.heap.objs.size) { s with heap := h', toks := tk } := fun h' tk c T hc k =>
    ⟨.ref s.heap.objs.size, upd H s.heap.objs.size (TsO X.prog X.w s.heap.objs.size (among ys ys.length) c), I.laid (t' := tk) k (Nat.le_refl _) ⟨T, (let ⟨o, _, _, _, e, _⟩ := T; ⟨o, e⟩), fun h1 h2 t k => t.at k⟩, rfl, q _ c (I.hok.fresh (Nat.le_refl _)) hc⟩
  rcases hs with hs | hs
  · obtain ⟨its, rv, pl, _⟩ := I.list hs
    exact set_of_list (P := X.prog) (w := X.w) (I.ok.hd hc) pl.isList (by simpa using rv.strs) few fin
  · obtain ⟨its, rv, pl, _⟩ := I.tuple hs
    exact set_of_tuple (P := X.prog) (w := X.w) (I.ok.hd hc) pl (by simpa using rv.strs) few fin
def rSortTexts (P : Program) (w : World) : List V → Hp → VK → Prop := fun vs H Q => ∃ (a : Addr) (ys : List Str) (c : Nat), vs = [.ref a] ∧ H a = some (TsO P w a (among ys ys.length) c) ∧ c < 64 ∧
  ∀ (zs : List Str) (p : Addr), (∀ k, k ∈ zs ↔ k ∈ ys) → sortedS zs = true → zs.Nodup → zs.length = c → H p = none → Q (.ref p) (upd H p (.lst (zs.map V.str)))
theorem cr_sortTexts (hc : X.calm = true) : CallR X (.builtin "sorted") (rSortTexts X.prog X.w) := by
  intro pins s σ H vs us Q I r h
  obtain ⟨a, ys, c, rfl, ha, h64, q⟩ := h
  have T : TxtSet X.prog X.w s.heap a (among ys ys.length) c := (I.hok a _ ha).1
  rw [Vals.ref1 r]
  refine sorted_texts T (I.ok.hd hc) h64 fun s' p out cc zs k g o hp hg hS hs nd mem hl => ?_
  have new : H p = none := I.hok.fresh hp
  have len : (zs.map V.str).length ≤ sizeLine := by
    rw [List.length_map, hl]
    exact Nat.le_trans (Nat.le_of_lt h64) (by decide)
  have J : Inv X pins σ (upd H p (.lst (zs.map V.str))) { s with heap := s'.heap, gens := s'.gens, drawn := s'.drawn, toks := s'.toks } :=
    I.call (ch := []) (Un.laid k hp new) (I.hok.laid k hp ⟨len, out.toList, cc, vals_of_strs hS, hg⟩) (by rw [g]; exact I.bare) (fun _ z => nomatch z)
  have e : s' = { s with heap := s'.heap, gens := s'.gens, drawn := s'.drawn, toks := s'.toks } := by
    cases s'
    cases s
    cases o
    rfl
  rw [e]
  refine ⟨.ref p, _, J, rfl, q zs p (fun k => ?_) hs nd hl new⟩
  rw [mem k]
  show decide (k ∈ ys.take ys.length) = true ↔ _
  rw [List.take_length]
  exact decide_eq_true_iff
end
end Ts
set_option Elab.async false
set_option linter.all false
set_option autoImplicit false
set_option maxRecDepth 100000
set_option maxHeartbeats 4000000
/-! Wd: texts of plain signs, the values that judges are asked of, names. -/
namespace Wd
open PySem PySem.Spec PyProof.Rows L2 Vb
/-! ### texts of plain signs -/
def Asc (z : Str) : Prop := ∀ c ∈ z.cps.toList, c < 128
theorem asc_app {x y : Str} (a : Asc x) (b : Asc y) : Asc (x ++ y) := fun c hc => by
  have e : (x ++ y).cps.toList = x.cps.toList ++ y.cps.toList := by
    show (x.cps ++ y.cps).toList = _
    exact Array.toList_append
  rw [e] at hc
  exact (List.mem_append.mp hc).elim (a c) (b c)
theorem asc_cut {z : Str} (a : Asc z) (lo hi : Option Int) : Asc (cutS z lo hi) := fun c hc => by
  unfold cutS at hc
  exact a c (List.mem_of_mem_drop (List.mem_of_mem_take hc))
theorem mem_joinL : ∀ {parts : List (List Nat)} {c : Nat}, c ∈ TL.joinL [] parts → ∃ p ∈ parts, c ∈ p
  | [], _, h => nomatch h
  | [p], c, h => ⟨p, List.mem_cons_self, h⟩
  | p :: q :: r, c, h => by
    rcases List.mem_append.mp (show c ∈ p ++ ([] ++ TL.joinL [] (q :: r)) from h) with h | h
    · exact ⟨p, List.mem_cons_self, h⟩
    · obtain ⟨p', hp, hc⟩ := mem_joinL (parts := q :: r) h
      exact ⟨p', List.mem_cons_of_mem _ hp, hc⟩
theorem asc_join {ys : List Str} (a : ∀ y ∈ ys, Asc y) : Asc (Txt.join (Str.ofString "") ys) := fun c hc => by
  rw [TL.join_eq] at hc
  have e : (Str.join (Str.ofString "") ys).cps.toList = TL.joinL [] (ys.map TL.tl) := TL.tl_join (Str.ofString "") ys
  rw [e] at hc
  obtain ⟨p, hp, hc⟩ := mem_joinL hc
  obtain ⟨y, hy, rfl⟩ := List.mem_map.mp hp
  exact a y hy c hc
theorem asc_one {z : Str} (a : Asc z) {c : Nat} (h : c ∈ z.cps.toList) : Asc ⟨#[c]⟩ := fun x hx => by
  have e : x = c := by simpa using hx
  rw [e]
  exact a c h
/-- what the three judges are asked of -/
def Judged (H : Hp) : V → Prop
  | .int i => i.natAbs < 10 ^ 100
  | .str z => z.length ≤ 1000 ∧ Asc z
  | .non => True
  | .bl _ => True
  | .ref a => (∃ xs, H a = some (.lst xs)) ∨ (∃ xs, H a = some (.tup xs)) ∨ ∃ kvs, H a = some (.dK kvs)
  | _ => False
theorem Judged.same {H H' : Hp} (h : Same H H') : ∀ {v : V}, Judged H v → Judged H' v
  | .int _, j => j
  | .str _, j => j
  | .non, j => j
  | .bl _, j => j
  | .ref _, j => j.imp (fun ⟨xs, e⟩ => ⟨xs, h _ _ e⟩) fun j => j.imp (fun ⟨xs, e⟩ => ⟨xs, h _ _ e⟩) fun ⟨xs, e⟩ => ⟨xs, h _ _ e⟩
  | .byt _, j => j
  | .flt _, j => j
  | .ty _, j => j
theorem Past.judged {d : Addr} {H H' : Hp} (h : Past d H H') {v : V} (j : Judged H v) (n : v ≠ .ref d) : Judged H' v := by
  cases v with
  | ref a =>
    have ad : a ≠ d := fun e => n (by rw [e])
    exact j.imp (fun ⟨xs, e⟩ => ⟨xs, h.1 _ _ ad e⟩) fun j => j.imp (fun ⟨xs, e⟩ => ⟨xs, h.1 _ _ ad e⟩) fun ⟨xs, e⟩ => ⟨xs, h.1 _ _ ad e⟩
  | _ => exact j
theorem sum_ones : ∀ {l : List Str}, (∀ y ∈ l, y.length = 1) → (l.map (·.length)).sum = l.length
  | [], _ => rfl
  | y :: l, h => by
    rw [List.map_cons, List.sum_cons, sum_ones (l := l) (fun z hz => h z (List.mem_cons_of_mem _ hz)), h y List.mem_cons_self, List.length_cons]
    omega
theorem same_new {H : Hp} {p : Addr} {o : HO} (n : H p = none) : Same H (upd H p o) := fun b x e => by
  rw [upd_ne (ne_of_none e n)]
  exact e
theorem same_new2 {H : Hp} {p : Addr} {o o' : HO} (n : H p = none) : Same H (upd (upd H p o) p o') := by
  rw [upd_upd]
  exact same_new n
def low (c : Nat) : Bool := 97 ≤ c && c ≤ 122
def isNam : V → Bool
  | .str z => decide (1 ≤ z.length) && decide (z.length ≤ 8) && z.cps.toList.all low
  | _ => false
def isInt : V → Bool
  | .int i => decide (i.natAbs < 10 ^ 60)
  | _ => false
def notNeg : V → Bool
  | .int i => decide (0 ≤ i)
  | _ => false
def spOf (g : V → Bool) : Sp := fun vs H Q _ => ∃ v, vs = [v] ∧ Judged H v ∧ ∀ H', Same H H' → Q (.bl (g v)) H'
/-- the kinds of judged values -/
theorem kinds {K : PySem.W.Frag} {H : Hp} {v : V} (j : Judged H v) : (∃ i, v = .int i ∧ i.natAbs < 10 ^ 100) ∨ (∃ b, v = .bl b) ∨ (∃ z, v = .str z ∧ z.length ≤ 1000 ∧ Asc z) ∨
    (∃ T, TyX K H v (.type T) ∧ kitB T "int" = some false ∧ kitB T "bool" = some false ∧ kitB T "str" = some false ∧ isInt v = false ∧ notNeg v = false ∧ isNam v = false) := by
  cases v with
  | int i => exact .inl ⟨i, rfl, j⟩
  | bl b => exact .inr (.inl ⟨b, rfl⟩)
  | str z => exact .inr (.inr (.inl ⟨z, rfl, j⟩))
  | non => exact .inr (.inr (.inr ⟨"NoneType", .base .non, by decide +kernel, by decide +kernel, by decide +kernel, rfl, rfl, rfl⟩))
  | byt _ => exact False.elim j
  | flt _ => exact False.elim j
  | ty _ => exact False.elim j
  | ref a =>
    rcases j with ⟨xs, e⟩ | ⟨xs, e⟩ | ⟨xs, e⟩
    · exact .inr (.inr (.inr ⟨"list", .base (.lst e), by decide +kernel, by decide +kernel, by decide +kernel, rfl, rfl, rfl⟩))
    · exact .inr (.inr (.inr ⟨"tuple", .base (.tup e), by decide +kernel, by decide +kernel, by decide +kernel, rfl, rfl, rfl⟩))
    · exact .inr (.inr (.inr ⟨"dict", .base (.dK e), by decide +kernel, by decide +kernel, by decide +kernel, rfl, rfl, rfl⟩))
theorem ki_ii : kitB "int" "int" = some true := by decide +kernel
theorem ki_ib : kitB "int" "bool" = some false := by decide +kernel
theorem ki_is : kitB "int" "str" = some false := by decide +kernel
theorem ki_bi : kitB "bool" "int" = some true := by decide +kernel
theorem ki_bb : kitB "bool" "bool" = some true := by decide +kernel
theorem ki_bs : kitB "bool" "str" = some false := by decide +kernel
theorem ki_si : kitB "str" "int" = some false := by decide +kernel
theorem ki_sb : kitB "str" "bool" = some false := by decide +kernel
theorem ki_ss : kitB "str" "str" = some true := by decide +kernel
theorem digits_60 (n : Nat) (h : n < 10 ^ 100) : (decide ((Nat.toDigits 10 n).length ≤ 60)) = decide (n < 10 ^ 60) := by
  apply decide_eq_decide.mpr
  constructor
  · intro hl
    refine Classical.byContradiction fun hn => ?_
    have := digitsCore10_ge 60 (n + 1) n [] (by have : 60 < 10 ^ 60 := by decide +kernel
                                                omega) (by omega)
    have e : Nat.toDigits 10 n = Nat.toDigitsCore 10 (n + 1) n [] := rfl
    rw [e] at hl
    simp only [List.length_nil] at this
    omega
  · exact digits10_le (by decide)
theorem num_len (n : Nat) : (Str.ofString (toString ((n : Nat) : Int))).length = (Nat.toDigits 10 n).length := by
  have e := congrArg List.length (PySem.W.KIN.signs_num n)
  rw [List.length_map] at e
  rw [← e]
  simp [Str.length]
/-! ### plain signs -/
def upp (c : Nat) : Bool := 65 ≤ c && c ≤ 90
theorem cl_alpha : ∀ c, c < 128 → Unicode.isAlpha c = (upp c || low c) := by decide +kernel
theorem cl_lower : ∀ c, c < 128 → Unicode.isLower c = low c := by decide +kernel
theorem cl_upper : ∀ c, c < 128 → (Unicode.isUpper c || Unicode.isTitle c) = upp c := by decide +kernel
theorem cl_not : ∀ c, c < 128 → low c = false → upp c = true ∨ (upp c || low c) = false := by decide +kernel
theorem cl_both : ∀ c, c < 128 → low c = true → upp c = false := by decide +kernel
theorem name_signs {z : Str} (a : Asc z) (h : 1 ≤ z.length) : (Txt.isascii z && (Txt.isalpha z && Txt.islower z)) = z.cps.toList.all low := by
  have hl : z.cps.toList.length = z.length := by simp [Str.length]
  have e1 : Txt.isascii z = true := by
    unfold Txt.isascii
    rw [← Array.all_toList, List.all_eq_true]
    exact fun c hc => decide_eq_true (a c hc)
  have e2 : Txt.isalpha z = z.cps.toList.all Unicode.isAlpha := by
    unfold Txt.isalpha
    rw [decide_eq_true (show z.length > 0 by omega), Bool.true_and, ← Array.all_toList]
  have e3 : Txt.islower z = (z.cps.toList.any Unicode.isLower && !z.cps.toList.any fun c => Unicode.isUpper c || Unicode.isTitle c) := by
    unfold Txt.islower
    rw [← Array.any_toList, ← Array.any_toList]
  rw [e1, e2, e3, Bool.true_and]
  have a' : ∀ c ∈ z.cps.toList, c < 128 := a
  cases hL : z.cps.toList.all low with
  | true =>
    have hl' := List.all_eq_true.mp hL
    have k1 : z.cps.toList.all Unicode.isAlpha = true := List.all_eq_true.mpr fun c hc => by
      rw [cl_alpha c (a' c hc), hl' c hc, Bool.or_true]
    have k2 : z.cps.toList.any Unicode.isLower = true := by
      cases e : z.cps.toList with
      | nil =>
        rw [e] at hl
        simp at hl
        omega
      | cons c r =>
        have hc : c ∈ z.cps.toList := by rw [e]; exact List.mem_cons_self
        rw [List.any_cons, cl_lower c (a' c hc), hl' c hc, Bool.true_or]
    have k3 : (z.cps.toList.any fun c => Unicode.isUpper c || Unicode.isTitle c) = false := List.any_eq_false.mpr fun c hc => by
      rw [cl_upper c (a' c hc), cl_both c (a' c hc) (hl' c hc)]
      exact Bool.false_ne_true
    rw [k1, k2, k3]
    rfl
  | false =>
    obtain ⟨c, hc, hn⟩ := List.all_eq_false.mp hL
    have hn' : low c = false := by simpa using hn
    rcases cl_not c (a' c hc) hn' with u | u
    · have k3 : (z.cps.toList.any fun c => Unicode.isUpper c || Unicode.isTitle c) = true := List.any_eq_true.mpr ⟨c, hc, by rw [cl_upper c (a' c hc)]; exact u⟩
      rw [k3]
      simp
    · have k1 : z.cps.toList.all Unicode.isAlpha = false := List.all_eq_false.mpr ⟨c, hc, by rw [cl_alpha c (a' c hc), u]; exact Bool.false_ne_true⟩
      rw [k1]
      rfl
theorem one_lt (a b : Nat) : decide ([a] < [b]) = decide (a < b) := by
  apply decide_eq_decide.mpr
  constructor
  · intro h
    cases h with
    | rel h => exact h
    | cons h => exact nomatch h
  · exact fun h => .rel h
theorem isNam_str (z : Str) : isNam (.str z) = (decide (1 ≤ z.length) && decide (z.length ≤ 8) && z.cps.toList.all low) := rfl
/-- the signs that are no small letters, as texts -/
def odd1 (L : List Nat) : List V := (L.filter (fun c => !low c)).map fun c => V.str ⟨#[c]⟩
theorem odd1_snoc (L : List Nat) (c : Nat) : odd1 (L ++ [c]) = odd1 L ++ (if low c = true then [] else [V.str ⟨#[c]⟩]) := by
  unfold odd1
  rw [List.filter_append, List.map_append]
  congr 1
  cases h : low c <;> simp [h]
theorem odd1_nil (L : List Nat) : (odd1 L).isEmpty = L.all low := by
  unfold odd1
  induction L with
  | nil => rfl
  | cons c r ih =>
    cases h : low c with
    | true => simpa [h] using ih
    | false => simp [h]
theorem odd1_len (L : List Nat) : (odd1 L).length ≤ L.length := by
  unfold odd1
  rw [List.length_map]
  exact List.length_filter_le _ _
/-- such a list as data -/
theorem dp_strs {K : PySem.W.Frag} {H : Hp} : ∀ l : List Str, DpAll K H (l.map V.str) (l.map PyData.str)
  | [] => .nil
  | y :: l => .cons (.str y) (dp_strs l)
theorem lay_strs : ∀ l : List Str, (∀ y ∈ l, Asc y) → PyData.canLayAll0 (l.map PyData.str) = true ∧ PyData.depthAll (l.map PyData.str) = 0
  | [], _ => ⟨rfl, rfl⟩
  | y :: l, h => by
    obtain ⟨h1, h2⟩ := lay_strs l fun z hz => h z (List.mem_cons_of_mem _ hz)
    constructor
    · show (PyData.canLay0 (.str y) && PyData.canLayAll0 (l.map PyData.str)) = true
      rw [h1, Bool.and_true]
      show y.cps.all (· < 0x110000) = true
      rw [← Array.all_toList, List.all_eq_true]
      exact fun c hc => decide_eq_true (Nat.lt_trans (h y List.mem_cons_self c hc) (by decide))
    · show max (PyData.depth (.str y)) (PyData.depthAll (l.map PyData.str)) = 0
      rw [h2]
      rfl
theorem shaped_strs {l : List Str} (h : ∀ y ∈ l, Asc y) : SeqAt.shaped (.list (l.map PyData.str)) = true := by
  obtain ⟨h1, h2⟩ := lay_strs l h
  show (PyData.canLay0 (.list (l.map PyData.str)) && decide (PyData.depth (.list (l.map PyData.str)) ≤ 64)) = true
  rw [show PyData.canLay0 (.list (l.map PyData.str)) = true from h1, Bool.true_and]
  exact decide_eq_true (by show PyData.depthAll _ + 1 ≤ 64; rw [h2]; decide)
theorem small8000 {n : Nat} (h : n ≤ 1000000) : ((n : Int)).natAbs < 2 ^ 8000 := by
  have : (1000000 : Nat) < 2 ^ 8000 := by decide +kernel
  omega
theorem fits_million {n : Nat} (h : n ≤ 1000000) : n ≤ sizeLine := Nat.le_trans h (by decide)
theorem same_past {d : Addr} {o : HO} {H H' : Hp} (nd : H d = none) (p : Past d (upd H d o) H') : Same H H' := fun b x e => by
  have bd : b ≠ d := ne_of_none e nd
  exact p.1 b x bd (by rw [upd_ne bd]; exact e)
theorem asc_lit {z : Str} (h : z.cps.toList.all (· < 128) = true) : Asc z := fun c hc => of_decide_eq_true (List.all_eq_true.mp h c hc)
end Wd
set_option Elab.async false
set_option linter.all false
set_option autoImplicit false
set_option maxRecDepth 100000
set_option maxHeartbeats 4000000
namespace K01
open PySem PySem.Spec PyProof.Rows L2 Vb Wd
def topS (i : Nat) : Stmt := PySem.Challenge.pw_mendbooks_k01_whole_tuples_of_names.main.body.getD i (.Pass ⟨0, 0, 0, 0⟩)
abbrev s_l_dice : Stmt := topS 5
theorem sc_l_dice : FnScope ["_law_script", "_law_spot", "_law_cell", "_law_great", "_law_seed"] ["_law_script", "_law_spot"] (defScope s_l_dice) := ⟨rfl, rfl, rfl, by decide +kernel, rfl, by decide +kernel, by decide +kernel⟩
abbrev s_l_roll : Stmt := topS 6
theorem sc_l_roll : FnScope ["_law_dice_here", "_law_total", "_law_found", "_law_one", "_law_two"] ["_law_dice_here", "_law_total"] (defScope s_l_roll) := ⟨rfl, rfl, rfl, by decide +kernel, rfl, by decide +kernel, by decide +kernel⟩
abbrev s_l_pick : Stmt := topS 7
theorem sc_l_pick : FnScope ["_law_dice_here", "_law_items"] ["_law_dice_here", "_law_items"] (defScope s_l_pick) := ⟨rfl, rfl, rfl, by decide +kernel, rfl, by decide +kernel, by decide +kernel⟩
/-- dice(script, spot): new dice -/
def spDice (K : PySem.W.Frag) : Sp := fun vs H Q _ => ∃ (a : Addr) (ns : List Int) (i : Int), vs = [.ref a, .int i] ∧ SqL K H a (ns.map V.int) ∧ 0 ≤ i ∧ ∀ d g s, H d = none → Q (.ref d) (upd H d (dz g s 0))
/-- roll(dice, total): an int from 0 on and below total -/
def spRoll : Sp := fun vs H Q _ => ∃ (d : Addr) (n : Int), vs = [.ref d, .int n] ∧ Dice H d ∧ 0 < n ∧ n.natAbs < 2 ^ 8000 ∧ ∀ r H', Past d H H' → 0 ≤ r → r < n → Q (.int r) H'
section
variable {P : Program} {w : World} {K : PySem.W.Frag} {mg : Str → Option Value} {base : Heap}
theorem ok_roll (D : Df K mg "_law_roll" s_l_roll ["_law_dice_here", "_law_total"]) (z_int : mg "int" = none) : Cg P w K mg base 1 "_law_roll" spRoll := by
  refine D.ok sc_l_roll (fun vs H Q E h => ?_) (fun cdv A outer s H vs Q E f hc hr h => ?_)
  · obtain ⟨d, n, rfl, _⟩ := h
    rfl
  · obtain ⟨d, n, rfl, ⟨g, s, c, hd⟩, n0, nz, q⟩ := h
    refine ⟨_, (pss_cons (ps_if (pt_cmpR op_gt (pe_ix ix_list (pv 0) pe_int (fun _ _ => rfl)) pe_int (nomark _))
      (pss_cons (ps_set (i := 2) sc_l_roll.nd rfl (Or.inl rfl) (pe_op op_mod (pe_callTy call_int1 (by rfl) z_int (by decide +kernel) (pa_cons (pe_ix ix_list (pv 0) pe_int (fun _ _ => rfl)) pa_nil)) (pv 1)))
      (pss_cons (ps_asg (pe_op op_fdivW (pe_ix ix_list (pv 0) pe_int (fun _ _ => rfl)) (pv 1)) (pg_sub (pv 0) pe_int set_list))
      (pss_one (ps_ret (pv 2)))))
      pss_nil)
      (pss_cons (ps_asg (pe_op op_add (pe_ix ix_list (pv 0) pe_int (fun _ _ => rfl)) pe_int) (pg_sub (pv 0) pe_int set_list))
      (pss_cons (ps_set (i := 3) sc_l_roll.nd rfl (Or.inl rfl) (pe_op op_mod (pe_callTy call_int1 (by rfl) z_int (by decide +kernel) (pa_cons (pe_op op_add (pe_ix ix_list (pv 0) pe_int (fun _ _ => rfl)) (pe_op op_mul pe_int (pe_ix ix_list (pv 0) pe_int (fun _ _ => rfl)))) pa_nil)) pe_int))
      (pss_cons (ps_set (i := 4) sc_l_roll.nd rfl (Or.inl rfl) (pe_op op_add (pe_op op_mul (pe_op op_mod (pe_callTy call_int1 (by rfl) z_int (by decide +kernel) (pa_cons (pe_op op_mul (pv 3) (pv 3)) pa_nil)) pe_int) (pv 3)) (pe_op op_mul pe_int (pe_ix ix_list (pv 0) pe_int (fun _ _ => rfl)))))
      (pss_one (ps_ret (pe_op op_mod (pe_callTy call_int1 (by rfl) z_int (by decide +kernel) (pa_cons (pe_op op_fdiv (pe_op op_mod (pe_callTy call_int1 (by rfl) z_int (by decide +kernel) (pa_cons (pe_op op_add (pv 4) (pe_op op_mul pe_int (pe_ix ix_list (pv 0) pe_int (fun _ _ => rfl)))) pa_nil)) pe_int) pe_int) pa_nil)) (pv 1)))))))), ?_⟩
    have a0 : ∀ x y z : Int, atI [V.int x, V.int y, V.int z] 0 = some (V.int x) := fun _ _ _ => rfl
    have a1 : ∀ x y z : Int, atI [V.int x, V.int y, V.int z] 1 = some (V.int y) := fun _ _ _ => rfl
    have a2 : ∀ x y z : Int, atI [V.int x, V.int y, V.int z] 2 = some (V.int z) := fun _ _ _ => rfl
    have hS : SqL K H d [.int g, .int s, .int c] := .inl (.inl hd)
    refine ⟨_, rfl, d, _, 0, .int g, rfl, rfl, hS, a0 _ _ _, _, _, rfl, rfl, _, rfl, ite2 (fun _ => ?_) (fun _ => ?_)⟩
    · refine ⟨_, rfl, d, _, 0, .int g, rfl, rfl, hS, a0 _ _ _, .inl ⟨_, rfl, _, rfl, _, _, rfl, rfl, n0, ?_⟩⟩
      refine ⟨_, rfl, d, _, 0, .int g, rfl, rfl, hS, a0 _ _ _, _, rfl, _, _, rfl, rfl, wide_div n0 nz (by decide) (by decide), ?_⟩
      refine ⟨_, rfl, d, _, 0, 0, rfl, rfl, hd, rfl, ?_⟩
      refine ⟨_, rfl, ?_⟩
      exact q _ _ (Past.upd (g / n) s c) (Int.emod_nonneg _ (by omega)) (Int.emod_lt_of_pos _ n0)
    · refine ⟨_, rfl, d, _, 2, .int c, rfl, rfl, hS, a2 _ _ _, _, _, rfl, rfl, ?_⟩
      refine ⟨_, rfl, d, _, 2, 2, rfl, rfl, hd, rfl, ?_⟩
      have hT : SqL K (upd H d (dz g s (c + 1))) d [.int g, .int s, .int (c + 1)] := .inl (.inl upd_same)
      have m0 : ∀ x y : Int, 0 < y → 0 ≤ x % y ∧ x % y < y := fun x y h => ⟨Int.emod_nonneg _ (by omega), Int.emod_lt_of_pos _ h⟩
      have hone := m0 (s + 715827883 * (c + 1)) 2305843009213693951 (by decide)
      refine ⟨_, rfl, d, _, 1, .int s, rfl, rfl, hT, a1 _ _ _, _, rfl, d, _, 2, .int (c + 1), rfl, rfl, hT, a2 _ _ _, _, _, rfl, rfl, by constructor <;> decide, _, _, rfl, rfl, .inl ⟨_, rfl, _, _, rfl, rfl, (by show (0 : Int) < _; decide), ?_⟩⟩
      generalize (s + 715827883 * (c + 1)) % 2305843009213693951 = one at hone ⊢
      refine ⟨_, rfl, _, rfl, _, _, rfl, rfl, (.inl ⟨by omega, by omega⟩), .inl ⟨_, rfl, _, _, rfl, rfl, (by show (0 : Int) < _; decide), ?_⟩⟩
      have htwo := m0 (one * one) 1152921504606846869 (by decide)
      generalize one * one % 1152921504606846869 = two at htwo ⊢
      refine ⟨_, rfl, _, _, rfl, rfl, (.inl ⟨by omega, by omega⟩), _, rfl, d, _, 2, .int (c + 1), rfl, rfl, hT, a2 _ _ _, _, _, rfl, rfl, by constructor <;> decide, _, _, rfl, rfl, ?_⟩
      refine ⟨_, rfl, _, rfl, d, _, 1, .int s, rfl, rfl, hT, a1 _ _ _, _, _, rfl, rfl, by constructor <;> decide, _, _, rfl, rfl, .inl ⟨_, rfl, _, _, rfl, rfl, (by show (0 : Int) < _; decide), _, _, rfl, rfl, ⟨by decide, by decide⟩, .inl ⟨_, rfl, _, rfl, _, _, rfl, rfl, n0, ?_⟩⟩⟩
      exact q _ _ (Past.upd g s (c + 1)) (m0 _ n n0).1 (m0 _ n n0).2

theorem pow_10_58 : CPowW 10 58 := ⟨by decide, by decide +kernel⟩
theorem pow_10_580 : CPowW ((10 : Int) ^ (58 : Int).toNat) 10 := ⟨by decide, by decide +kernel⟩
theorem pos_10_580 : (0 : Int) < ((10 : Int) ^ (58 : Int).toNat) ^ (10 : Int).toNat := by decide +kernel
theorem pow_10_18 : CPowW 10 18 := ⟨by decide, by decide +kernel⟩
theorem ok_dice (D : Df K mg "_law_dice" s_l_dice ["_law_script", "_law_spot"]) (z_int : mg "int" = none) (z_len : mg "len" = none) (z_abs : mg "abs" = none) (z_max : mg "max" = none) : Cg P w K mg base 1 "_law_dice" (spDice K) := by
  refine D.ok sc_l_dice (fun vs H Q E h => ?_) (fun cdv A outer s H vs Q E f hc hr h => ?_)
  · obtain ⟨a, ns, i, rfl, _⟩ := h
    rfl
  · obtain ⟨a, ns, i, rfl, hS, i0, q⟩ := h
    refine ⟨_, (pss_cons (ps_set (i := 2) sc_l_dice.nd rfl (Or.inl rfl) (pe_ifExp (pt_cmpR op_lt (pv 1) (pe_callB call_len_seq (by rfl) z_len PySem.boot_len (pa_cons (pv 0) pa_nil)) (nomark _)) (pe_ix ix_list (pv 0) (pv 1) (fun _ _ => rfl)) (pe_op op_add (pe_op op_mul pe_int (pv 1)) pe_int)))
      (pss_cons (ps_set (i := 3) sc_l_dice.nd rfl (Or.inl rfl) (pe_op op_mod (pe_callTy call_int1 (by rfl) z_int (by decide +kernel) (pa_cons (pe_callB call_abs (by rfl) z_abs (by decide +kernel) (pa_cons (pv 2) pa_nil)) pa_nil)) (pe_op op_powW (pe_op op_powW pe_int pe_int) pe_int)))
      (pss_cons (ps_set (i := 4) sc_l_dice.nd rfl (Or.inl rfl) (pe_op op_add (pe_op op_add (pe_op op_add (pe_op op_mul (pe_op op_mod (pe_callTy call_int1 (by rfl) z_int (by decide +kernel) (pa_cons (pv 3) pa_nil)) pe_int) pe_int) (pe_op op_mul pe_int (pv 1))) (pe_op op_mul pe_int (pe_callTy call_int1 (by rfl) z_int (by decide +kernel) (pa_cons (pe_cmpR op_lt (pv 2) pe_int (nomark _)) pa_nil)))) pe_int))
      (pss_one (ps_ret (pe_lst (pa_cons (pe_callB (call_max2 rfl) (by rfl) z_max (by decide +kernel) (pa_cons pe_int (pa_cons (pe_op op_sub (pv 3) (pe_op op_powW pe_int pe_int)) pa_nil))) (pa_cons (pe_op op_mod (pe_callTy call_int1 (by rfl) z_int (by decide +kernel) (pa_cons (pv 4) pa_nil)) pe_int) (pa_cons pe_int pa_nil))))))))), ?_⟩
    refine ⟨_, rfl, _, rfl, a, ns.map V.int, rfl, .inl hS, _, _, rfl, rfl, _, rfl, ite2 (fun e => ?_) (fun _ => ?_)⟩
    case' refine_2.refine_1 =>
      have lt : i < ((ns.map V.int).length : Int) := of_decide_eq_true e
      have il : i.toNat < ns.length := by
        rw [List.length_map] at lt
        omega
      have at_i : atI (ns.map V.int) i = some (.int ns[i.toNat]) := by
        refine at_of (j := i.toNat) (by omega) ?_
        rw [List.getElem?_map, List.getElem?_eq_getElem il]
        rfl
      refine ⟨_, rfl, _, rfl, a, _, i, _, rfl, rfl, hS, at_i, ?_⟩
      generalize ns[i.toNat] = cell
    case' refine_2.refine_2 =>
      refine ⟨_, rfl, _, _, rfl, rfl, by constructor <;> decide, _, _, rfl, rfl, ?_⟩
      generalize 71 * i + 37 = cell
    all_goals
      refine ⟨_, rfl, _, rfl, .inl ⟨_, rfl, _, _, rfl, rfl, pow_10_58, _, _, rfl, rfl, pow_10_580, _, _, rfl, rfl, pos_10_580, ?_⟩⟩
      refine ⟨_, rfl, .inl ⟨_, rfl, _, _, rfl, rfl, (by show (0 : Int) < _; decide), _, _, rfl, rfl, .inr (by constructor <;> decide), _, rfl, _, _, rfl, rfl, by constructor <;> decide, _, _, rfl, rfl, _, rfl, _, _, rfl, rfl, .inr ⟨_, rfl, ?_⟩⟩⟩
      refine ⟨_, _, rfl, rfl, by constructor <;> decide, _, _, rfl, rfl, _, _, rfl, rfl, ?_⟩
      refine ⟨_, rfl, _, _, rfl, rfl, pow_10_18, _, _, rfl, rfl, _, _, rfl, _, rfl, .inl ⟨_, rfl, _, _, rfl, rfl, (by show (0 : Int) < _; decide), ?_⟩⟩
      exact ⟨by show 3 ≤ sizeLine; decide, fun p hp => q p _ _ hp⟩

end
theorem at_of' {α : Type} {xs : List α} {z : Int} {j : Nat} {v : α} (e : z = (j : Int)) (h : xs[j]? = some v) : atI xs z = some v := by
  rw [e]
  exact atI_nat h
/-- what pick draws from: a list, a tuple or a text that is not empty; what may come of it -/
def Some1 (K : PySem.W.Frag) (H : Hp) (d : Addr) : V → (V → Prop) → Prop := fun x p =>
  (∃ l xs, x = .ref l ∧ l ≠ d ∧ (SqL K H l xs ∨ SqT K H l xs) ∧ xs ≠ [] ∧ xs.length ≤ 1000000 ∧ ∀ v ∈ xs, p v) ∨
  (∃ z : Str, x = .str z ∧ 0 < z.length ∧ z.length ≤ 1000000 ∧ ∀ c ∈ z.cps.toList, p (.str ⟨#[c]⟩))
/-- pick(dice, items): one of them -/
def spPick (K : PySem.W.Frag) : Sp := fun vs H Q _ => ∃ (d : Addr) (x : V) (p : V → Prop), vs = [.ref d, x] ∧ Dice H d ∧ Some1 K H d x p ∧ ∀ v H', Past d H H' → p v → Q v H'
theorem tup_past {K : PySem.W.Frag} {d a : Addr} {xs : List V} {H H' : Hp} (h : Past d H H') (n : a ≠ d) (s : SqT K H a xs) : SqT K H' a xs := by
  rcases s with (s | ⟨o, s⟩) | s
  · exact .inl (.inl (h.1 _ _ n s))
  · exact .inl (.inr ⟨o, h.1 _ _ n s⟩)
  · exact .inr s
section
variable {P : Program} {w : World} {K : PySem.W.Frag} {mg : Str → Option Value} {base : Heap}
theorem ok_pick (D : Df K mg "_law_pick" s_l_pick ["_law_dice_here", "_law_items"]) (G_l_roll : Cg P w K mg base 1 "_law_roll" spRoll) (z_len : mg "len" = none) : Cg P w K mg base 2 "_law_pick" (spPick K) := by
  refine D.ok sc_l_pick (fun vs H Q E h => ?_) (fun cdv A outer s H vs Q E f hc hr h => ?_)
  · obtain ⟨d, x, p, rfl, _⟩ := h
    rfl
  · obtain ⟨d, x, p, rfl, hd, hx, q⟩ := h
    refine ⟨_, (pss_one (ps_ret (pe_ix ix_seq (pv 1) (pe_cg G_l_roll hc hr (by rfl) (pa_cons (pv 0) (pa_cons (pe_callB call_len (by rfl) z_len (by decide +kernel) (pa_cons (pv 1) pa_nil)) pa_nil))) (fun _ _ => rfl)))), ?_⟩
    rcases hx with ⟨l, xs, rfl, ld, hs, ne, hl, hp⟩ | ⟨z, rfl, z0, hl, hp⟩
    · have x0 : 0 < xs.length := List.length_pos_iff.mpr ne
      refine ⟨_, rfl, _, rfl, _, rfl, _, xs.length, rfl, ?_, d, _, rfl, hd, by omega, small8000 hl, fun r H' pa r0 rn => ?_⟩
      · exact hs.elim (fun h => .inl ⟨_, h, rfl⟩) (fun h => .inr ⟨_, h, rfl⟩)
      · have rl : r.toNat < xs.length := by omega
        have at_r : atI xs r = some xs[r.toNat] := at_of (j := r.toNat) (by omega) (List.getElem?_eq_getElem rl)
        rcases hs with hs | hs
        · exact .inl ⟨l, xs, r, _, rfl, rfl, pa.seq ld hs, at_r, q _ _ pa (hp _ (List.getElem_mem rl))⟩
        · exact .inr (.inl ⟨l, xs, r, _, rfl, rfl, tup_past pa ld hs, at_r, q _ _ pa (hp _ (List.getElem_mem rl))⟩)
    · refine ⟨_, rfl, _, rfl, _, rfl, _, z.length, rfl, ⟨fits_million hl, rfl⟩, d, _, rfl, hd, by omega, small8000 hl, fun r H' pa r0 rn => ?_⟩
      have el : z.cps.toList.length = z.length := by simp [Str.length]
      have rl : r.toNat < z.cps.toList.length := by omega
      exact .inr (.inr ⟨z, r, _, rfl, rfl, fits_million hl, at_of' (j := r.toNat) (by omega) (List.getElem?_eq_getElem rl), q _ _ pa (hp _ (List.getElem_mem rl))⟩)
end
end K01
set_option Elab.async false
set_option linter.all false
set_option autoImplicit false
set_option maxRecDepth 100000
set_option maxHeartbeats 4000000
namespace K01
open PySem PySem.Spec PyProof.Rows L2 Vb Wd
/-! ### the order of texts -/
abbrev Lt (a b : Str) : Prop := a.cps.toList < b.cps.toList
theorem lt_tr {a b c : Str} (h : Lt a b) (k : Lt b c) : Lt a c := List.lt_trans h k
theorem lt_ir (a : Str) : ¬ Lt a a := List.lt_irrefl _
theorem lt_tri {a b : Str} (h : ¬ Lt a b) (k : ¬ Lt b a) : a = b := by
  have e : a.cps.toList = b.cps.toList := List.le_antisymm (List.not_lt.mp k) (List.not_lt.mp h)
  obtain ⟨x⟩ := a
  obtain ⟨y⟩ := b
  obtain ⟨x⟩ := x
  obtain ⟨y⟩ := y
  cases (show x = y from e)
  rfl
/-- each is less than the next -/
def asc : List Str → Bool
  | x :: y :: r => decide (Lt x y) && asc (y :: r)
  | _ => true
theorem asc_pair : ∀ {l : List Str}, asc l = true → l.Pairwise Lt
  | [], _ => .nil
  | [x], _ => List.pairwise_singleton _ _
  | x :: y :: r, h => by
    obtain ⟨h1, h2⟩ := Bool.and_eq_true_iff.mp (show (decide (Lt x y) && asc (y :: r)) = true from h)
    have ih := asc_pair (l := y :: r) h2
    refine List.pairwise_cons.mpr ⟨fun z hz => ?_, ih⟩
    rcases List.mem_cons.mp hz with rfl | hz
    · exact of_decide_eq_true h1
    · exact lt_tr (of_decide_eq_true h1) ((List.pairwise_cons.mp ih).1 z hz)
theorem pair_asc : ∀ {l : List Str}, l.Pairwise Lt → asc l = true
  | [], _ => rfl
  | [x], _ => rfl
  | x :: y :: r, h => by
    obtain ⟨h1, h2⟩ := List.pairwise_cons.mp h
    show (decide (Lt x y) && asc (y :: r)) = true
    rw [pair_asc h2, decide_eq_true (h1 y List.mem_cons_self)]
    rfl
theorem rising_pair : ∀ {l : List Str} {p : Str}, risingS p l = true → (p :: l).Nodup → (p :: l).Pairwise Lt
  | [], p, _, _ => List.pairwise_singleton _ _
  | x :: r, p, h, nd => by
    obtain ⟨h1, h2⟩ := Bool.and_eq_true_iff.mp (show (!ltCps x.cps.toList p.cps.toList && risingS x r) = true from h)
    obtain ⟨n1, n2⟩ := List.nodup_cons.mp nd
    have ih := rising_pair h2 n2
    have px : Lt p x := by
      rw [ltCps_eq] at h1
      have nx : ¬ Lt x p := by simpa using h1
      refine Classical.byContradiction fun np => ?_
      exact n1 (lt_tri np nx ▸ List.mem_cons_self)
    refine List.pairwise_cons.mpr ⟨fun z hz => ?_, ih⟩
    rcases List.mem_cons.mp hz with rfl | hz
    · exact px
    · exact lt_tr px ((List.pairwise_cons.mp ih).1 z hz)
theorem sorted_pair {l : List Str} (h : sortedS l = true) (nd : l.Nodup) : l.Pairwise Lt := by
  cases l with
  | nil => exact .nil
  | cons x r => exact rising_pair h nd
theorem pair_uniq : ∀ {l m : List Str}, l.Pairwise Lt → m.Pairwise Lt → (∀ k, k ∈ l ↔ k ∈ m) → l = m
  | [], [], _, _, _ => rfl
  | [], y :: _, _, _, h => nomatch (h y).mpr List.mem_cons_self
  | x :: _, [], _, _, h => nomatch (h x).mp List.mem_cons_self
  | x :: l, y :: m, pl, pm, h => by
    obtain ⟨l1, l2⟩ := List.pairwise_cons.mp pl
    obtain ⟨m1, m2⟩ := List.pairwise_cons.mp pm
    have xy : x = y := by
      rcases List.mem_cons.mp ((h x).mp List.mem_cons_self) with e | hx
      · exact e
      · rcases List.mem_cons.mp ((h y).mpr List.mem_cons_self) with e | hy
        · exact e.symm
        · exact absurd (lt_tr (l1 y hy) (m1 x hx)) (lt_ir x)
    subst xy
    have rest : l = m := pair_uniq l2 m2 fun k => by
      constructor
      · intro hk
        rcases List.mem_cons.mp ((h k).mp (List.mem_cons_of_mem _ hk)) with e | hk'
        · exact absurd (e ▸ l1 k hk) (lt_ir x)
        · exact hk'
      · intro hk
        rcases List.mem_cons.mp ((h k).mpr (List.mem_cons_of_mem _ hk)) with e | hk'
        · exact absurd (e ▸ m1 k hk) (lt_ir x)
        · exact hk'
    rw [rest]
/-- a list is its members in order just if each is less than the next -/
theorem eq_sorted {ys zs : List Str} (mem : ∀ k, k ∈ zs ↔ k ∈ ys) (srt : sortedS zs = true) (nd : zs.Nodup) : decide (ys = zs) = asc ys := by
  have pz := sorted_pair srt nd
  cases h : asc ys with
  | true => exact decide_eq_true (pair_uniq (asc_pair h) pz fun k => (mem k).symm)
  | false =>
    refine decide_eq_false fun e => ?_
    rw [e, pair_asc pz] at h
    cases h
theorem eqv_strs : ∀ ys zs : List Str, PyData.eqvAll (ys.map PyData.str) (zs.map PyData.str) = decide (ys = zs)
  | [], [] => rfl
  | [], z :: zs => by simp [PyData.eqvAll]
  | y :: ys, [] => by simp [PyData.eqvAll]
  | y :: ys, z :: zs => by
    show (PyData.eqv (.str y) (.str z) && PyData.eqvAll (ys.map PyData.str) (zs.map PyData.str)) = _
    rw [eqv_strs ys zs]
    by_cases e : y = z
    · subst e
      by_cases e2 : ys = zs
      · subst e2; simp [PyData.eqv]
      · simp [PyData.eqv, e2]
    · simp [PyData.eqv, e]
theorem eqv_list (ys zs : List Str) : PyData.eqv (.list (ys.map PyData.str)) (.list (zs.map PyData.str)) = decide (ys = zs) := by
  rw [← eqv_strs]
  simp [PyData.eqv]
/-! ### the first unlike sign decides -/
theorem lt_at : ∀ {a b : List Nat} {i c d : Nat}, a.take i = b.take i → a[i]? = some c → b[i]? = some d → c ≠ d → decide (a < b) = decide (c < d)
  | [], _, _, _, _, _, h, _, _ => by simp at h
  | _, [], _, _, _, _, _, h, _ => by simp at h
  | x :: a, y :: b, 0, c, d, _, h, k, n => by
    have e1 : x = c := by simpa using h
    have e2 : y = d := by simpa using k
    subst e1
    subst e2
    apply decide_eq_decide.mpr
    constructor
    · intro l
      cases l with
      | rel h => exact h
      | cons h => exact absurd rfl n
    · exact fun l => .rel l
  | x :: a, y :: b, i + 1, c, d, t, h, k, n => by
    have e : x = y ∧ a.take i = b.take i := by simpa using t
    obtain ⟨rfl, t'⟩ := e
    rw [← lt_at t' (by simpa using h) (by simpa using k) n]
    apply decide_eq_decide.mpr
    constructor
    · intro l
      cases l with
      | rel h => exact absurd h (Nat.lt_irrefl _)
      | cons h => exact h
    · exact fun l => .cons l
theorem lt_end : ∀ {a b : List Nat}, a.take (min a.length b.length) = b.take (min a.length b.length) → decide (a < b) = decide (a.length < b.length)
  | [], [], _ => by decide
  | [], y :: b, _ => by
    rw [decide_eq_true (show ([] : List Nat) < y :: b from .nil)]
    exact (decide_eq_true (Nat.succ_pos _)).symm
  | x :: a, [], _ => by
    rw [decide_eq_false (fun l : x :: a < ([] : List Nat) => nomatch l)]
    exact (decide_eq_false (by simp)).symm
  | x :: a, y :: b, t => by
    have m : min (x :: a).length (y :: b).length = min a.length b.length + 1 := by simp only [List.length_cons]; omega
    rw [m] at t
    have e : x = y ∧ a.take (min a.length b.length) = b.take (min a.length b.length) := by simpa using t
    obtain ⟨rfl, t'⟩ := e
    have ih := lt_end t'
    have : decide (x :: a < x :: b) = decide (a < b) := by
      apply decide_eq_decide.mpr
      constructor
      · intro l
        cases l with
        | rel h => exact absurd h (Nat.lt_irrefl _)
        | cons h => exact h
      · exact fun l => .cons l
    rw [this, ih]
    apply decide_eq_decide.mpr
    simp
/-! ### the small letters by their places -/
def lettersT : Str := "abcdefghijklmnopqrstuvwxyz"
theorem letters_at : ∀ c, c < 128 → low c = true → ∃ r, Builtin.Str.occurrences lettersT ⟨#[c]⟩ 0 lettersT.length 1 = (c - 97) :: r := by
  have h : ∀ c, c < 128 → low c = true → Builtin.Str.occurrences lettersT ⟨#[c]⟩ 0 lettersT.length 1 = [c - 97] := by decide +kernel
  exact fun c h1 h2 => ⟨[], h c h1 h2⟩
end K01
set_option Elab.async false
set_option linter.all false
set_option autoImplicit false
set_option maxRecDepth 100000
set_option maxHeartbeats 4000000
namespace K01
open PySem PySem.Spec PyProof.Rows L2 Vb Wd Ts
abbrev s_is_name : Stmt := topS 2
theorem sc_is_name : FnScope ["value"] ["value"] (defScope s_is_name) := ⟨rfl, rfl, rfl, by decide +kernel, rfl, by decide +kernel, by decide +kernel⟩
abbrev s_is_names : Stmt := topS 3
theorem sc_is_names : FnScope ["value", "word"] ["value"] (defScope s_is_names) := ⟨rfl, rfl, rfl, by decide +kernel, rfl, by decide +kernel, by decide +kernel⟩
abbrev s_l_before : Stmt := topS 9
theorem sc_l_before : FnScope ["_law_one", "_law_other", "_law_letters", "_law_at"] ["_law_one", "_law_other"] (defScope s_l_before) := ⟨rfl, rfl, rfl, by decide +kernel, rfl, by decide +kernel, by decide +kernel⟩
abbrev s_l_is_name : Stmt := topS 10
theorem sc_l_is_name : FnScope ["_law_word_here", "_law_sign"] ["_law_word_here"] (defScope s_l_is_name) := ⟨rfl, rfl, rfl, by decide +kernel, rfl, by decide +kernel, by decide +kernel⟩
abbrev s_l_due : Stmt := topS 11
theorem sc_l_due : FnScope ["_law_words", "_law_word_here", "_law_at"] ["_law_words"] (defScope s_l_due) := ⟨rfl, rfl, rfl, by decide +kernel, rfl, by decide +kernel, by decide +kernel⟩
section
variable {P : Program} {w : World} {K : PySem.W.Frag} {mg : Str → Option Value} {base : Heap}
theorem ok_is_name {t : Tok} (D : Df K mg "is_name" s_is_name ["value"]) (z_isinstance : mg "isinstance" = none) (z_str : mg "str" = none) (z_len : mg "len" = none) (c_MAX_LETTERS : mg "MAX_LETTERS" = some (.int 8 t)) :
    Cg P w K mg base 1 "is_name" (spOf isNam) := by
  refine D.ok sc_is_name (fun vs H Q E h => ?_) (fun cdv A outer s H vs Q E f hc hr h => ?_)
  · obtain ⟨v, rfl, _⟩ := h
    rfl
  · obtain ⟨v, rfl, j, q⟩ := h
    refine ⟨_, (pss_cons (ps_if (PW.pt (pw_or (pt_not (pt_val (pe_callB call_isi (by rfl) z_isinstance (by decide +kernel) (pa_cons (pv 0) (pa_cons (pe_bltn (v := .ty "str") (by rfl) z_str (by decide +kernel) rfl) pa_nil))))) (pw_or1 (pt_not (pt_chain op_le op_le pe_int (pe_callB call_len (by rfl) z_len (by decide +kernel) (pa_cons (pv 0) pa_nil)) (pe_glob (v := .int 8) rfl c_MAX_LETTERS ⟨_, rfl⟩))))))
      (pss_one (ps_ret pe_bl))
      pss_nil)
      (pss_one (ps_ret (pe_and (pe_bm0 PySem.F.plainAttrs_str PySem.F.slot_str_isascii PySem.F.type_str_isascii mt_isascii (pv 0)) (pe_and (pe_bm0 PySem.F.plainAttrs_str PySem.F.slot_str_isalpha PySem.F.type_str_isalpha mt_isalpha (pv 0)) (pe_one (pe_bm0 PySem.F.plainAttrs_str PySem.F.slot_str_islower PySem.F.type_str_islower mt_islower (pv 0)))))))), ?_⟩
    have q' := q H (Same.refl H)
    rcases kinds (K := K) j with ⟨i, rfl, hi⟩ | ⟨b, rfl⟩ | ⟨z, rfl, hz, az⟩ | ⟨T, ty, k1, k2, k3, e1, e2, e3⟩
    · exact ⟨_, rfl, _, _, _, _, false, rfl, .ty _, .base (.int i), kit_ty ki_is, _, rfl, iteT q'⟩
    · exact ⟨_, rfl, _, _, _, _, false, rfl, .ty _, .base (.bl b), kit_ty ki_bs, _, rfl, iteT q'⟩
    · rw [isNam_str] at q'
      refine ⟨_, rfl, _, _, _, _, true, rfl, .ty _, .base (.str z), kit_ty ki_ss, _, rfl, iteF ⟨_, rfl, _, z.length, rfl, ⟨fits_million (by omega), rfl⟩, _, _, rfl, rfl, _, rfl, ?_⟩⟩
      by_cases h1 : 1 ≤ z.length
      · rw [decide_eq_true h1, Bool.true_and] at q'
        refine ite2 (fun _ => ⟨_, _, rfl, rfl, _, rfl, ?_⟩) (fun n => absurd (decide_eq_true (by omega)) n)
        by_cases h8 : z.length ≤ 8
        · rw [decide_eq_true h8, Bool.true_and, ← name_signs az h1] at q'
          refine ite2 (fun n => ?_) (fun _ => ?_)
          · rw [decide_eq_true (by omega)] at n
            cases n
          · refine ⟨_, rfl, rfl, z, rfl, rfl, trivial, _, rfl, ?_⟩
            cases ea : Txt.isascii z with
            | false =>
              rw [ea, Bool.false_and] at q'
              exact iteF q'
            | true =>
              refine iteT ⟨_, rfl, rfl, z, rfl, rfl, trivial, _, rfl, ?_⟩
              rw [ea, Bool.true_and] at q'
              cases eb : Txt.isalpha z with
              | false =>
                rw [eb, Bool.false_and] at q'
                exact iteF q'
              | true =>
                rw [eb, Bool.true_and] at q'
                exact iteT ⟨_, rfl, rfl, z, rfl, rfl, trivial, q'⟩
        · rw [decide_eq_false h8, Bool.false_and] at q'
          refine ite2 (fun _ => q') (fun n => ?_)
          rw [decide_eq_false (by omega)] at n
          exact absurd rfl n
      · rw [decide_eq_false h1, Bool.false_and, Bool.false_and] at q'
        refine ite2 (fun n => ?_) (fun _ => ⟨_, rfl, iteT q'⟩)
        have := of_decide_eq_true n
        omega
    · rw [e3] at q'
      exact ⟨_, rfl, _, _, _, _, false, rfl, .ty _, ty, kit_ty k3, _, rfl, iteT q'⟩

def spNam : Sp := fun vs H Q _ => ∃ z, vs = [.str z] ∧ z.length ≤ 1000 ∧ Asc z ∧ ∀ H', Same H H' → Q (.bl (isNam (.str z))) H'
theorem ok_l_is_name (D : Df K mg "_law_is_name" s_l_is_name ["_law_word_here"]) (z_len : mg "len" = none) : Cg P w K mg base 1 "_law_is_name" spNam := by
  refine D.ok sc_l_is_name (fun vs H Q E h => ?_) (fun cdv A outer s H vs Q E f hc hr h => ?_)
  · obtain ⟨z, rfl, _⟩ := h
    rfl
  · obtain ⟨z, rfl, hz, az, q⟩ := h
    refine ⟨_, (pss_one (ps_ret (pe_and (pe_chain op_le op_le pe_int (pe_callB call_len (by rfl) z_len (by decide +kernel) (pa_cons (pv 0) pa_nil)) pe_int) (pe_one (pe_cmpR (op_eqD hr.units) (pe_lc (own := [("_law_sign", 1)]) (g := gName 1) (by rfl) sc_l_is_name.nd (pi_str (pv 0)) (blkOk_by (own := [("_law_sign", 1)]) (N := ["_law_word_here", "_law_sign"]) (sc := defScope s_l_is_name) (by decide +kernel)) (fun _ _ _ _ _ => pg_name (i := 1) sc_l_is_name.nd rfl (Or.inl rfl)) (fun _ _ _ _ _ => (pts_one (PW.pt (pw_or (pt_cmpR op_lt_str (pv 1) pe_str (nomark _)) (pw_or1 (pt_cmpR op_gt_str (pv 1) pe_str (nomark _))))))) (fun _ _ _ _ _ => (pv 1))) (pe_lst pa_nil) (nomark _)))))), ?_⟩
    have q' := q H (Same.refl H)
    rw [isNam_str] at q'
    refine ⟨_, rfl, _, z.length, rfl, ⟨fits_million (by omega), rfl⟩, _, _, rfl, rfl, _, rfl, ite2 (fun e1 => ⟨_, _, rfl, rfl, _, rfl, ite2 (fun e8 => ?_) (fun e8 => ?_)⟩) (fun e1 => ⟨_, rfl, iteF ?_⟩)⟩
    · have h1 := of_decide_eq_true e1
      have h8' := of_decide_eq_true e8
      have h0 : ¬ (z.length : Int) = 0 := by omega
      have h8 : ¬ (8 : Int) < z.length := by omega
      have el : z.cps.toList.length = z.length := by simp [Str.length]
      refine ⟨_, rfl, z, rfl, fun D nD => lc_it walk_str (fun i H' => H' = upd H D (.lst (odd1 (z.cps.toList.take i)))) rfl (fun _ _ _ _ => trivial) (fun i x H1 H' hi e1 y => ?_) (fun H' e1 => ?_)⟩
      · obtain ⟨rfl, c, hc, rfl⟩ := y
        subst e1
        have hc' : z.cps.toList[i]? = some c := by simpa using hc
        have s1 : odd1 (z.cps.toList.take (i + 1)) = odd1 (z.cps.toList.take i) ++ (if low c = true then [] else [V.str ⟨#[c]⟩]) := by
          rw [List.take_add_one, hc']
          exact odd1_snoc _ c
        have room : (odd1 (z.cps.toList.take i)).length < sizeLine := by
          have l1 := odd1_len (z.cps.toList.take i)
          rw [List.length_take] at l1
          have : 1000 < sizeLine := by decide
          omega
        refine ⟨rfl, _, rfl, _, _, rfl, rfl, _, rfl, ite2 (fun e => ?_) (fun e => ⟨_, rfl, _, _, rfl, rfl, _, rfl, ?_⟩)⟩
        · have lt : c < 97 := of_decide_eq_true ((one_lt c 97).symm.trans e)
          have lc : low c = false := by
            unfold low
            rw [decide_eq_false (by omega)]
            rfl
          rw [lc] at s1
          refine ⟨_, rfl, _, upd_same, room, ?_⟩
          rw [s1, upd_upd]
          rfl
        · have ge : ¬ c < 97 := fun n => e ((one_lt c 97).trans (decide_eq_true n))
          show (if decide ([122] < [c]) = true then _ else _)
          rw [one_lt]
          refine ite2 (fun e2 => ?_) (fun e2 => ?_)
          · have gt := of_decide_eq_true e2
            have lc : low c = false := by
              unfold low
              rw [decide_eq_false (show ¬ c ≤ 122 by omega), Bool.and_false]
            rw [lc] at s1
            refine ⟨_, rfl, _, upd_same, room, ?_⟩
            rw [s1, upd_upd]
            rfl
          · have le : ¬ 122 < c := fun n => e2 (decide_eq_true n)
            have lc : low c = true := by
              unfold low
              rw [decide_eq_true (show 97 ≤ c by omega), decide_eq_true (show c ≤ 122 by omega)]
              rfl
            rw [lc] at s1
            rw [s1]
            simp
      · subst e1
        have full : z.cps.toList.take z.cps.size = z.cps.toList := List.take_of_length_le (by simp)
        rw [full]
        refine ⟨Nat.zero_le _, fun p np => ?_⟩
        have s2 := same_new (o := .lst []) np
        have as1 : ∀ y ∈ ((z.cps.toList.filter (fun c => !low c)).map fun c => (⟨#[c]⟩ : Str)), Asc y := fun y hy => by
          obtain ⟨c, hc, rfl⟩ := List.mem_map.mp hy
          exact asc_one az (List.mem_filter.mp hc).1
        have eo : odd1 z.cps.toList = ((z.cps.toList.filter (fun c => !low c)).map fun c => (⟨#[c]⟩ : Str)).map V.str := by
          unfold odd1
          rw [List.map_map]
          rfl
        refine ⟨_, .list [], .lst (.inl (.inl (s2 _ _ upd_same))) (eo ▸ dp_strs _), .lst (.inl (.inl upd_same)) .nil, shaped_strs as1, by decide, ?_⟩
        have ev : PyData.eqv (.list (((z.cps.toList.filter (fun c => !low c)).map fun c => (⟨#[c]⟩ : Str)).map PyData.str)) (.list []) = z.cps.toList.all low := by
          rw [← odd1_nil, eo]
          cases ((z.cps.toList.filter (fun c => !low c)).map fun c => (⟨#[c]⟩ : Str)) <;> rfl
        rw [ev]
        have q2 := q _ ((same_new nD).trans s2)
        rw [isNam_str, decide_eq_true (show 1 ≤ z.length by omega), decide_eq_true (show z.length ≤ 8 by omega), Bool.true_and, Bool.true_and] at q2
        exact q2
    · have h8 : ¬ (z.length : Int) ≤ 8 := fun n => e8 (decide_eq_true n)
      rw [decide_eq_false (show ¬ z.length ≤ 8 by omega), Bool.and_false, Bool.false_and] at q'
      exact q'
    · have h1 : ¬ (1 : Int) ≤ z.length := fun n => e1 (decide_eq_true n)
      rw [decide_eq_false (show ¬ 1 ≤ z.length by omega), Bool.false_and, Bool.false_and] at q'
      exact q'
/-- before(one, other) of two names -/
def spBefore : Sp := fun vs H Q _ => ∃ a b, vs = [.str a, .str b] ∧ isNam (.str a) = true ∧ isNam (.str b) = true ∧ Q (.bl (decide (Lt a b))) H
theorem nam_parts {z : Str} (h : isNam (.str z) = true) : 1 ≤ z.length ∧ z.length ≤ 8 ∧ ∀ c ∈ z.cps.toList, low c = true := by
  rw [isNam_str] at h
  simp only [Bool.and_eq_true, decide_eq_true_eq, List.all_eq_true] at h
  exact ⟨h.1.1, h.1.2, h.2⟩
theorem low_128 {c : Nat} (h : low c = true) : c < 128 ∧ 97 ≤ c := by
  unfold low at h
  simp only [Bool.and_eq_true, decide_eq_true_eq] at h
  omega
theorem ok_l_before (D : Df K mg "_law_before" s_l_before ["_law_one", "_law_other"]) (z_len : mg "len" = none) (z_min : mg "min" = none) (z_range : mg "range" = none) : Cg P w K mg base 1 "_law_before" spBefore := by
  refine D.ok sc_l_before (fun vs H Q E h => ?_) (fun cdv A outer s H vs Q E f hc hr h => ?_)
  · obtain ⟨a, b, rfl, _⟩ := h
    rfl
  · obtain ⟨a, b, rfl, na, nb, q⟩ := h
    obtain ⟨a1, a8, al⟩ := nam_parts na
    obtain ⟨b1, b8, bl⟩ := nam_parts nb
    have ea : a.cps.toList.length = a.length := by simp [Str.length]
    have eb : b.cps.toList.length = b.length := by simp [Str.length]
    have fits : ∀ {n : Nat}, n ≤ 8 → n ≤ sizeLine := fun h => fits_million (by omega)
    refine ⟨_, (pss_cons (ps_set (i := 2) sc_l_before.nd rfl (Or.inl rfl) pe_str)
      (pss_cons (ps_for PassesOwn.never rfl (pi_range1 (by rfl) z_range (pa_cons (pe_callB (call_min2 rfl) (by rfl) z_min (by decide +kernel) (pa_cons (pe_callB call_len (by rfl) z_len (by decide +kernel) (pa_cons (pv 0) pa_nil)) (pa_cons (pe_callB call_len (by rfl) z_len (by decide +kernel) (pa_cons (pv 1) pa_nil)) pa_nil))) pa_nil)) (pg_name (i := 3) sc_l_before.nd rfl (Or.inl rfl))
      (pss_one (ps_if (pt_cmpR op_ne (pe_ix ix_str (pv 0) (pv 3) (fun _ _ => rfl)) (pe_ix ix_str (pv 1) (pv 3) (fun _ _ => rfl)) (nomark _))
      (pss_one (ps_ret (pe_cmpR op_lt (pe_bm PySem.F.plainAttrs_str PySem.F.slot_str_index PySem.F.type_str_index mt_sindex (pv 2) (pa_cons (pe_ix ix_str (pv 0) (pv 3) (fun _ _ => rfl)) pa_nil)) (pe_bm PySem.F.plainAttrs_str PySem.F.slot_str_index PySem.F.type_str_index mt_sindex (pv 2) (pa_cons (pe_ix ix_str (pv 1) (pv 3) (fun _ _ => rfl)) pa_nil)) (nomark _))))
      pss_nil)))
      (pss_one (ps_ret (pe_cmpR op_lt (pe_callB call_len (by rfl) z_len (by decide +kernel) (pa_cons (pv 0) pa_nil)) (pe_callB call_len (by rfl) z_len (by decide +kernel) (pa_cons (pv 1) pa_nil)) (nomark _)))))), ?_⟩
    have em : (if (b.length : Int) < a.length then (b.length : Int) else a.length) = ((min a.length b.length : Nat) : Int) := by split <;> omega
    refine ⟨_, rfl, _, a.length, rfl, ⟨fits a8, rfl⟩, _, rfl, _, b.length, rfl, ⟨fits b8, rfl⟩, _, _, rfl, _, rfl, ?_, ?_, for_range (lo := 0) (fun i σ H' => ∃ y, σ = [some (.str a), some (.str b), some (.str lettersT), y] ∧ H' = H ∧ a.cps.toList.take i = b.cps.toList.take i) ⟨none, rfl, rfl, rfl⟩ ?_ ?_⟩
    · split <;> omega
    · split <;> omega
    · rintro i σ H' hi ⟨y, rfl, rfl, t⟩
      rw [em] at hi
      have ia : i < a.cps.toList.length := by omega
      have ib : i < b.cps.toList.length := by omega
      have ga := List.getElem?_eq_getElem ia
      have gb := List.getElem?_eq_getElem ib
      have ha : low a.cps.toList[i] = true := al _ (List.getElem_mem ia)
      have hb : low b.cps.toList[i] = true := bl _ (List.getElem_mem ib)
      generalize a.cps.toList[i] = c at ga ha
      generalize b.cps.toList[i] = d at gb hb
      have ata : atI a.cps.toList (0 + (i : Int)) = some c := at_of' (j := i) (by omega) ga
      have atb : atI b.cps.toList (0 + (i : Int)) = some d := at_of' (j := i) (by omega) gb
      refine ⟨_, rfl, _, rfl, a, _, c, rfl, rfl, fits a8, ata, _, rfl, _, rfl, b, _, d, rfl, rfl, fits b8, atb, rfl, _, rfl, ?_⟩
      refine ite2 (fun ne => ?_) (fun eq => ?_)
      · have cd : c ≠ d := fun e => by
          subst e
          simp at ne
        obtain ⟨r1, o1⟩ := letters_at c (low_128 ha).1 ha
        obtain ⟨r2, o2⟩ := letters_at d (low_128 hb).1 hb
        refine ⟨_, rfl, rfl, _, rfl, _, rfl, a, _, c, rfl, rfl, fits a8, ata, lettersT, _, _, _, rfl, rfl, o1, _, rfl, rfl, _, rfl, _, rfl, b, _, d, rfl, rfl, fits b8, atb, lettersT, _, _, _, rfl, rfl, o2, _, _, rfl, rfl, ?_⟩
        have e : decide (((c - 97 : Nat) : Int) < ((d - 97 : Nat) : Int)) = decide (Lt a b) := by
          rw [lt_at t ga gb cd]
          have := (low_128 ha).2
          have := (low_128 hb).2
          apply decide_eq_decide.mpr
          omega
        show Q (V.bl (decide (((c - 97 : Nat) : Int) < ((d - 97 : Nat) : Int)))) H'
        rw [e]
        exact q
      · have cd : c = d := by
          refine Classical.byContradiction fun n => eq ?_
          rw [decide_eq_false (fun e : V.str ⟨#[c]⟩ = V.str ⟨#[d]⟩ => n (by simpa using e))]
          rfl
        subst cd
        refine ⟨_, rfl, rfl, ?_⟩
        rw [List.take_add_one, List.take_add_one, ga, gb, t]
    · rintro σ H' ⟨y, rfl, rfl, t⟩
      rw [em, Int.toNat_natCast, ← ea, ← eb] at t
      refine ⟨_, rfl, _, a.length, rfl, ⟨fits a8, rfl⟩, _, rfl, _, b.length, rfl, ⟨fits b8, rfl⟩, _, _, rfl, rfl, ?_⟩
      have e : decide ((a.length : Int) < (b.length : Int)) = decide (Lt a b) := by
        rw [lt_end t, ea, eb]
        apply decide_eq_decide.mpr
        omega
      show Q (V.bl (decide ((a.length : Int) < (b.length : Int)))) H'
      rw [e]
      exact q
end
end K01
set_option Elab.async false
set_option linter.all false
set_option autoImplicit false
set_option maxRecDepth 100000
set_option maxHeartbeats 4000000
namespace K01
open PySem PySem.Spec PyProof.Rows L2 Vb Wd Ts
abbrev nam (y : Str) : Bool := isNam (.str y)
/-- a text as the laws make it -/
def Fine (y : Str) : Prop := y.length ≤ 1000 ∧ Asc y
theorem asc_app : ∀ (l : List Str) (x y : Str), asc (l ++ [x, y]) = (asc (l ++ [x]) && decide (Lt x y))
  | [], x, y => by show (decide (Lt x y) && true) = (true && decide (Lt x y)); rw [Bool.and_true, Bool.true_and]
  | [a], x, y => by
    show (decide (Lt a x) && (decide (Lt x y) && true)) = ((decide (Lt a x) && true) && decide (Lt x y))
    rw [Bool.and_true, Bool.and_true]
  | a :: b :: l, x, y => by
    show (decide (Lt a b) && asc (b :: l ++ [x, y])) = ((decide (Lt a b) && asc (b :: l ++ [x])) && decide (Lt x y))
    rw [asc_app (b :: l) x y, Bool.and_assoc]
theorem asc_next {ys : List Str} {i : Nat} {x y : Str} (hx : ys[i]? = some x) (hy : ys[i + 1]? = some y) : asc (ys.take (i + 2)) = (asc (ys.take (i + 1)) && decide (Lt x y)) := by
  have e1 : ys.take (i + 1) = ys.take i ++ [x] := by rw [List.take_add_one, hx]; rfl
  have e2 : ys.take (i + 2) = ys.take i ++ [x, y] := by
    rw [List.take_add_one, hy, e1]
    simp
  rw [e1, e2, asc_app]
theorem dp_ints {K : PySem.W.Frag} {H : Hp} : ∀ l : List Int, DpAll K H (l.map V.int) (l.map PyData.int)
  | [] => .nil
  | y :: l => .cons (.int y) (dp_ints l)
theorem shaped_ints (l : List Int) : SeqAt.shaped (.list (l.map PyData.int)) = true := by
  have h : PyData.canLayAll0 (l.map PyData.int) = true ∧ PyData.depthAll (l.map PyData.int) = 0 := by
    induction l with
    | nil => exact ⟨rfl, rfl⟩
    | cons y l ih =>
      constructor
      · show (true && PyData.canLayAll0 (l.map PyData.int)) = true
        rw [ih.1]
        rfl
      · show max 0 (PyData.depthAll (l.map PyData.int)) = 0
        rw [ih.2]
        rfl
  show (PyData.canLay0 (.list (l.map PyData.int)) && decide (PyData.depth (.list (l.map PyData.int)) ≤ 64)) = true
  rw [show PyData.canLay0 (.list (l.map PyData.int)) = true from h.1, Bool.true_and]
  exact decide_eq_true (by show PyData.depthAll _ + 1 ≤ 64; rw [h.2]; decide)
theorem same_put {H H' : Hp} {D : Addr} {o : HO} (nD : H D = none) (s : Same H H') : Same H (upd H' D o) := fun b x e => by
  rw [upd_ne (ne_of_none e nD)]
  exact s b x e
section
variable {P : Program} {w : World} {K : PySem.W.Frag} {mg : Str → Option Value} {base : Heap}
def spDue : Sp := fun vs H Q _ => ∃ a ys, vs = [.ref a] ∧ H a = some (.tup (ys.map V.str)) ∧ (∀ y ∈ ys, Fine y) ∧ ys.length ≤ 63 ∧ ∀ H', Same H H' → Q (.bl (ys.all nam && asc ys)) H'
theorem ok_l_due (D : Df K mg "_law_due" s_l_due ["_law_words"]) (G_l_is_name : Cg P w K mg base 1 "_law_is_name" spNam) (G_l_before : Cg P w K mg base 1 "_law_before" spBefore) (z_len : mg "len" = none) (z_range : mg "range" = none) : Cg P w K mg base 2 "_law_due" spDue := by
  refine D.ok sc_l_due (fun vs H Q E h => ?_) (fun cdv A outer s H vs Q E f hc hr h => ?_)
  · obtain ⟨a, ys, rfl, _⟩ := h
    rfl
  · obtain ⟨a, ys, rfl, ha, fy, hl, q⟩ := h
    refine ⟨_, (pss_cons (ps_if (pt_cmpR (op_neD hr.units) (pe_lc (own := [("_law_word_here", 1)]) (g := gName 1) (by rfl) sc_l_due.nd (pi_tup (pv 0)) (blkOk_by (own := [("_law_word_here", 1)]) (N := ["_law_words", "_law_word_here", "_law_at"]) (sc := defScope s_l_due) (by decide +kernel)) (fun _ _ _ _ _ => pg_name (i := 1) sc_l_due.nd rfl (Or.inl rfl)) (fun _ _ _ _ _ => (pts_one (pt_not (pt_val (pe_cg G_l_is_name hc hr (by rfl) (pa_cons (pv 1) pa_nil)))))) (fun _ _ _ _ _ => (pv 1))) (pe_lst pa_nil) (nomark _))
      (pss_one (ps_ret pe_bl))
      pss_nil)
      (pss_one (ps_ret (pe_cmpR (op_eqD hr.units) (pe_lc (own := [("_law_at", 2)]) (g := gName 2) (by rfl) sc_l_due.nd (pi_range2 (by rfl) z_range (pa_cons pe_int (pa_cons (pe_callB call_len_seq (by rfl) z_len PySem.boot_len (pa_cons (pv 0) pa_nil)) pa_nil))) (blkOk_by (own := [("_law_at", 2)]) (N := ["_law_words", "_law_word_here", "_law_at"]) (sc := defScope s_l_due) (by decide +kernel)) (fun _ _ _ _ _ => pg_name (i := 2) sc_l_due.nd rfl (Or.inl rfl)) (fun _ _ _ _ _ => (pts_one (pt_not (pt_val (pe_cg G_l_before hc hr (by rfl) (pa_cons (pe_ix (ix_tup : IxR _ (rIxT K)) (pv 0) (pe_op op_sub (pv 2) pe_int) (fun _ _ => rfl)) (pa_cons (pe_ix (ix_tup : IxR _ (rIxT K)) (pv 0) (pv 2) (fun _ _ => rfl)) pa_nil))))))) (fun _ _ _ _ _ => (pv 2))) (pe_lst pa_nil) (nomark _))))), ?_⟩
    have room : ∀ {n : Nat}, n ≤ 63 → n < sizeLine := fun h => Nat.lt_of_le_of_lt h (by decide)
    have hT : ∀ {H' : Hp}, Same H H' → SqT K H' a (ys.map V.str) := fun s => .inl (.inl (s _ _ ha))
    refine ⟨_, rfl, a, rfl, ⟨_, hT (Same.refl H)⟩, fun D nD => lc_tup (K := K) (a := a) (xs := ys.map V.str) (fun i H' => Same H H' ∧ H' D = some (.lst (((ys.take i).filter fun y => !nam y).map V.str))) ⟨same_put nD (Same.refl H), by rw [upd_same]; rfl⟩ (fun i H' _ h => hT h.1) (fun i x H1 hx h => ?_) (fun H1 h => ?_)⟩
    · obtain ⟨s1, e1⟩ := h
      obtain ⟨y, hy, rfl⟩ : ∃ y, ys[i]? = some y ∧ x = V.str y := by
        rw [List.getElem?_map] at hx
        cases e : ys[i]? with
        | none => rw [e] at hx; cases hx
        | some y => rw [e] at hx; exact ⟨y, rfl, (Option.some.inj hx).symm⟩
      have fine := fy y (List.mem_of_getElem? hy)
      refine ⟨rfl, _, rfl, y, rfl, fine.1, fine.2, fun H2 s2 => ⟨_, rfl, ?_⟩⟩
      have st : ((ys.take (i + 1)).filter fun y => !nam y) = ((ys.take i).filter fun y => !nam y) ++ (if nam y = true then [] else [y]) := by
        rw [List.take_add_one, hy, List.filter_append]
        congr 1
        cases h : nam y <;> simp [h]
      cases e : isNam (V.str y) with
      | true =>
        rw [show nam y = true from e] at st
        refine iteF ⟨s1.trans s2, ?_⟩
        rw [st, s2 _ _ e1]
        simp
      | false =>
        rw [show nam y = false from e] at st
        refine iteT ⟨_, rfl, _, s2 _ _ e1, ?_, same_put nD (s1.trans s2), ?_⟩
        · rw [List.length_map]
          refine room (Nat.le_trans (List.length_filter_le _ _) ?_)
          rw [List.length_take]
          omega
        · rw [upd_same, st, List.map_append]
          rfl
    · obtain ⟨s1, e1⟩ := h
      have full : ys.take (ys.map V.str).length = ys := List.take_of_length_le (by rw [List.length_map]; exact Nat.le_refl _)
      rw [full] at e1
      refine ⟨Nat.zero_le _, fun p np => ?_⟩
      have s2 := same_new (o := .lst []) np
      have sh : ∀ y ∈ (ys.filter fun y => !nam y), Asc y := fun y hy => (fy y (List.mem_filter.mp hy).1).2
      refine ⟨.list ((ys.filter fun y => !nam y).map PyData.str), .list (([] : List Str).map PyData.str), .lst (.inl (.inl (s2 _ _ e1))) (dp_strs _), .lst (.inl (.inl upd_same)) .nil, shaped_strs sh, by decide, _, rfl, ?_⟩
      rw [eqv_list]
      have all_iff : (ys.filter fun y => !nam y) = [] ↔ ys.all nam = true := by
        rw [List.filter_eq_nil_iff, List.all_eq_true]
        constructor
        · intro h y hy
          simpa using h y hy
        · intro h y hy
          simp [h y hy]
      refine ite2 (fun ne => ?_) (fun eq => ?_)
      · have n : ¬ (ys.filter fun y => !nam y) = [] := by simpa using ne
        have f : ys.all nam = false := by
          cases h : ys.all nam with
          | false => rfl
          | true => exact absurd (all_iff.mpr h) n
        have q' := q _ (s1.trans s2)
        rw [f] at q'
        exact q'
      · have e0 : (ys.filter fun y => !nam y) = [] := by simpa using eq
        have f : ys.all nam = true := all_iff.mp e0
        have names : ∀ y ∈ ys, nam y = true := List.all_eq_true.mp f
        generalize hH2 : upd H1 p (.lst []) = H2 at s2
        have t2 : Same H H2 := s1.trans s2
        refine ⟨_, rfl, a, ys.map V.str, rfl, .inr (hT t2), 1, _, rfl, ⟨by decide, by decide, by rw [List.length_map]; omega, by rw [List.length_map]; omega⟩, fun D2 nD2 => ?_⟩
        have nH2 : H D2 = none := t2.free nD2
        refine lc_range (lo := 1) (n := (((ys.map V.str).length : Int) - 1).toNat) (fun i H' => Same H H' ∧ ∃ l : List Int, H' D2 = some (.lst (l.map V.int)) ∧ (l = [] ↔ asc (ys.take (i + 1)) = true) ∧ l.length ≤ i) ⟨same_put nH2 t2, [], upd_same, ⟨fun _ => ?_, fun _ => rfl⟩, Nat.zero_le _⟩ (fun i H' hi h => ?_) (fun H' h => ?_)
        · cases ys with
          | nil => rfl
          | cons y r => rfl
        · obtain ⟨s3, l, e3, hl3, hn3⟩ := h
          rw [List.length_map] at hi
          have i0 : i < ys.length := by omega
          have i1 : i + 1 < ys.length := by omega
          have g0 := List.getElem?_eq_getElem i0
          have g1 := List.getElem?_eq_getElem i1
          have m0 := names _ (List.getElem_mem i0)
          have m1 := names _ (List.getElem_mem i1)
          generalize ys[i] = x at g0 m0
          generalize ys[i + 1] = y at g1 m1
          have a0 : atI (ys.map V.str) (1 + (i : Int) - 1) = some (.str x) := at_of (j := i) (by omega) (by rw [List.getElem?_map, g0]; rfl)
          have a1 : atI (ys.map V.str) (1 + (i : Int)) = some (.str y) := at_of (j := i + 1) (by omega) (by rw [List.getElem?_map, g1]; rfl)
          refine ⟨rfl, _, rfl, _, rfl, _, _, rfl, rfl, a, _, _, _, rfl, rfl, hT s3, a0, _, rfl, _, rfl, a, _, _, _, rfl, rfl, hT s3, a1, x, y, rfl, m0, m1, _, rfl, ?_⟩
          have st := asc_next g0 g1
          cases e : decide (Lt x y) with
          | true =>
            rw [e, Bool.and_true] at st
            exact iteF ⟨s3, l, e3, by rw [st]; exact hl3, by omega⟩
          | false =>
            rw [e, Bool.and_false] at st
            refine iteT ⟨_, rfl, _, e3, ?_, same_put nH2 s3, l ++ [1 + (i : Int)], ?_, ?_, ?_⟩
            · rw [List.length_map]
              exact room (by omega)
            · rw [upd_same, List.map_append]
              rfl
            · rw [st]
              simp
            · rw [List.length_append, List.length_singleton]
              omega
        · obtain ⟨s3, l, e3, hl3, hn3⟩ := h
          refine ⟨Nat.zero_le _, fun p2 np2 => ?_⟩
          have s4 := same_new (o := .lst []) np2
          refine ⟨.list (l.map PyData.int), .list [], .lst (.inl (.inl (s4 _ _ e3))) (dp_ints l), .lst (.inl (.inl upd_same)) .nil, shaped_ints l, by decide, ?_⟩
          have ev : PyData.eqv (.list (l.map PyData.int)) (.list []) = asc ys := by
            have whole : ys.take ((((ys.map V.str).length : Int) - 1).toNat + 1) = ys := List.take_of_length_le (by rw [List.length_map]; omega)
            rw [whole] at hl3
            cases l with
            | nil => rw [hl3.mp rfl]; rfl
            | cons z r =>
              cases h : asc ys with
              | true => exact nomatch hl3.mpr h
              | false => rfl
          have q' := q _ (s3.trans s4)
          rw [f, Bool.true_and, ← ev] at q'
          exact q'
end
end K01
set_option Elab.async false
set_option linter.all false
set_option autoImplicit false
set_option maxRecDepth 100000
set_option maxHeartbeats 4000000
namespace K01
open PySem PySem.Spec PyProof.Rows L2 Vb Wd Ts
abbrev s_l_word : Stmt := topS 8
theorem sc_l_word : FnScope ["_law_dice_here", "_law_word_here", "_law_others", "_law_turn"] ["_law_dice_here"] (defScope s_l_word) := ⟨rfl, rfl, rfl, by decide +kernel, rfl, by decide +kernel, by decide +kernel⟩
abbrev s_l_tuples : Stmt := topS 12
theorem sc_l_tuples : FnScope ["_law_pool", "_law_found", "_law_one", "_law_other", "_law_word_here"] ["_law_pool"] (defScope s_l_tuples) := ⟨rfl, rfl, rfl, by decide +kernel, rfl, by decide +kernel, by decide +kernel⟩
/-- what is_names is asked of, and what it answers -/
def Asked (K : PySem.W.Frag) (H : Hp) (v : V) (b : Bool) : Prop :=
  (∃ a ys, v = .ref a ∧ H a = some (.tup (ys.map V.str)) ∧ (∀ y ∈ ys, Fine y) ∧ ys.length ≤ 63 ∧ b = (ys.all nam && asc ys)) ∨
  (∃ T, TyX K H v (.type T) ∧ kitB T "tuple" = some false ∧ b = false) ∨
  (∃ a xs, v = .ref a ∧ H a = some (.tup xs) ∧ (∀ x ∈ xs, Judged H x) ∧ xs.all isNam = false ∧ xs.length ≤ 63 ∧ b = false)
def spNames (K : PySem.W.Frag) : Sp := fun vs H Q _ => ∃ v b, vs = [v] ∧ Asked K H v b ∧ ∀ H', Same H H' → Q (.bl b) H'
theorem ki_tt : kitB "tuple" "tuple" = some true := by decide +kernel
theorem fine_judged {H : Hp} {y : Str} (h : Fine y) : Judged H (.str y) := h
section
variable {P : Program} {w : World} {K : PySem.W.Frag} {mg : Str → Option Value} {base : Heap}
theorem all_map (ys : List Str) : (ys.map V.str).all isNam = ys.all nam := by
  rw [List.all_map]
  rfl
theorem ok_is_names (D : Df K mg "is_names" s_is_names ["value"]) (G_is_name : Cg P w K mg base 1 "is_name" (spOf isNam)) (z_isinstance : mg "isinstance" = none) (z_tuple : mg "tuple" = none) (z_all : mg "all" = none) (z_list : mg "list" = none) (z_sorted : mg "sorted" = none) (z_set : mg "set" = none) :
    Cg P w K mg base 2 "is_names" (spNames K) := by
  refine D.ok sc_is_names (fun vs H Q E h => ?_) (fun cdv A outer s H vs Q E f hc hr h => ?_)
  · obtain ⟨v, b, rfl, _⟩ := h
    rfl
  · obtain ⟨v, b, rfl, ask, q⟩ := h
    refine ⟨_, (pss_cons (ps_if (PW.pt (pw_or (pt_not (pt_val (pe_callB call_isi (by rfl) z_isinstance (by decide +kernel) (pa_cons (pv 0) (pa_cons (pe_bltn (v := .ty "tuple") (by rfl) z_tuple (by decide +kernel) rfl) pa_nil)))))
        (pw_or1 (pt_not (pt_val (pe_callB (cr_all rfl) (by rfl) z_all (by decide +kernel) (pa_cons (pe_lc (own := [("word", 1)]) (g := gName 1) (by rfl) sc_is_names.nd (pi_tup (pv 0)) (blkOk_by (own := [("word", 1)]) (N := ["value", "word"]) (sc := defScope s_is_names) (by decide +kernel)) (fun _ _ _ _ _ => pg_name (i := 1) sc_is_names.nd rfl (Or.inl rfl)) (fun _ _ _ _ _ => pts_nil) (fun _ _ _ _ _ => (pe_cg G_is_name hc hr (by rfl) (pa_cons (pv 1) pa_nil)))) pa_nil)))))))
      (pss_one (ps_ret pe_bl))
      pss_nil)
      (pss_one (ps_ret (pe_cmpR (op_eqD hr.units) (pe_callTy call_list_of (by rfl) z_list (by decide +kernel) (pa_cons (pv 0) pa_nil)) (pe_callB (cr_sortTexts rfl) (by rfl) z_sorted (by decide +kernel) (pa_cons (pe_callTy (cr_setTexts rfl) (by rfl) z_set (by decide +kernel) (pa_cons (pv 0) pa_nil)) pa_nil)) (nomark _))))), ?_⟩
    -- a tuple of judged values, its names asked one by one
    have both : (∃ T, TyX K H v (.type T) ∧ kitB T "tuple" = some false ∧ b = false) ∨
        ∃ a xs, v = .ref a ∧ H a = some (.tup xs) ∧ (∀ x ∈ xs, Judged H x) ∧ xs.length ≤ 63 ∧ (xs.all isNam = false → b = false) ∧ (xs.all isNam = true → ∃ ys, xs = ys.map V.str ∧ (∀ y ∈ ys, Fine y) ∧ b = asc ys) := by
      rcases ask with ⟨a, ys, rfl, ha, fy, hl, rfl⟩ | h | ⟨a, xs, rfl, ha, hj, hF, hl, rfl⟩
      · refine .inr ⟨a, ys.map V.str, rfl, ha, fun x hx => ?_, by rw [List.length_map]; exact hl, fun f => ?_, fun t => ⟨ys, rfl, fy, ?_⟩⟩
        · obtain ⟨y, hy, rfl⟩ := List.mem_map.mp hx
          exact fine_judged (fy y hy)
        · rw [all_map] at f
          rw [f, Bool.false_and]
        · rw [all_map] at t
          rw [t, Bool.true_and]
      · exact .inl h
      · exact .inr ⟨a, xs, rfl, ha, hj, hl, fun _ => rfl, fun t => by rw [hF] at t; cases t⟩
    rcases both with ⟨T, ty, kt, rfl⟩ | ⟨a, xs, rfl, ha, hj, hl, hF, hT⟩
    · exact ⟨_, rfl, _, _, _, _, false, rfl, .ty _, ty, kit_ty kt, _, rfl, iteT (q H (Same.refl H))⟩
    have hTp : ∀ {H' : Hp}, Same H H' → SqT K H' a xs := fun s => .inl (.inl (s _ _ ha))
    refine ⟨_, rfl, _, _, _, _, true, rfl, .ty _, .base (.tup ha), kit_ty ki_tt, _, rfl, iteF ⟨_, rfl, a, rfl, ⟨_, hTp (Same.refl H)⟩, fun D nD => lc_tup (K := K) (a := a) (xs := xs) (fun i H' => Same H H' ∧ H' D = some (.lst (((xs.take i).map isNam).map V.bl))) ⟨same_put nD (Same.refl H), by rw [upd_same]; rfl⟩ (fun i H' _ h => hTp h.1) (fun i x H1 hx h => ?_) (fun H1 h => ?_)⟩⟩
    · obtain ⟨s1, e1⟩ := h
      refine ⟨rfl, _, rfl, x, rfl, (hj x (List.mem_of_getElem? hx)).same s1, fun H2 s2 => ⟨_, s2 _ _ e1, ?_, same_put nD (s1.trans s2), ?_⟩⟩
      · rw [List.length_map, List.length_map, List.length_take]
        exact Nat.lt_of_le_of_lt (Nat.le_trans (Nat.min_le_right _ _) hl) (by decide)
      · rw [upd_same, List.take_add_one, hx, List.map_append, List.map_append]
        rfl
    · obtain ⟨s1, e1⟩ := h
      rw [List.take_length] at e1
      refine ⟨D, xs.map isNam, rfl, .inl (.inl e1), _, rfl, ?_⟩
      have ea : (xs.map isNam).all id = xs.all isNam := by rw [List.all_map]; rfl
      rw [ea]
      cases e : xs.all isNam with
      | false =>
        have q' := q _ s1
        rw [hF e] at q'
        exact iteT q'
      | true =>
        obtain ⟨ys, rfl, fy, rfl⟩ := hT e
        have yl : ys.length ≤ 63 := by rw [List.length_map] at hl; exact hl
        refine iteF ⟨_, rfl, a, ys.map V.str, rfl, .inr (hTp s1), fun l nl => ?_⟩
        have s2 := same_new (o := .lst (ys.map V.str)) nl
        refine ⟨_, rfl, a, ys, rfl, .inr (hTp (s1.trans s2)), by omega, fun st c nst hc' => ?_⟩
        have s3 := same_new (o := TsO P w st (among ys ys.length) c) nst
        refine ⟨st, ys, c, rfl, upd_same, by omega, fun zs p mem srt nd _ np => ?_⟩
        have s4 := same_new (o := .lst (zs.map V.str)) np
        refine ⟨.list (ys.map PyData.str), .list (zs.map PyData.str), .lst (.inl (.inl ((s3.trans s4) _ _ upd_same))) (dp_strs ys), .lst (.inl (.inl upd_same)) (dp_strs zs), shaped_strs fun y hy => (fy y hy).2, shaped_strs fun z hz => (fy z ((mem z).mp hz)).2, ?_⟩
        rw [eqv_list, eq_sorted mem srt nd]
        exact q _ (((s1.trans s2).trans s3).trans s4)
def spWord : Sp := fun vs H Q _ => ∃ d, vs = [.ref d] ∧ Dice H d ∧ ∀ z H', Past d H H' → Fine z → z.length ≤ 30 → Q (.str z) H'
theorem ok_l_word (D : Df K mg "_law_word" s_l_word ["_law_dice_here"]) (G_l_roll : Cg P w K mg base 1 "_law_roll" spRoll) (G_l_pick : Cg P w K mg base 2 "_law_pick" (spPick K)) (z_range : mg "range" = none) : Cg P w K mg base 3 "_law_word" spWord := by
  refine D.ok sc_l_word (fun vs H Q E h => ?_) (fun cdv A outer s H vs Q E f hc hr h => ?_)
  · obtain ⟨d, rfl, _⟩ := h
    rfl
  · obtain ⟨d, rfl, hd, q⟩ := h
    refine ⟨_, (pss_cons (ps_set (i := 1) sc_l_word.nd rfl (Or.inl rfl) (pe_join pe_str (pe_lc (own := [("_law_turn", 3)]) (g := gName 3) (by rfl) sc_l_word.nd (pi_range1 (by rfl) z_range (pa_cons (pe_op op_add pe_int (pe_cg G_l_roll hc hr (by rfl) (pa_cons (pv 0) (pa_cons pe_int pa_nil)))) pa_nil)) (blkOk_by (own := [("_law_turn", 3)]) (N := ["_law_dice_here", "_law_word_here", "_law_others", "_law_turn"]) (sc := defScope s_l_word) (by decide +kernel)) (fun _ _ _ _ _ => pg_name (i := 3) sc_l_word.nd rfl (Or.inl rfl)) (fun _ _ _ _ _ => pts_nil) (fun _ _ _ _ _ => (pe_cg G_l_pick hc hr (by rfl) (pa_cons (pv 0) (pa_cons pe_str pa_nil)))))))
      (pss_cons (ps_set (i := 2) sc_l_word.nd rfl (Or.inl rfl) (pe_lst (pa_cons (pe_op op_add_str (pv 1) pe_str) (pa_cons (pe_op op_add_str (pv 1) pe_str) (pa_cons pe_str (pa_cons (pe_op op_add_str pe_str (pv 1)) (pa_cons (pe_op op_add_str (pv 1) pe_str) pa_nil)))))))
      (pss_one (ps_ret (pe_cg G_l_pick hc hr (by rfl) (pa_cons (pv 0) (pa_cons (pe_op op_cat (pe_op op_rep (pe_lst (pa_cons (pv 1) pa_nil)) pe_int) (pv 2)) pa_nil))))))), ?_⟩
    refine ⟨⟨_, rfl⟩, _, rfl, d, 3, rfl, hd, by decide, by decide +kernel, fun r H1 p1 r0 r1 => ⟨_, _, rfl, rfl, 1 + r, rfl, by omega, by omega, fun p np => ?_⟩⟩
    have pd : p ≠ d := p1.dice.ne np
    refine lc_range (lo := 0) (n := (1 + r).toNat) (fun i H' => Past d H H' ∧ ∃ ys : List Str, H' p = some (.lst (ys.map V.str)) ∧ ys.length = i ∧ ∀ y ∈ ys, y.length = 1 ∧ Asc y) ⟨p1.trans (Past.new p1.dice np), [], upd_same, rfl, nofun⟩ (fun i H' hi ⟨pH, ys, hp, hl, h1⟩ => ?_) (fun H' ⟨pH, ys, hp, hl, h1⟩ => ?_)
    · refine ⟨rfl, ?_⟩
      refine ⟨_, rfl, d, _, (fun v => ∃ y : Str, v = V.str y ∧ y.length = 1 ∧ Asc y), rfl, pH.dice, .inr ⟨"aabbyz", rfl, by decide +kernel, by decide +kernel, fun c h => ⟨_, rfl, rfl, asc_one (asc_lit (by decide +kernel)) h⟩⟩, fun v H3 p3 hv => ?_⟩
      obtain ⟨y, rfl, hy⟩ := hv
      refine ⟨ys.map V.str, p3.keep pd hp, ?_, ?_, ys ++ [y], ?_, ?_, ?_⟩
      · rw [List.length_map, hl]
        exact Nat.lt_of_lt_of_le (show i < 10 by omega) (by decide)
      · have pp := pH.trans p3
        refine ⟨fun b o n e => ?_, ?_⟩
        · have bp : b ≠ p := ne_of_none (p1.1 b o n e) np
          rw [upd_ne bp]
          exact pp.1 b o n e
        · obtain ⟨g, s, c, e⟩ := pp.dice
          exact ⟨g, s, c, by rw [upd_ne pd.symm]; exact e⟩
      · rw [upd_same, List.map_append]
        rfl
      · rw [List.length_append, hl]
        rfl
      · intro z hz
        rcases List.mem_append.mp hz with hz | hz
        · exact h1 z hz
        · rw [List.mem_singleton.mp hz]
          exact hy
    · refine ⟨_, p, ys, rfl, rfl, .inl (.inl (.inl hp)), ?_, ?_⟩
      · rw [sum_ones (fun y hy => (h1 y hy).1), hl]
        show (1 + r).toNat + ys.length * 0 ≤ 16777216
        omega
      have wl : (Txt.join (Str.ofString "") ys).length = (1 + r).toNat := (PySem.W.KT.join_ones ys fun y hy => (h1 y hy).1).trans hl
      have aw : Asc (Txt.join (Str.ofString "") ys) := asc_join fun y hy => (h1 y hy).2
      generalize Txt.join (Str.ofString "") ys = word at wl aw ⊢
      have w3 : word.length ≤ 3 := by omega
      have small : ∀ {n : Nat}, n ≤ 100 → n ≤ sizeLine := fun h => Nat.le_trans h (by decide)
      have l7 : ("ccccccc" : Str).length = 7 := by decide +kernel
      have l1 : ("A" : Str).length = 1 := by decide +kernel
      have l0 : ("0" : Str).length = 1 := by decide +kernel
      have l_ : ("_" : Str).length = 1 := by decide +kernel
      refine ⟨_, rfl, _, _, rfl, rfl, small (by rw [l7]; omega), _, rfl, _, _, rfl, rfl, small (by rw [l1]; omega), _, rfl, _, _, rfl, rfl, small (by rw [l0]; omega), _, rfl, _, _, rfl, rfl, small (by rw [l_]; omega), by show 5 ≤ sizeLine; decide, fun p2 n2 => ?_⟩
      have o2 := Past.new (o := .lst [V.str (word ++ "ccccccc"), .str (word ++ "A"), .str "", .str ("0" ++ word), .str (word ++ "_")]) pH.dice n2
      refine ⟨_, rfl, _, rfl, by show 1 ≤ sizeLine; decide, fun p3 n3 => ?_⟩
      have o3 := Past.new (o := .lst [V.str word]) o2.dice n3
      have n32 : p2 ≠ p3 := ne_of_none upd_same n3
      refine ⟨p3, 7, _, rfl, rfl, upd_same, by decide, by decide, by show 1 * 7 ≤ sizeLine; decide, fun p4 n4 => ?_⟩
      have o4 := Past.new (o := .lst (List.replicate (7 : Int).toNat [V.str word]).flatten) o3.dice n4
      have n42 : p2 ≠ p4 := fun e => by
        rw [← e, upd_ne n32, upd_same] at n4
        cases n4
      refine ⟨_, rfl, p4, p2, _, _, rfl, rfl, upd_same, (by rw [upd_ne n42, upd_ne n32, upd_same]), by show 7 + 5 ≤ sizeLine; decide, fun p5 n5 => ?_⟩
      have o5 := Past.new (o := .lst ((List.replicate (7 : Int).toNat [V.str word]).flatten ++ [V.str (word ++ "ccccccc"), .str (word ++ "A"), .str "", .str ("0" ++ word), .str (word ++ "_")])) o4.dice n5
      have a7 : Asc "ccccccc" := asc_lit (by decide +kernel)
      have a1 : Asc "A" := asc_lit (by decide +kernel)
      have a0 : Asc "0" := asc_lit (by decide +kernel)
      have a_ : Asc "_" := asc_lit (by decide +kernel)
      have ae : Asc "" := asc_lit (by decide +kernel)
      refine ⟨d, _, (fun v => ∃ z, v = V.str z ∧ Fine z ∧ z.length ≤ 30), rfl, o5.dice, .inl ⟨p5, _, rfl, o4.dice.ne n5, .inl (.inl (.inl upd_same)), by simp, by show 12 ≤ 1000000; decide, fun v hv => ?_⟩, fun v H6 p6 hv => ?_⟩
      · have len : ∀ {x y : Str} {k : Nat}, x.length + y.length ≤ k → (x ++ y).length ≤ k := fun {x y k} h => by rw [strLen_append]; exact h
        rcases List.mem_append.mp hv with hv | hv
        · obtain ⟨l, hl, hv⟩ := List.mem_flatten.mp hv
          rw [(List.mem_replicate.mp hl).2] at hv
          exact ⟨word, List.mem_singleton.mp hv, ⟨by omega, aw⟩, by omega⟩
        · simp only [List.mem_cons, List.not_mem_nil, or_false] at hv
          rcases hv with rfl | rfl | rfl | rfl | rfl
          · exact ⟨_, rfl, ⟨len (by rw [l7]; omega), Wd.asc_app aw a7⟩, len (by rw [l7]; omega)⟩
          · exact ⟨_, rfl, ⟨len (by rw [l1]; omega), Wd.asc_app aw a1⟩, len (by rw [l1]; omega)⟩
          · exact ⟨_, rfl, ⟨by decide +kernel, ae⟩, by decide +kernel⟩
          · exact ⟨_, rfl, ⟨len (by rw [l0]; omega), Wd.asc_app a0 aw⟩, len (by rw [l0]; omega)⟩
          · exact ⟨_, rfl, ⟨len (by rw [l_]; omega), Wd.asc_app aw a_⟩, len (by rw [l_]; omega)⟩
      · obtain ⟨z, rfl, fz, lz⟩ := hv
        exact q z H6 (((((pH.trans o2).trans o3).trans o4).trans o5).trans p6) fz lz
end
end K01
set_option Elab.async false
set_option linter.all false
set_option autoImplicit false
set_option maxRecDepth 100000
set_option maxHeartbeats 4000000
namespace K01
open PySem PySem.Spec PyProof.Rows L2 Vb Wd Ts
/-- a tuple of few texts -/
def Tup1 (H : Hp) (x : V) : Prop := ∃ (t : Addr) (ys : List Str), x = V.ref t ∧ H t = some (.tup (ys.map V.str)) ∧ (∀ y ∈ ys, Fine y) ∧ ys.length ≤ 63
theorem Tup1.same {H H' : Hp} {x : V} (h : Tup1 H x) (s : Same H H') : Tup1 H' x := by
  obtain ⟨t, ys, e, h1, h2, h3⟩ := h
  exact ⟨t, ys, e, s _ _ h1, h2, h3⟩
theorem Tup1.put {H : Hp} {F : Addr} {zs : List V} {o : HO} {x : V} (h : Tup1 H x) (f : H F = some (.lst zs)) : Tup1 (upd H F o) x := by
  obtain ⟨t, ys, e, h1, h2, h3⟩ := h
  have n : t ≠ F := ne_of h1 f (by intro z; cases z)
  exact ⟨t, ys, e, by rw [upd_ne n]; exact h1, h2, h3⟩
section
variable {P : Program} {w : World} {K : PySem.W.Frag} {mg : Str → Option Value} {base : Heap}
def spTuples : Sp := fun vs H Q _ => ∃ (l : Addr) (ws : List Str), vs = [.ref l] ∧ H l = some (.lst (ws.map V.str)) ∧ ws.length ≤ 4 ∧ (∀ y ∈ ws, Fine y) ∧
  ∀ (H' : Hp) (F : Addr) (xs : List V), Same H H' → H F = none → H' F = some (.lst xs) → xs.length ≤ 1000 → (∀ x ∈ xs, Tup1 H' x) → Q (.ref F) H'
/-- a comprehension that makes tuples, item by item -/
theorem str_at {ws : List Str} {i : Nat} {x : V} (h : (ws.map V.str)[i]? = some x) : ∃ y, ws[i]? = some y ∧ x = V.str y := by
  rw [List.getElem?_map] at h
  cases e : ws[i]? with
  | none => rw [e] at h; cases h
  | some y => rw [e] at h; exact ⟨y, rfl, (Option.some.inj h).symm⟩
theorem ok_l_tuples (D : Df K mg "_law_tuples" s_l_tuples ["_law_pool"]) : Cg P w K mg base 1 "_law_tuples" spTuples := by
  refine D.ok sc_l_tuples (fun vs H Q E h => ?_) (fun cdv A outer s H vs Q E f hc hr h => ?_)
  · obtain ⟨l, ws, rfl, _⟩ := h
    rfl
  · obtain ⟨l, ws, rfl, hl, h4, fw, q⟩ := h
    refine ⟨_, (pss_cons (ps_set (i := 1) sc_l_tuples.nd rfl (Or.inl rfl) (pe_op op_cat (pe_lst (pa_cons (pe_tup pa_nil) pa_nil)) (pe_lc (own := [("_law_word_here", 4)]) (g := gName 4) (by rfl) sc_l_tuples.nd (pi_list (pv 0)) (blkOk_by (own := [("_law_word_here", 4)]) (N := ["_law_pool", "_law_found", "_law_one", "_law_other", "_law_word_here"]) (sc := defScope s_l_tuples) (by decide +kernel)) (fun _ _ _ _ _ => pg_name (i := 4) sc_l_tuples.nd rfl (Or.inl rfl)) (fun _ _ _ _ _ => pts_nil) (fun _ _ _ _ _ => (pe_tup (pa_cons (pv 4) pa_nil))))))
      (pss_cons (ps_for PassesOwn.never rfl (pi_list (pv 0)) (pg_name (i := 2) sc_l_tuples.nd rfl (Or.inr rfl))
      (pss_cons (ps_expr (pe_bm PySem.F.plainAttrs_list PySem.F.slot_list_extend PySem.F.type_list_extend mt_extend (pv 1) (pa_cons (pe_lc (own := [("_law_other", 3)]) (g := gName 3) (by rfl) sc_l_tuples.nd (pi_list (pv 0)) (blkOk_by (own := [("_law_other", 3)]) (N := ["_law_pool", "_law_found", "_law_one", "_law_other", "_law_word_here"]) (sc := defScope s_l_tuples) (by decide +kernel)) (fun _ _ _ _ _ => pg_name (i := 3) sc_l_tuples.nd rfl (Or.inl rfl)) (fun _ _ _ _ _ => pts_nil) (fun _ _ _ _ _ => (pe_tup (pa_cons (pv 2) (pa_cons (pv 3) pa_nil))))) pa_nil)))
      (pss_one (ps_for PassesOwn.never rfl (pi_list (pv 0)) (pg_name (i := 3) sc_l_tuples.nd rfl (Or.inr rfl))
      (pss_one (ps_expr (pe_bm PySem.F.plainAttrs_list PySem.F.slot_list_extend PySem.F.type_list_extend mt_extend (pv 1) (pa_cons (pe_lc (own := [("_law_word_here", 4)]) (g := gName 4) (by rfl) sc_l_tuples.nd (pi_list (pv 0)) (blkOk_by (own := [("_law_word_here", 4)]) (N := ["_law_pool", "_law_found", "_law_one", "_law_other", "_law_word_here"]) (sc := defScope s_l_tuples) (by decide +kernel)) (fun _ _ _ _ _ => pg_name (i := 4) sc_l_tuples.nd rfl (Or.inl rfl)) (fun _ _ _ _ _ => pts_nil) (fun _ _ _ _ _ => (pe_tup (pa_cons (pv 2) (pa_cons (pv 3) (pa_cons (pv 4) pa_nil)))))) pa_nil))))))))
      (pss_one (ps_ret (pv 1))))), ?_⟩
    have hS : ∀ {H' : Hp}, Same H H' → SqL K H' l (ws.map V.str) := fun s => .inl (.inl (s _ _ hl))
    have fine : ∀ {i y}, ws[i]? = some y → Fine y := fun h => fw _ (List.mem_of_getElem? h)
    have room : ∀ {n : Nat}, n ≤ 1000 → n < sizeLine := fun h => Nat.lt_of_le_of_lt h (by decide)
    -- one more tuple at the end of the list at D, seen from H0
    have more : ∀ {H0 H1 : Hp} {D T : Addr} {acc : List V} {ys : List Str}, H0 D = none → Same H0 H1 → H1 D = some (.lst acc) → (∀ x ∈ acc, Tup1 H1 x) → H1 T = none → (∀ y ∈ ys, Fine y) → ys.length ≤ 63 →
        Same H0 (upd (upd H1 T (.tup (ys.map V.str))) D (.lst (acc ++ [V.ref T]))) ∧ ∀ x ∈ acc ++ [V.ref T], Tup1 (upd (upd H1 T (.tup (ys.map V.str))) D (.lst (acc ++ [V.ref T]))) x := fun {H0 H1 D T acc ys} nD s0 eD ha nT fy ly => by
      have sT := same_new (o := .tup (ys.map V.str)) nT
      have eD' := sT _ _ eD
      refine ⟨same_put nD (s0.trans sT), fun x hx => ?_⟩
      rcases List.mem_append.mp hx with hx | hx
      · exact ((ha x hx).same sT).put eD'
      · rw [List.mem_singleton.mp hx]
        exact Tup1.put ⟨T, ys, rfl, upd_same, fy, ly⟩ eD'
    refine ⟨by show 0 ≤ sizeLine; decide, fun p0 n0 => ⟨by show 1 ≤ sizeLine; decide, fun l1 n1 => ?_⟩⟩
    have s0 := same_new (o := .tup []) n0
    have s1 := same_new (o := .lst [V.ref p0]) n1
    have t1 := s0.trans s1
    refine ⟨_, rfl, l, rfl, ⟨_, hS t1⟩, fun D nD => lc_list (K := K) (a := l) (xs := ws.map V.str) (fun i H' => Same (upd (upd H p0 (.tup [])) l1 (.lst [V.ref p0])) H' ∧ ∃ acc, H' D = some (.lst acc) ∧ acc.length = i ∧ ∀ x ∈ acc, Tup1 H' x) ⟨same_put nD (Same.refl _), [], upd_same, rfl, nofun⟩ (fun i H' _ h => hS (t1.trans h.1)) (fun i x H' hx h => ?_) (fun H' h => ?_)⟩
    · obtain ⟨s2, acc, eD, la, ha⟩ := h
      obtain ⟨y, hy, rfl⟩ := str_at hx
      have il : i < ws.length := (List.getElem?_eq_some_iff.mp hy).1
      refine ⟨rfl, _, rfl, by show 1 ≤ sizeLine; decide, fun T nT => ?_⟩
      have m := more (ys := [y]) nD s2 eD ha nT (fun z hz => by rw [List.mem_singleton.mp hz]; exact fine hy) (by show 1 ≤ 63; decide)
      refine ⟨acc, ?_, room (by omega), m.1, _, upd_same, ?_, m.2⟩
      · exact same_new (o := .tup [V.str y]) nT _ _ eD
      · rw [List.length_append, la]
        rfl
    · obtain ⟨s2, acc, eD, la, ha⟩ := h
      rw [List.length_map] at la
      refine ⟨l1, D, [V.ref p0], acc, rfl, rfl, s2 _ _ upd_same, eD, by show 1 + acc.length ≤ sizeLine; exact Nat.le_of_lt (room (by omega)), fun F nF => ?_⟩
      have s3 := same_new (o := .lst ([V.ref p0] ++ acc)) nF
      have t2 := t1.trans s2
      have nFH : H F = none := t2.free nF
      have start0 : ∀ x ∈ [V.ref p0] ++ acc, Tup1 (upd H' F (.lst ([V.ref p0] ++ acc))) x := fun x hx => by
        rcases List.mem_append.mp hx with hx | hx
        · rw [List.mem_singleton.mp hx]
          exact ⟨p0, [], rfl, s3 _ _ (s2 _ _ (s1 _ _ upd_same)), nofun, by decide⟩
        · exact (ha x hx).same s3
      refine ⟨_, rfl, l, rfl, ⟨_, hS (t2.trans s3)⟩, for_list (K := K) (a := l) (xs := ws.map V.str) (fun i σ H' => ∃ y2 y3 y4, σ = [some (.ref l), some (.ref F), y2, y3, y4] ∧ Same H H' ∧ ∃ xs, H' F = some (.lst xs) ∧ xs.length ≤ 5 + i * 20 ∧ ∀ x ∈ xs, Tup1 H' x)
        ⟨none, none, none, rfl, t2.trans s3, _, upd_same, by rw [List.length_append, List.length_singleton]; omega, start0⟩ (fun i σ H' _ ⟨_, _, _, _, s, _⟩ => hS s) ?_ ?_⟩
      · rintro i x σ H1 hx ⟨y2, y3, y4, rfl, sA, xs, eF, lx, hx1⟩
        obtain ⟨y, hy, rfl⟩ := str_at hx
        have il : i < ws.length := (List.getElem?_eq_some_iff.mp hy).1
        have fy := fine hy
        refine ⟨_, rfl, .inl ⟨rfl, _, .inl (.inl eF)⟩, ?_⟩
        refine ⟨_, rfl, l, rfl, ⟨_, hS sA⟩, fun D2 nD2 => lc_list (K := K) (a := l) (xs := ws.map V.str) (fun i H' => Same H1 H' ∧ ∃ acc, H' D2 = some (.lst acc) ∧ acc.length = i ∧ ∀ x ∈ acc, Tup1 H' x) ⟨same_put nD2 (Same.refl _), [], upd_same, rfl, nofun⟩ (fun i H' _ h => hS (sA.trans h.1)) (fun j z H' hz h => ?_) (fun H' h => ?_)⟩
        · obtain ⟨s2, acc, eD, la, ha⟩ := h
          obtain ⟨z, hz', rfl⟩ := str_at hz
          have jl : j < ws.length := (List.getElem?_eq_some_iff.mp hz').1
          refine ⟨rfl, _, rfl, _, rfl, by show 2 ≤ sizeLine; decide, fun T nT => ?_⟩
          have m := more (ys := [y, z]) nD2 s2 eD ha nT (fun u hu => by
            simp only [List.mem_cons, List.not_mem_nil, or_false] at hu
            rcases hu with rfl | rfl
            · exact fy
            · exact fine hz') (by show 2 ≤ 63; decide)
          refine ⟨acc, same_new (o := .tup [V.str y, V.str z]) nT _ _ eD, room (by omega), m.1, _, upd_same, ?_, m.2⟩
          rw [List.length_append, la]
          rfl
        · obtain ⟨s2, acc, eD, la, ha⟩ := h
          rw [List.length_map] at la
          have eF2 := s2 _ _ eF
          refine ⟨F, D2, xs, acc, rfl, rfl, eF2, eD, Nat.le_of_lt (room (by omega)), ?_⟩
          have allx : ∀ x ∈ xs ++ acc, Tup1 (upd H' F (.lst (xs ++ acc))) x := fun x hx => by
            rcases List.mem_append.mp hx with hx | hx
            · exact ((hx1 x hx).same s2).put eF2
            · exact (ha x hx).put eF2
          have sB : Same H (upd H' F (.lst (xs ++ acc))) := same_put nFH (sA.trans s2)
          -- the inner loop
          refine ⟨_, rfl, l, rfl, ⟨_, hS sB⟩, for_list (K := K) (a := l) (xs := ws.map V.str) (fun j σ H' => ∃ y3 y4, σ = [some (.ref l), some (.ref F), some (.str y), y3, y4] ∧ Same H H' ∧ ∃ xs, H' F = some (.lst xs) ∧ xs.length ≤ 5 + i * 20 + 4 + j * 4 ∧ ∀ x ∈ xs, Tup1 H' x)
            ⟨y3, y4, rfl, sB, _, upd_same, by rw [List.length_append]; omega, allx⟩ (fun i σ H' _ ⟨_, _, _, s, _⟩ => hS s) ?_ ?_⟩
          · rintro j x σ H3 hx3 ⟨y3', y4', rfl, sC, xs3, eF3, lx3, hx3'⟩
            obtain ⟨o, ho, rfl⟩ := str_at hx3
            have jl : j < ws.length := (List.getElem?_eq_some_iff.mp ho).1
            have fo := fine ho
            refine ⟨_, rfl, .inl ⟨rfl, _, .inl (.inl eF3)⟩, ?_⟩
            refine ⟨_, rfl, l, rfl, ⟨_, hS sC⟩, fun D3 nD3 => lc_list (K := K) (a := l) (xs := ws.map V.str) (fun i H' => Same H3 H' ∧ ∃ acc, H' D3 = some (.lst acc) ∧ acc.length = i ∧ ∀ x ∈ acc, Tup1 H' x) ⟨same_put nD3 (Same.refl _), [], upd_same, rfl, nofun⟩ (fun i H' _ h => hS (sC.trans h.1)) (fun k z H' hz h => ?_) (fun H' h => ?_)⟩
            · obtain ⟨s4, acc, eD, la, ha⟩ := h
              obtain ⟨z, hz', rfl⟩ := str_at hz
              have kl : k < ws.length := (List.getElem?_eq_some_iff.mp hz').1
              refine ⟨rfl, _, rfl, _, rfl, _, rfl, by show 3 ≤ sizeLine; decide, fun T nT => ?_⟩
              have m := more (ys := [y, o, z]) nD3 s4 eD ha nT (fun u hu => by
                simp only [List.mem_cons, List.not_mem_nil, or_false] at hu
                rcases hu with rfl | rfl | rfl
                · exact fy
                · exact fo
                · exact fine hz') (by show 3 ≤ 63; decide)
              refine ⟨acc, same_new (o := .tup [V.str y, V.str o, V.str z]) nT _ _ eD, room (by omega), m.1, _, upd_same, ?_, m.2⟩
              rw [List.length_append, la]
              rfl
            · obtain ⟨s4, acc, eD, la, ha⟩ := h
              rw [List.length_map] at la
              have eF4 := s4 _ _ eF3
              refine ⟨F, D3, xs3, acc, rfl, rfl, eF4, eD, Nat.le_of_lt (room (by omega)), ?_⟩
              refine ⟨some (.str o), y4', rfl, same_put nFH (sC.trans s4), _, upd_same, by rw [List.length_append]; omega, fun x hx => ?_⟩
              rcases List.mem_append.mp hx with hx | hx
              · exact ((hx3' x hx).same s4).put eF4
              · exact (ha x hx).put eF4
          · rintro σ H3 ⟨y3', y4', rfl, sC, xs3, eF3, lx3, hx3'⟩
            rw [List.length_map] at lx3
            exact ⟨_, _, _, rfl, sC, xs3, eF3, by omega, hx3'⟩
      · rintro σ H1 ⟨y2, y3, y4, rfl, sA, xs, eF, lx, hx1⟩
        rw [List.length_map] at lx
        exact ⟨_, rfl, q H1 F xs sA nFH eF (by omega) hx1⟩
end
end K01
set_option Elab.async false
set_option linter.all false
set_option autoImplicit false
set_option maxRecDepth 100000
set_option maxHeartbeats 4000000
namespace K01
open PySem PySem.Spec PyProof.Rows L2 Vb Wd Ts
abbrev s_law : Stmt := topS 13
theorem sc_law : FnScope ["_law_script", "_law_spot", "_law_dice_here", "_law_pool", "_law_some", "_law_word_here", "_law_row", "_law_at", "_law_bent", "_law_odd", "_law_turn", "_law_one"] ["_law_script"] (defScope s_law) := ⟨rfl, rfl, rfl, by decide +kernel, rfl, by decide +kernel, by decide +kernel⟩
theorem Past.put {d D : Addr} {H H' : Hp} {o : HO} (nD : H D = none) (p : Past d H H') (n : D ≠ d) : Past d H (upd H' D o) := by
  refine ⟨fun b x bd e => ?_, ?_⟩
  · rw [upd_ne (ne_of_none e nD)]
    exact p.1 b x bd e
  · obtain ⟨g, s, c, e⟩ := p.2
    exact ⟨g, s, c, by rw [upd_ne n.symm]; exact e⟩
def rTup (K : PySem.W.Frag) : List V → Hp → VK → Prop := fun xs H Q => ∃ p ys, xs = [.ref p] ∧ ((SqL K H p ys ∧ ∀ l, H l = none → Q (.ref l) (upd H l (.tup ys))) ∨ (SqT K H p ys ∧ Q (.ref p) H))
theorem cr_tuple {X : Cx} : CallR X (.type "tuple") (rTup X.K) := call_tuple_of
/-- a list of few texts -/
def TexL (n : Nat) (H : Hp) (a : Addr) : Prop := ∃ ys : List Str, H a = some (.lst (ys.map V.str)) ∧ (∀ y ∈ ys, Fine y) ∧ ys.length ≤ n
theorem TexL.same {n : Nat} {H H' : Hp} {a : Addr} (h : TexL n H a) (s : Same H H') : TexL n H' a := by
  obtain ⟨ys, e, f, l⟩ := h
  exact ⟨ys, s _ _ e, f, l⟩
theorem TexL.le {n m : Nat} {H : Hp} {a : Addr} (h : TexL n H a) (l : n ≤ m) : TexL m H a := by
  obtain ⟨ys, e, f, k⟩ := h
  exact ⟨ys, e, f, Nat.le_trans k l⟩
section
variable {K : PySem.W.Frag} {Q : VK} {H : Hp}
theorem rd_cut {n : Nat} {a : Addr} {lo hi : Option Int} (t : TexL n H a) (q : ∀ p H', Same H H' → TexL n H' p → Q (.ref p) H') : rSlL K (.ref a) lo hi H Q := by
  obtain ⟨ys, e, f, l⟩ := t
  refine ⟨a, _, rfl, .inl (.inl e), fun p np => q p _ (same_new np) ⟨(ys.drop (HT.sIx (ys.map V.str).length 0 lo)).take (HT.sIx (ys.map V.str).length (ys.map V.str).length hi - HT.sIx (ys.map V.str).length 0 lo), ?_, fun y hy => f y (List.mem_of_mem_drop (List.mem_of_mem_take hy)), ?_⟩⟩
  · rw [upd_same]
    unfold cutV
    rw [List.map_take, List.map_drop]
  · rw [List.length_take, List.length_drop]
    omega
theorem rd_cutN {n : Nat} {a : Addr} {lo : Option Int} {σ : L2.St} (t : TexL n H a) (q : ∀ p H', Same H H' → TexL n H' p → Q (.ref p) H') : tNoPart σ H (fun u H3 => rSlL K (.ref a) lo u H3 Q) := rd_cut t q
theorem rd_cat {n m : Nat} {a b : Addr} (t : TexL n H a) (u : TexL m H b) (h : n + m ≤ sizeLine) (q : ∀ p H', Same H H' → TexL (n + m) H' p → Q (.ref p) H') : rCat (.ref a) (.ref b) H Q := by
  obtain ⟨ys, e, f, l⟩ := t
  obtain ⟨zs, e', f', l'⟩ := u
  refine ⟨a, b, _, _, rfl, rfl, e, e', ?_, fun p np => q p _ (same_new np) ⟨ys ++ zs, ?_, fun y hy => (List.mem_append.mp hy).elim (f y) (f' y), ?_⟩⟩
  · rw [List.length_map, List.length_map]
    omega
  · rw [upd_same, List.map_append]
  · rw [List.length_append]
    omega
theorem tex_one {y : Str} {p : Addr} (f : Fine y) : TexL 1 (upd H p (.lst [.str y])) p := ⟨[y], upd_same, fun z hz => by rw [List.mem_singleton.mp hz]; exact f, Nat.le_refl _⟩
theorem rd_tuple {n : Nat} {a : Addr} (t : TexL n H a) (h : n ≤ 63) (q : ∀ p H', Same H H' → Tup1 H' (.ref p) → Q (.ref p) H') : rTup K [V.ref a] H Q := by
  obtain ⟨ys, e, f, l⟩ := t
  exact ⟨a, _, rfl, .inl ⟨.inl (.inl e), fun p np => q p _ (same_new np) ⟨p, ys, rfl, upd_same, f, Nat.le_trans l h⟩⟩⟩
theorem rd_tupleN {n : Nat} {a : Addr} {σ : L2.St} (t : TexL n H a) (h : n ≤ 63) (q : ∀ p H', Same H H' → Tup1 H' (.ref p) → Q (.ref p) H') : tNil σ H (fun xs H2 => rTup K (V.ref a :: xs) H2 Q) := rd_tuple t h q
end
section
variable {X : Cx}
theorem cr_reprB : CallR X (.builtin "repr") (fun xs H Q => ∃ b : Bool, xs = [.bl b] ∧ Q (.str (if b then "True" else "False")) H) := by
  intro pins s σ H xs us Q I r h
  obtain ⟨b, rfl, q⟩ := h
  obtain ⟨u, rfl, r1⟩ := vals1 r
  cases (show u = Value.bool b from r1)
  exact PySem.P.repr_of_bool ⟨.str _, H, I.kept (h' := s.heap) (t' := s.toks + 1) fun _ _ e => e, ⟨_, rfl⟩, q⟩
end
def spLaw (K : PySem.W.Frag) : Sp := fun vs H Q _ => ∃ (a : Addr) (ns : List Int), vs = [.ref a] ∧ SqL K H a (ns.map V.int) ∧ ns.length ≤ 63 ∧ ∀ H', Q (.bl true) H'
section
variable {P : Program} {w : World} {K : PySem.W.Frag} {mg : Str → Option Value} {base : Heap}
theorem ok_law {f : Addr} {fd : FuncData} (F : Fun K "law" "law" s_law f fd) (G_l_dice : Cg P w K mg base 1 "_law_dice" (spDice K)) (G_l_roll : Cg P w K mg base 1 "_law_roll" spRoll) (G_l_word : Cg P w K mg base 3 "_law_word" spWord)
    (G_l_tuples : Cg P w K mg base 1 "_law_tuples" spTuples) (G_is_names : Cg P w K mg base 2 "is_names" (spNames K)) (G_l_due : Cg P w K mg base 2 "_law_due" spDue) (G_l_is_name : Cg P w K mg base 1 "_law_is_name" spNam)
    (z_range : mg "range" = none) (z_max : mg "max" = none) (z_min : mg "min" = none) (z_len : mg "len" = none) (z_repr : mg "repr" = none) (z_sorted : mg "sorted" = none) (z_set : mg "set" = none) (z_tuple : mg "tuple" = none) : FnG P w K mg base 4 f fd ["_law_script"] (spLaw K) := by
  refine goes_by F sc_law (fun vs H Q E h => ?_) (fun cdv A outer s H vs Q E hc hr h => ?_)
  · obtain ⟨a, ns, rfl, _⟩ := h
    rfl
  · obtain ⟨a, ns, rfl, hS, hlen, q⟩ := h
    refine ⟨_, (pss_cons (ps_for PassesOwn.never rfl (pi_range1 (by rfl) z_range (pa_cons (pe_callB (call_max2 rfl) (by rfl) z_max (by decide +kernel) (pa_cons pe_int (pa_cons (pe_callB (call_min2 rfl) (by rfl) z_min (by decide +kernel) (pa_cons pe_int (pa_cons (pe_callB call_len_seq (by rfl) z_len PySem.boot_len (pa_cons (pv 0) pa_nil)) pa_nil))) pa_nil))) pa_nil)) (pg_name (i := 1) sc_law.nd rfl (Or.inl rfl))
      (pss_cons (ps_set (i := 2) sc_law.nd rfl (Or.inr rfl) (pe_cg G_l_dice hc hr (by rfl) (pa_cons (pv 0) (pa_cons (pv 1) pa_nil))))
      (pss_cons (ps_setLc (i := 3) (own := [("_law_turn", 10)]) (g := gName 10) (by rfl) sc_law.nd rfl rfl (sw_true rfl rfl rfl (by decide +kernel)) (pi_range1 (by rfl) z_range (pa_cons pe_int pa_nil)) (blkOk_by (own := [("_law_turn", 10)]) (N := ["_law_script", "_law_spot", "_law_dice_here", "_law_pool", "_law_some", "_law_word_here", "_law_row", "_law_at", "_law_bent", "_law_odd", "_law_turn", "_law_one"]) (sc := defScope s_law) (by decide +kernel)) (fun _ _ _ _ _ => pg_name (i := 10) sc_law.nd rfl (Or.inl rfl)) (fun _ _ _ _ _ => pts_nil) (fun _ _ _ _ _ => (pe_cg G_l_word hc hr (by rfl) (pa_cons (pv 2) pa_nil))))
      (pss_cons (ps_for PassesOwn.never rfl (pi_list (pe_cg G_l_tuples hc hr (by rfl) (pa_cons (pv 3) pa_nil))) (pg_name (i := 4) sc_law.nd rfl (Or.inl rfl))
      (pss_one (ps_if (pt_cmpR op_ne (pe_callB cr_reprB (by rfl) z_repr (by decide +kernel) (pa_cons (pe_cg G_is_names hc hr (by rfl) (pa_cons (pv 4) pa_nil)) pa_nil)) (pe_callB cr_reprB (by rfl) z_repr (by decide +kernel) (pa_cons (pe_cg G_l_due hc hr (by rfl) (pa_cons (pv 4) pa_nil)) pa_nil)) (nomark _))
      (pss_one (ps_ret pe_bl))
      pss_nil)))
      (pss_cons (ps_set (i := 6) sc_law.nd rfl (Or.inl rfl) (pe_callB (cr_sortTexts rfl) (by rfl) z_sorted (by decide +kernel) (pa_cons (pe_callTy (cr_setTexts rfl) (by rfl) z_set (by decide +kernel) (pa_cons (pe_lc (own := [("_law_word_here", 5)]) (g := gName 5) (by rfl) sc_law.nd (pi_list (pe_lc (own := [("_law_turn", 10)]) (g := gName 10) (by rfl) sc_law.nd (pi_range1 (by rfl) z_range (pa_cons pe_int pa_nil)) (blkOk_by (own := [("_law_turn", 10)]) (N := ["_law_script", "_law_spot", "_law_dice_here", "_law_pool", "_law_some", "_law_word_here", "_law_row", "_law_at", "_law_bent", "_law_odd", "_law_turn", "_law_one"]) (sc := defScope s_law) (by decide +kernel)) (fun _ _ _ _ _ => pg_name (i := 10) sc_law.nd rfl (Or.inl rfl)) (fun _ _ _ _ _ => pts_nil) (fun _ _ _ _ _ => (pe_cg G_l_word hc hr (by rfl) (pa_cons (pv 2) pa_nil))))) (blkOk_by (own := [("_law_word_here", 5)]) (N := ["_law_script", "_law_spot", "_law_dice_here", "_law_pool", "_law_some", "_law_word_here", "_law_row", "_law_at", "_law_bent", "_law_odd", "_law_turn", "_law_one"]) (sc := defScope s_law) (by decide +kernel)) (fun _ _ _ _ _ => pg_name (i := 5) sc_law.nd rfl (Or.inl rfl)) (fun _ _ _ _ _ => (pts_one (pt_val (pe_cg G_l_is_name hc hr (by rfl) (pa_cons (pv 5) pa_nil))))) (fun _ _ _ _ _ => (pv 5))) pa_nil)) pa_nil)))
      (pss_cons (ps_par (i := 7) (j := 5) (by rfl) sc_law.nd rfl rfl (by decide) rfl rfl (pa_cons (pe_cg G_l_roll hc hr (by rfl) (pa_cons (pv 2) (pa_cons (pe_op op_add (pe_callB call_len_seq (by rfl) z_len PySem.boot_len (pa_cons (pv 6) pa_nil)) pe_int) pa_nil))) (pa_cons (pe_cg G_l_word hc hr (by rfl) (pa_cons (pv 2) pa_nil)) pa_nil)) (by rfl))
      (pss_cons (ps_set (i := 8) sc_law.nd rfl (Or.inl rfl) (pe_lst (pa_cons (pe_op op_cat (pe_op op_cat (pe_slice sl_list (pv 6) po_none (po_some (pv 7))) (pe_lst (pa_cons (pv 5) pa_nil))) (pe_slice sl_list (pv 6) (po_some (pv 7)) po_none)) (pa_cons (pe_op op_cat (pe_op op_cat (pe_slice sl_list (pv 6) po_none (po_some (pv 7))) (pe_lst (pa_cons (pv 5) pa_nil))) (pe_slice sl_list (pv 6) (po_some (pe_op op_add (pv 7) pe_int)) po_none)) (pa_cons (pe_op op_cat (pe_slice sl_list (pv 6) po_none (po_some (pv 7))) (pe_slice sl_list (pv 6) (po_some (pe_op op_add (pv 7) pe_int)) po_none)) pa_nil)))))
      (pss_cons (ps_set (i := 8) sc_law.nd rfl (Or.inl rfl) (pe_op op_cat (pv 8) (pe_lst (pa_cons (pe_revL (pv 6)) (pa_cons (pv 6) pa_nil)))))
      (pss_cons (ps_for PassesOwn.never rfl (pi_list (pe_op op_cat (pe_lc (own := [("_law_one", 11)]) (g := gName 11) (by rfl) sc_law.nd (pi_list (pv 8)) (blkOk_by (own := [("_law_one", 11)]) (N := ["_law_script", "_law_spot", "_law_dice_here", "_law_pool", "_law_some", "_law_word_here", "_law_row", "_law_at", "_law_bent", "_law_odd", "_law_turn", "_law_one"]) (sc := defScope s_law) (by decide +kernel)) (fun _ _ _ _ _ => pg_name (i := 11) sc_law.nd rfl (Or.inl rfl)) (fun _ _ _ _ _ => pts_nil) (fun _ _ _ _ _ => (pe_callTy (cr_tuple : CallR _ _ (rTup K)) (by rfl) z_tuple (by decide +kernel) (pa_cons (pv 11) pa_nil)))) (pe_lst (pa_cons (pe_callTy (cr_tuple : CallR _ _ (rTup K)) (by rfl) z_tuple (by decide +kernel) (pa_cons (pe_op op_cat (pe_slice sl_list (pv 6) (po_some (pv 7)) po_none) (pe_slice sl_list (pv 6) po_none (po_some (pv 7)))) pa_nil)) pa_nil)))) (pg_name (i := 4) sc_law.nd rfl (Or.inl rfl))
      (pss_one (ps_if (pt_cmpR op_ne (pe_callB cr_reprB (by rfl) z_repr (by decide +kernel) (pa_cons (pe_cg G_is_names hc hr (by rfl) (pa_cons (pv 4) pa_nil)) pa_nil)) (pe_callB cr_reprB (by rfl) z_repr (by decide +kernel) (pa_cons (pe_cg G_l_due hc hr (by rfl) (pa_cons (pv 4) pa_nil)) pa_nil)) (nomark _))
      (pss_one (ps_ret pe_bl))
      pss_nil)))
      (pss_cons (ps_set (i := 9) sc_law.nd rfl (Or.inl rfl) (pe_lst (pa_cons (pv 6) (pa_cons pe_non (pa_cons pe_str (pa_cons (pe_disp (pps_cons pe_str pe_str pps_nil) (by rfl) (by rfl) (fun z => by cases z) (by decide)) (pa_cons (pe_tup (pa_cons pe_non pa_nil)) (pa_cons (pe_tup (pa_cons pe_str (pa_cons pe_int pa_nil))) (pa_cons (pe_tup (pa_cons (pe_tup (pa_cons pe_str pa_nil)) (pa_cons pe_str pa_nil))) pa_nil)))))))))
      (pss_one (ps_if (pt_cmpR (op_neD hr.units) (pe_lc (own := [("_law_one", 11)]) (g := gName 11) (by rfl) sc_law.nd (pi_list (pv 9)) (blkOk_by (own := [("_law_one", 11)]) (N := ["_law_script", "_law_spot", "_law_dice_here", "_law_pool", "_law_some", "_law_word_here", "_law_row", "_law_at", "_law_bent", "_law_odd", "_law_turn", "_law_one"]) (sc := defScope s_law) (by decide +kernel)) (fun _ _ _ _ _ => pg_name (i := 11) sc_law.nd rfl (Or.inl rfl)) (fun _ _ _ _ _ => (pts_one (pt_cmpR op_notBl (pe_cg G_is_names hc hr (by rfl) (pa_cons (pv 11) pa_nil)) pe_bl (nomark _)))) (fun _ _ _ _ _ => (pv 11))) (pe_lst pa_nil) (nomark _))
      (pss_one (ps_ret pe_bl))
      pss_nil))))))))))))
      (pss_one (ps_ret (pe_cmpR op_isBl (pe_cg G_is_names hc hr (by rfl) (pa_cons (pe_tup pa_nil) pa_nil)) pe_bl (nomark _))))), ?_⟩
    refine ⟨_, rfl, a, _, rfl, .inl hS, _, _, rfl, _, _, rfl, _, rfl, ?_, ?_, for_range (lo := 0) (fun i σ H' => ∃ x1 x2 x3 x4 x5 x6 x7 x8 x9 x10 x11, σ = [some (.ref a), x1, x2, x3, x4, x5, x6, x7, x8, x9, x10, x11] ∧ Same H H') ⟨none, none, none, none, none, none, none, none, none, none, none, rfl, Same.refl H⟩ ?_ ?_⟩
    · split <;> split <;> omega
    · split <;> split <;> omega
    · rintro i σ H' hi ⟨x1, x2, x3, x4, x5, x6, x7, x8, x9, x10, x11, rfl, s0⟩
      -- the dice
      refine ⟨_, rfl, _, rfl, a, ns, _, rfl, s0.seq hS, by omega, fun d g s nd => ?_⟩
      have dd : Dice (upd H' d (dz g s 0)) d := ⟨g, s, 0, upd_same⟩
      generalize hHA : upd H' d (dz g s 0) = HA at dd
      have sA : ∀ {H2 : Hp}, Past d HA H2 → Same H H2 := fun p => s0.trans (same_past nd (by rw [← hHA] at p; exact p))
      -- the pool
      refine ⟨_, rfl, by decide, by decide, fun D nD => ?_⟩
      have Dd : D ≠ d := dd.ne nD
      refine lc_range (lo := 0) (n := 4) (fun i H1 => Past d HA H1 ∧ ∃ ws : List Str, H1 D = some (.lst (ws.map V.str)) ∧ ws.length = i ∧ ∀ y ∈ ws, Fine y) ⟨Past.put nD (Past.refl dd) Dd, [], upd_same, rfl, nofun⟩ (fun k H1 hk ⟨p1, ws, e1, l1, f1⟩ => ?_) (fun H1 ⟨p1, ws, e1, l1, f1⟩ => ?_)
      · refine ⟨rfl, _, rfl, d, rfl, p1.dice, fun z H2 p2 fz _ => ⟨ws.map V.str, p2.keep Dd e1, ?_, Past.put nD (p1.trans p2) Dd, ws ++ [z], ?_, ?_, ?_⟩⟩
        · rw [List.length_map, l1]
          exact Nat.lt_of_lt_of_le (show k < 10 by omega) (by decide)
        · rw [upd_same, List.map_append]
          rfl
        · rw [List.length_append, l1]
          rfl
        · intro y hy
          rcases List.mem_append.mp hy with hy | hy
          · exact f1 y hy
          · rw [List.mem_singleton.mp hy]
            exact fz
      -- the tuples of the pool
      refine ⟨_, rfl, D, ws, rfl, e1, by omega, f1, fun H3 F xs s3 nF eF lx hx => ⟨F, rfl, ⟨_, .inl (.inl eF)⟩, for_list (K := K) (a := F) (xs := xs) (fun j σ H' => ∃ y, σ = [some (.ref a), some (.int (0 + (i : Int))), some (.ref d), some (.ref D), y, x5, x6, x7, x8, x9, x10, x11] ∧ Same H3 H') ⟨_, rfl, Same.refl _⟩ (fun j σ H6 _ ⟨_, _, s6⟩ => .inl (.inl (s6 _ _ eF))) ?_ ?_⟩⟩
      · rintro j x σ H6 hj ⟨y4, rfl, s6⟩
        obtain ⟨t, ys, rfl, ht, fy, ly⟩ := (hx x (List.mem_of_getElem? hj)).same s6
        refine ⟨_, rfl, V.ref t, _, rfl, .inl ⟨t, ys, rfl, ht, fy, ly, rfl⟩, fun H7 s7 => ⟨_, rfl, _, rfl, t, ys, rfl, s7 _ _ ht, fy, ly, fun H8 s8 => ⟨_, rfl, rfl, _, rfl, ite2 (fun e => absurd e (by simp)) (fun _ => ⟨_, rfl, (s6.trans s7).trans s8⟩)⟩⟩⟩
      rintro σ H4 ⟨y4, rfl, s4⟩
      have p4 : Past d HA H4 := Vb.Past.trans p1 (Vb.Past.same p1.dice (s3.trans s4))
      -- the row
      refine ⟨_, rfl, by decide, by decide, fun D2 nD2 => ?_⟩
      have Dd2 : D2 ≠ d := p4.dice.ne nD2
      refine lc_range (lo := 0) (n := 12) (fun i H1 => Past d H4 H1 ∧ ∃ ws : List Str, H1 D2 = some (.lst (ws.map V.str)) ∧ ws.length = i ∧ ∀ y ∈ ws, Fine y) ⟨Past.put nD2 (Past.refl p4.dice) Dd2, [], upd_same, rfl, nofun⟩ (fun k H5 hk ⟨p5, vs, e5, l5, f5⟩ => ?_) (fun H5 ⟨p5, vs, e5, l5, f5⟩ => ?_)
      · refine ⟨rfl, _, rfl, d, rfl, p5.dice, fun z H6 p6 fz _ => ⟨vs.map V.str, p6.keep Dd2 e5, ?_, Past.put nD2 (p5.trans p6) Dd2, vs ++ [z], ?_, ?_, ?_⟩⟩
        · rw [List.length_map, l5]
          exact Nat.lt_of_lt_of_le (show k < 13 by omega) (by decide)
        · rw [upd_same, List.map_append]
          rfl
        · rw [List.length_append, l5]
          rfl
        · intro y hy
          rcases List.mem_append.mp hy with hy | hy
          · exact f5 y hy
          · rw [List.mem_singleton.mp hy]
            exact fz
      refine ⟨D2, rfl, ⟨_, .inl (.inl e5)⟩, fun D3 nD3 => lc_list (K := K) (a := D2) (xs := vs.map V.str) (fun i H' => Same H5 H' ∧ TexL i H' D3) ⟨same_put nD3 (Same.refl _), [], upd_same, nofun, Nat.le_refl _⟩ (fun i H' _ h => .inl (.inl (h.1 _ _ e5))) (fun k x H6 hx6 h => ?_) (fun H6 h => ?_)⟩
      · obtain ⟨s6, us, e6, f6, l6⟩ := h
        obtain ⟨z, hz, rfl⟩ := str_at hx6
        have kl : k < vs.length := (List.getElem?_eq_some_iff.mp hz).1
        have fz := f5 z (List.mem_of_getElem? hz)
        refine ⟨rfl, _, rfl, z, rfl, fz.1, fz.2, fun H7 s7 => ⟨_, rfl, ite2 (fun _ => ⟨_, rfl, _, s7 _ _ e6, ?_, same_put nD3 (s6.trans s7), us ++ [z], ?_, ?_, ?_⟩) (fun _ => ⟨s6.trans s7, us, s7 _ _ e6, f6, Nat.le_succ_of_le l6⟩)⟩⟩
        · rw [List.length_map]
          exact Nat.lt_of_le_of_lt (show us.length ≤ 12 by omega) (by decide)
        · rw [upd_same, List.map_append]
          rfl
        · intro y hy
          rcases List.mem_append.mp hy with hy | hy
          · exact f6 y hy
          · rw [List.mem_singleton.mp hy]
            exact fz
        · rw [List.length_append, List.length_singleton]
          omega
      obtain ⟨s6, us, e6, f6, l6⟩ := h
      rw [List.length_map, l5] at l6
      refine ⟨D3, us, rfl, .inl (.inl (.inl e6)), by omega, fun st c nst hc' => ⟨st, us, c, rfl, upd_same, by omega, fun zs p mem srt nd lz np => ?_⟩⟩
      have s7 := same_new (o := .lst (zs.map V.str)) np
      have sst := same_new (o := TsO P w st (among us us.length) c) nst
      have p7 := Vb.Past.trans p5 (Vb.Past.same p5.dice ((s6.trans sst).trans s7))
      have tR : TexL 12 (upd (upd H6 st (TsO P w st (among us us.length) c)) p (.lst (zs.map V.str))) p := ⟨zs, upd_same, fun y hy => f6 y ((mem y).mp hy), by omega⟩
      have pd : p ≠ d := (Vb.Past.same p5.dice (s6.trans sst)).dice.ne np
      have p8 := p4.trans p7
      obtain ⟨rs, er, fr, lr⟩ := tR
      -- a place and a word
      refine ⟨_, rfl, _, rfl, p, _, rfl, .inl (.inl (.inl er)), _, _, rfl, rfl, d, _, rfl, p7.dice, ?_, ?_, fun r HR pr r0 r1 => ⟨_, rfl, d, rfl, pr.dice, fun z HZ pz fz _ => ⟨_, _, rfl, ?_⟩⟩⟩
      · rw [List.length_map]
        omega
      · rw [List.length_map]
        exact small8000 (n := rs.length + 1) (by omega)
      have tR : TexL 12 HZ p := ⟨rs, pz.keep pd (pr.keep pd er), fr, lr⟩
      have sZ : Same H HZ := sA ((p8.trans pr).trans pz)
      -- the bent rows
      refine ⟨_, rfl, _, rfl, _, rfl, rd_cut tR fun a1 G1 s1 t1 => ⟨_, rfl, by show 1 ≤ sizeLine; decide, fun a2 n2 => rd_cat (t1.same (same_new n2)) (tex_one fz) (by decide) fun a3 G3 s3 t3 => ?_⟩⟩
      have tR3 := ((tR.same s1).same (same_new n2)).same s3
      refine ⟨_, rfl, _, rfl, _, rfl, rd_cutN tR3 fun a4 G4 s4 t4 => rd_cat (t3.same s4) t4 (by decide) fun a5 G5 s5 t5 => ?_⟩
      have tR5 := (tR3.same s4).same s5
      refine ⟨_, rfl, _, rfl, _, rfl, rd_cut tR5 fun b1 G6 s6 u1 => ⟨_, rfl, by show 1 ≤ sizeLine; decide, fun b2 n7 => rd_cat (u1.same (same_new n7)) (tex_one fz) (by decide) fun b3 G8 s8 u3 => ?_⟩⟩
      have tR8 := ((tR5.same s6).same (same_new n7)).same s8
      refine ⟨_, rfl, _, rfl, _, _, rfl, rfl, _, rfl, rd_cutN tR8 fun b4 G9 s9 u4 => rd_cat (u3.same s9) u4 (by decide) fun b5 G10 s10 u5 => ?_⟩
      have tR10 := (tR8.same s9).same s10
      refine ⟨_, rfl, _, rfl, _, rfl, rd_cut tR10 fun c1 G11 s11 v1 => ?_⟩
      refine ⟨_, rfl, _, rfl, _, _, rfl, rfl, _, rfl, rd_cutN (tR10.same s11) fun c2 G12 s12 v2 => rd_cat (v1.same s12) v2 (by decide) fun c3 G13 s13 v3 => ?_⟩
      have A1 : TexL 63 G13 a5 := ((((((((t5.same s6).same (same_new n7)).same s8).same s9).same s10).same s11).same s12).same s13).le (by decide)
      have A2 : TexL 63 G13 b5 := (((u5.same s11).same s12).same s13).le (by decide)
      have A3 : TexL 63 G13 c3 := v3.le (by decide)
      have tR13 := ((tR10.same s11).same s12).same s13
      have sG : Same H G13 := ((((((((((((sZ.trans s1).trans (same_new n2)).trans s3).trans s4).trans s5).trans s6).trans (same_new n7)).trans s8).trans s9).trans s10).trans s11).trans s12).trans s13
      clear tR tR3 tR5 tR8 tR10 t1 t3 t4 t5 u1 u3 u4 u5 v1 v2 v3
      refine ⟨by show 3 ≤ sizeLine; decide, fun b nb => ?_⟩
      have sb := same_new (o := .lst [V.ref a5, .ref b5, .ref c3]) nb
      obtain ⟨rz, ez, fz2, lz2⟩ := tR13.same sb
      refine ⟨_, rfl, _, rfl, p, _, rfl, .inl (.inl ez), fun rv nrv => ⟨_, rfl, by show 2 ≤ sizeLine; decide, fun b2 nb2 => ⟨b, b2, [V.ref a5, .ref b5, .ref c3], [V.ref rv, .ref p], rfl, rfl, ?_, upd_same, by show 3 + 2 ≤ sizeLine; decide, fun b3 nb3 => ?_⟩⟩⟩
      · exact same_new nb2 _ _ (same_new nrv _ _ upd_same)
      have srv := same_new (o := .lst (rz.map V.str).reverse) nrv
      have sb2 := same_new (o := .lst [V.ref rv, .ref p]) nb2
      have sb3 := same_new (o := .lst ([V.ref a5, .ref b5, .ref c3] ++ [V.ref rv, .ref p])) nb3
      have tRV : TexL 63 (upd (upd G13 b (.lst [V.ref a5, .ref b5, .ref c3])) rv (.lst (rz.map V.str).reverse)) rv := ⟨rz.reverse, by rw [upd_same, List.map_reverse], fun y hy => fz2 y (List.mem_reverse.mp hy), by rw [List.length_reverse]; omega⟩
      have tP : TexL 63 (upd G13 b (.lst [V.ref a5, .ref b5, .ref c3])) p := ⟨rz, ez, fz2, by omega⟩
      have B : ∃ (HB : Hp) (as : List Addr), HB = (upd (upd (upd (upd G13 b (.lst [V.ref a5, .ref b5, .ref c3])) rv (.lst (rz.map V.str).reverse)) b2 (.lst [V.ref rv, .ref p])) b3 (.lst ([V.ref a5, .ref b5, .ref c3] ++ [V.ref rv, .ref p]))) ∧
          [V.ref a5, .ref b5, .ref c3] ++ [V.ref rv, .ref p] = as.map V.ref ∧ as.length = 5 ∧ ∀ x ∈ as, TexL 63 HB x := ⟨_, [a5, b5, c3, rv, p], rfl, rfl, rfl, fun x hx => by
        simp only [List.mem_cons, List.not_mem_nil, or_false] at hx
        have down : ∀ {y : Addr}, TexL 63 G13 y → TexL 63 _ y := fun h => (((h.same sb).same srv).same sb2).same sb3
        rcases hx with rfl | rfl | rfl | rfl | rfl
        · exact down A1
        · exact down A2
        · exact down A3
        · exact (tRV.same sb2).same sb3
        · exact ((tP.same srv).same sb2).same sb3⟩
      obtain ⟨HB, as, eHB, eas, las, tas⟩ := B
      have tRB : TexL 12 HB p := by
        rw [eHB]
        exact TexL.same (TexL.same (TexL.same ⟨rz, ez, fz2, lz2⟩ srv) sb2) sb3
      have eB : HB b3 = some (.lst (as.map V.ref)) := by rw [eHB, upd_same, eas]
      have sB : Same H HB := by
        rw [eHB]
        exact (((sG.trans sb).trans srv).trans sb2).trans sb3
      have room : ∀ {n : Nat}, n ≤ 100 → n < sizeLine := fun h => Nat.lt_of_le_of_lt h (by decide)
      rw [← eHB]
      -- tuples of the bent rows
      refine ⟨_, rfl, b3, rfl, ⟨_, .inl (.inl eB)⟩, fun D4 nD4 => lc_list (K := K) (a := b3) (xs := as.map V.ref) (fun i H' => Same HB H' ∧ ∃ acc, H' D4 = some (.lst acc) ∧ acc.length = i ∧ ∀ x ∈ acc, Tup1 H' x) ⟨same_put nD4 (Same.refl _), [], upd_same, rfl, nofun⟩ (fun i H' _ h => .inl (.inl (h.1 _ _ eB))) (fun k x L1 hx h => ?_) (fun L1 h => ?_)⟩
      · obtain ⟨sL, acc, eD, la, ha⟩ := h
        rw [List.getElem?_map] at hx
        obtain ⟨y, hy, rfl⟩ := Option.map_eq_some_iff.mp hx
        have tA := tas y (List.mem_of_getElem? hy)
        have kl : k < as.length := (List.getElem?_eq_some_iff.mp hy).1
        refine ⟨rfl, _, rfl, ?_⟩
        refine rd_tupleN (tA.same sL) (Nat.le_refl _) fun T L2 sT tT => ?_
        have eD' := sT _ _ eD
        refine ⟨acc, eD', room (by omega), same_put nD4 (sL.trans sT), _, upd_same, ?_, fun x hx => ?_⟩
        · rw [List.length_append, la]
          rfl
        · rcases List.mem_append.mp hx with hx | hx
          · exact ((ha x hx).same sT).put eD'
          · rw [List.mem_singleton.mp hx]
            exact tT.put eD'
      obtain ⟨sL, acc, eD, la, ha⟩ := h
      rw [List.length_map, las] at la
      have tRL := tRB.same sL
      refine ⟨_, rfl, _, rfl, _, rfl, rd_cutN tRL fun m1 M1 z1 w1 => ⟨_, rfl, _, rfl, _, rfl, rd_cut (tRL.same z1) fun m2 M2 z2 w2 => rd_cat (w1.same z2) w2 (by decide) fun m3 M3 z3 w3 => ?_⟩⟩
      refine rd_tupleN w3 (by decide) fun T M4 z4 w4 => ⟨by show 1 ≤ sizeLine; decide, fun m5 nm5 => ?_⟩
      have z5 := same_new (o := .lst [V.ref T]) nm5
      have sM := ((((sL.trans z1).trans z2).trans z3).trans z4).trans z5
      have eDM := z5 _ _ (z4 _ _ (z3 _ _ (z2 _ _ (z1 _ _ eD))))
      refine ⟨D4, m5, acc, [V.ref T], rfl, rfl, eDM, upd_same, Nat.le_of_lt (room (by rw [List.length_singleton]; omega)), fun FF nFF => ?_⟩
      have z6 := same_new (o := .lst (acc ++ [V.ref T])) nFF
      have allT : ∀ x ∈ acc ++ [V.ref T], Tup1 (upd (upd M4 m5 (.lst [V.ref T])) FF (.lst (acc ++ [V.ref T]))) x := fun x hx => by
        rcases List.mem_append.mp hx with hx | hx
        · exact ((((((ha x hx).same z1).same z2).same z3).same z4).same z5).same z6
        · rw [List.mem_singleton.mp hx]
          exact (w4.same z5).same z6
      have tRF := (tRB.same sM).same z6
      have sF := (sB.trans sM).trans z6
      have eF : upd (upd M4 m5 (.lst [V.ref T])) FF (.lst (acc ++ [V.ref T])) FF = some (.lst (acc ++ [V.ref T])) := upd_same
      refine ⟨FF, rfl, ⟨_, .inl (.inl eF)⟩, for_list (K := K) (a := FF) (xs := acc ++ [V.ref T]) (fun j σ H' => ∃ y, σ = [some (.ref a), some (.int (0 + (i : Int))), some (.ref d), some (.ref D), y, some (.str z), some (.ref p), some (.int r), some (.ref b3), x9, x10, x11] ∧ Same (upd (upd M4 m5 (.lst [V.ref T])) FF (.lst (acc ++ [V.ref T]))) H') ⟨_, rfl, Same.refl _⟩ (fun j σ H6 _ ⟨_, _, s6⟩ => .inl (.inl (s6 _ _ eF))) ?_ ?_⟩
      · rintro j x σ H6 hj ⟨y4, rfl, s6⟩
        obtain ⟨t, ys, rfl, ht, fy, ly⟩ := (allT x (List.mem_of_getElem? hj)).same s6
        refine ⟨_, rfl, V.ref t, _, rfl, .inl ⟨t, ys, rfl, ht, fy, ly, rfl⟩, fun H7 s7 => ⟨_, rfl, _, rfl, t, ys, rfl, s7 _ _ ht, fy, ly, fun H8 s8 => ⟨_, rfl, rfl, _, rfl, ite2 (fun e => absurd e (by simp)) (fun _ => ⟨_, rfl, (s6.trans s7).trans s8⟩)⟩⟩⟩
      rintro σ HX ⟨y4, rfl, sO⟩
      -- what is no tuple of names
      obtain ⟨ro, eo, _, _⟩ := tRF.same sO
      refine ⟨_, rfl, fun dp ndp => ⟨upd_same, [(.inr "a", .str "b")], rfl, by decide, by show 1 ≤ sizeLine; decide, fun q1 nq1 => ⟨by show 2 ≤ sizeLine; decide, fun q2 nq2 => ⟨by show 1 ≤ sizeLine; decide, fun q3 nq3 => ⟨by show 2 ≤ sizeLine; decide, fun q4 nq4 => ⟨by show 7 ≤ sizeLine; decide, fun od nod => ?_⟩⟩⟩⟩⟩⟩
      have k0 := same_new2 (o := .dK []) (o' := .dK (mergeK [] [(.inr "a", .str "b")])) ndp
      have k1 := same_new (o := .tup [V.non]) nq1
      have k2 := same_new (o := .tup [V.str "a", .int 7]) nq2
      have k3 := same_new (o := .tup [V.str "a"]) nq3
      have k4 := same_new (o := .tup [V.ref q3, .str "b"]) nq4
      have k5 := same_new (o := .lst [V.ref p, .non, .str "ab", .ref dp, .ref q1, .ref q2, .ref q4]) nod
      have sX := (((((sF.trans sO).trans k0).trans k1).trans k2).trans k3).trans k4
      have okA : ∀ (H' : Hp), Same _ H' → ∀ x ∈ [V.ref p, .non, .str "ab", .ref dp, .ref q1, .ref q2, .ref q4], Asked K H' x false := fun H' sH x hx => by
        simp only [List.mem_cons, List.not_mem_nil, or_false] at hx
        have s4' := k5.trans sH
        have s3' := k4.trans s4'
        have s2' := k3.trans s3'
        have s1' := k2.trans s2'
        have s0' := k1.trans s1'
        rcases hx with rfl | rfl | rfl | rfl | rfl | rfl | rfl
        · exact .inr (.inl ⟨"list", .base (.lst (s0' _ _ (k0 _ _ eo))), by decide +kernel, rfl⟩)
        · exact .inr (.inl ⟨"NoneType", .base .non, by decide +kernel, rfl⟩)
        · exact .inr (.inl ⟨"str", .base (.str _), by decide +kernel, rfl⟩)
        · exact .inr (.inl ⟨"dict", .base (.dK (s0' _ _ upd_same)), by decide +kernel, rfl⟩)
        · exact .inr (.inr ⟨_, [V.non], rfl, s1' _ _ upd_same, fun x hx => by rw [List.mem_singleton.mp hx]; trivial, rfl, by decide, rfl⟩)
        · exact .inr (.inr ⟨_, [V.str "a", .int 7], rfl, s2' _ _ upd_same, fun x hx => by
            simp only [List.mem_cons, List.not_mem_nil, or_false] at hx
            rcases hx with rfl | rfl
            · exact ⟨by decide +kernel, asc_lit (by decide +kernel)⟩
            · show (7 : Int).natAbs < 10 ^ 100; decide +kernel, by decide +kernel, by decide, rfl⟩)
        · exact .inr (.inr ⟨_, [V.ref q3, .str "b"], rfl, s4' _ _ upd_same, fun x hx => by
            simp only [List.mem_cons, List.not_mem_nil, or_false] at hx
            rcases hx with rfl | rfl
            · exact .inr (.inl ⟨_, s3' _ _ upd_same⟩)
            · exact ⟨by decide +kernel, asc_lit (by decide +kernel)⟩, by rfl, by show 2 ≤ 63; decide, rfl⟩)
      refine ⟨_, rfl, od, rfl, ⟨_, .inl (.inl upd_same)⟩, fun D5 nD5 => lc_list (K := K) (a := od) (xs := [V.ref p, .non, .str "ab", .ref dp, .ref q1, .ref q2, .ref q4]) (fun i H' => Same _ H' ∧ H' D5 = some (.lst [])) ⟨same_put nD5 (Same.refl _), upd_same⟩ (fun i H' _ h => .inl (.inl (h.1 _ _ upd_same))) (fun k x L1 hx h => ?_) (fun L1 h => ?_)⟩
      · obtain ⟨sL, eD⟩ := h
        refine ⟨rfl, _, rfl, x, false, rfl, okA L1 sL x (List.mem_of_getElem? hx), fun L2 s2 => ⟨_, _, rfl, rfl, _, rfl, ite2 (fun e => absurd e (by decide)) (fun _ => ⟨sL.trans s2, s2 _ _ eD⟩)⟩⟩
      obtain ⟨sL, eD⟩ := h
      refine ⟨Nat.zero_le _, fun p2 np2 => ?_⟩
      have k6 := same_new (o := .lst []) np2
      refine ⟨.list [], .list [], .lst (.inl (.inl (k6 _ _ eD))) .nil, .lst (.inl (.inl upd_same)) .nil, by decide, by decide, _, rfl, ite2 (fun e => absurd e (by decide)) (fun _ => ⟨_, _, _, _, _, _, _, _, _, _, _, rfl, ((sX.trans k5).trans sL).trans k6⟩)⟩
    · rintro σ H' ⟨x1, x2, x3, x4, x5, x6, x7, x8, x9, x10, x11, rfl, s0⟩
      refine ⟨by show 0 ≤ sizeLine; decide, fun p0 n0 => ⟨_, true, rfl, .inl ⟨p0, [], rfl, upd_same, nofun, by decide, rfl⟩, fun H2 s2 => ⟨_, _, rfl, rfl, q _⟩⟩⟩
end
end K01
set_option Elab.async false
set_option linter.all false
set_option autoImplicit false
set_option maxRecDepth 100000
set_option maxHeartbeats 4000000
namespace K01
open PySem PySem.Spec PyProof.Rows L2 Vb
section
theorem fin {l : PySem.W.OpenLaw} {w : World} {K : PySem.W.Frag} {mg : Str → Option Value} {fa : Addr} {t1 : Tok}
    (L : ∃ fd : FuncData, (∀ (s : Shared) (v : Value), BindsTo s fd ⟨[v], []⟩ [("_law_script", v)]) ∧ Fun K "law" "law" s_law fa fd)
    (D1 : Df K mg "is_name" s_is_name ["value"])
    (D2 : Df K mg "is_names" s_is_names ["value"])
    (D3 : Df K mg "_law_dice" s_l_dice ["_law_script", "_law_spot"])
    (D4 : Df K mg "_law_roll" s_l_roll ["_law_dice_here", "_law_total"])
    (D5 : Df K mg "_law_pick" s_l_pick ["_law_dice_here", "_law_items"])
    (D6 : Df K mg "_law_word" s_l_word ["_law_dice_here"])
    (D7 : Df K mg "_law_before" s_l_before ["_law_one", "_law_other"])
    (D8 : Df K mg "_law_is_name" s_l_is_name ["_law_word_here"])
    (D9 : Df K mg "_law_due" s_l_due ["_law_words"])
    (D10 : Df K mg "_law_tuples" s_l_tuples ["_law_pool"])
    (c1 : mg "MAX_LETTERS" = some (.int 8 t1))
    (z_int : mg "int" = none) (z_str : mg "str" = none) (z_len : mg "len" = none) (z_abs : mg "abs" = none) (z_max : mg "max" = none) (z_min : mg "min" = none) (z_range : mg "range" = none) (z_isinstance : mg "isinstance" = none) (z_repr : mg "repr" = none) (z_tuple : mg "tuple" = none) (z_all : mg "all" = none) (z_list : mg "list" = none) (z_sorted : mg "sorted" = none) (z_set : mg "set" = none) :
    ∃ fd : FuncData, (∀ (s : Shared) (v : Value), BindsTo s fd ⟨[v], []⟩ [("_law_script", v)]) ∧ ∀ base : Heap, K.In base → base.Ns mainGlobals mg → FnG l.prog w K mg base 4 fa fd ["_law_script"] (spLaw K) := by
  obtain ⟨fd, b, F⟩ := L
  refine ⟨fd, b, fun base _ _ => ?_⟩
  have gRoll : Cg l.prog w K mg base 1 "_law_roll" spRoll := ok_roll D4 z_int
  have gPick : Cg l.prog w K mg base 2 "_law_pick" (spPick K) := ok_pick D5 gRoll z_len
  have gName : Cg l.prog w K mg base 1 "_law_is_name" spNam := ok_l_is_name D8 z_len
  exact ok_law F (ok_dice D3 z_int z_len z_abs z_max) gRoll (ok_l_word D6 gRoll gPick z_range) (ok_l_tuples D10) (ok_is_names D2 (ok_is_name D1 z_isinstance z_str z_len c1) z_isinstance z_tuple z_all z_list z_sorted z_set)
    (ok_l_due D9 gName (ok_l_before D7 z_len z_min z_range) z_len z_range) gName z_range z_max z_min z_len z_repr z_sorted z_set z_tuple
end
end K01

open PySem PySem.W PyProof.Rows
set_option maxRecDepth 100000 in
set_option maxHeartbeats 0 in
theorem PySem.Challenge.cw_mendbooks_k01_whole_tuples_of_names_holds : PySem.Challenge.rw_mendbooks_k01_whole_tuples_of_names.Holds := by
  w_on; o_law; k_head; (case hw => w_witness2)
  k_fill
  refine Vb.walk_calm (l := PySem.Challenge.rw_mendbooks_k01_whole_tuples_of_names) (n := 63) (k := 4) (x := "_law_script") (sp := K01.spLaw) rfl (by decide) rfl ⟨rfl, by decide, by decide⟩ (fun w h Y => PySem.W.kIn_of Y) ?F (fun K H a ns hl _ hS => ⟨a, ns, rfl, hS, hl, fun _ => rfl⟩)
  case F =>
    intro w mg fa h KX G hmg
    refine' K01.fin (Vb.law_def KX G hmg ?lb ?la ?ll ?lc ?lk) (Vb.Df.mk KX G ?a1 ?l1 ?c1 ?k1 ?b1) (Vb.Df.mk KX G ?a2 ?l2 ?c2 ?k2 ?b2) (Vb.Df.mk KX G ?a3 ?l3 ?c3 ?k3 ?b3) (Vb.Df.mk KX G ?a4 ?l4 ?c4 ?k4 ?b4) (Vb.Df.mk KX G ?a5 ?l5 ?c5 ?k5 ?b5) (Vb.Df.mk KX G ?a6 ?l6 ?c6 ?k6 ?b6) (Vb.Df.mk KX G ?a7 ?l7 ?c7 ?k7 ?b7) (Vb.Df.mk KX G ?a8 ?l8 ?c8 ?k8 ?b8) (Vb.Df.mk KX G ?a9 ?l9 ?c9 ?k9 ?b9) (Vb.Df.mk KX G ?a10 ?l10 ?c10 ?k10 ?b10)
      (PySem.W.mg_of KX G ?n1) (PySem.W.mg_none_of KX G ?z1) (PySem.W.mg_none_of KX G ?z2) (PySem.W.mg_none_of KX G ?z3) (PySem.W.mg_none_of KX G ?z4) (PySem.W.mg_none_of KX G ?z5) (PySem.W.mg_none_of KX G ?z6) (PySem.W.mg_none_of KX G ?z7) (PySem.W.mg_none_of KX G ?z8) (PySem.W.mg_none_of KX G ?z9) (PySem.W.mg_none_of KX G ?z10) (PySem.W.mg_none_of KX G ?z11) (PySem.W.mg_none_of KX G ?z12) (PySem.W.mg_none_of KX G ?z13) (PySem.W.mg_none_of KX G ?z14)
    (case lb => exact fun _ _ _ _ _ _ _ _ => .of_eq rfl); (case la => k_is); (case ll => k_is); (case lc => k_is); (case lk => k_is)
    (case a1 => k_is); (case l1 => k_is); (case c1 => k_is); (case k1 => k_is); (case b1 => exact fun _ _ _ _ _ _ us hl => match us, hl with | [_], _ => rfl)
    (case a2 => k_is); (case l2 => k_is); (case c2 => k_is); (case k2 => k_is); (case b2 => exact fun _ _ _ _ _ _ us hl => match us, hl with | [_], _ => rfl)
    (case a3 => k_is); (case l3 => k_is); (case c3 => k_is); (case k3 => k_is); (case b3 => exact fun _ _ _ _ _ _ us hl => match us, hl with | [_, _], _ => rfl)
    (case a4 => k_is); (case l4 => k_is); (case c4 => k_is); (case k4 => k_is); (case b4 => exact fun _ _ _ _ _ _ us hl => match us, hl with | [_, _], _ => rfl)
    (case a5 => k_is); (case l5 => k_is); (case c5 => k_is); (case k5 => k_is); (case b5 => exact fun _ _ _ _ _ _ us hl => match us, hl with | [_, _], _ => rfl)
    (case a6 => k_is); (case l6 => k_is); (case c6 => k_is); (case k6 => k_is); (case b6 => exact fun _ _ _ _ _ _ us hl => match us, hl with | [_], _ => rfl)
    (case a7 => k_is); (case l7 => k_is); (case c7 => k_is); (case k7 => k_is); (case b7 => exact fun _ _ _ _ _ _ us hl => match us, hl with | [_, _], _ => rfl)
    (case a8 => k_is); (case l8 => k_is); (case c8 => k_is); (case k8 => k_is); (case b8 => exact fun _ _ _ _ _ _ us hl => match us, hl with | [_], _ => rfl)
    (case a9 => k_is); (case l9 => k_is); (case c9 => k_is); (case k9 => k_is); (case b9 => exact fun _ _ _ _ _ _ us hl => match us, hl with | [_], _ => rfl)
    (case a10 => k_is); (case l10 => k_is); (case c10 => k_is); (case k10 => k_is); (case b10 => exact fun _ _ _ _ _ _ us hl => match us, hl with | [_], _ => rfl)
    (case n1 => k_is)
    (case z1 => k_is); (case z2 => k_is); (case z3 => k_is); (case z4 => k_is); (case z5 => k_is); (case z6 => k_is); (case z7 => k_is); (case z8 => k_is); (case z9 => k_is); (case z10 => k_is); (case z11 => k_is); (case z12 => k_is); (case z13 => k_is); (case z14 => k_is)
