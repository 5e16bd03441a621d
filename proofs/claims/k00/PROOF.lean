import PyProof.Rows.All
import Wide.All
import OpenK.AllK
import Wide.FinOn
import HandS.ForMost
import HandS.IsInst
import HandS.Wide
import HandS.WideMore
import HandS.Flow
import HandS.Style
import HandS.StrMore
import HandS.RaiseMore
import HandS.FStr
import KE.KxText
import HandS.Walk
import PySem.Challenge.RW_mendbooks_k00_words_judged
set_option Elab.async false
set_option linter.all false
set_option autoImplicit false
set_option maxRecDepth 100000
set_option maxHeartbeats 4000000
/-! Vb: the layer below all laws: defs that are entered where no container is being written out (calm room), repr of data, powers. -/
namespace Vb
open PySem PySem.Spec PyProof.Rows L2

/-- nothing is being written out by repr around here -/
def Calm (A : Around) : Prop := A.guards = some []
theorem Calm.deep {A : Around} (h : Calm A) (env : Env) : Calm (A.deeper env) := h
theorem calm_caller : Calm callerA := rfl

/-- a promise that is kept where nothing is being written out -/
structure FnG (P : Program) (w : World) (K : PySem.W.Frag) (mg : Str → Option Value) (base : Heap) (k : Nat) (f : Addr) (fd : FuncData) (ps : List Str) (sp : Sp) : Prop where
  count : ∀ vs H Q E, sp vs H Q E → vs.length = ps.length
  goes : ∀ (A : Around) (outer : List Env) (s : Shared) (H : Hp) (args : Args) (us : List Value) (vs : List V) (Q : VK) (E : XK), Calm A → Room k A →
    Env0 P w K mg base A outer s H → BindsTo s fd args (ps.zip us) → Vals vs us → sp vs H Q E → codeAny (model P w) A (.call (.ref f) args) (CR CX0 outer P w H s Q E) s

section
variable {P : Program} {w : World} {K : PySem.W.Frag} {mg : Str → Option Value} {base : Heap}
theorem FnG.of {k : Nat} {f : Addr} {fd : FuncData} {ps : List Str} {sp : Sp} (F : FnOk P w K mg base CX0 k f fd ps sp) : FnG P w K mg base k f fd ps sp :=
  ⟨F.len, fun A outer s H args us vs Q E _ hr => F.run A outer s H args us vs Q E hr⟩

/-- a def's promise by its body, entered in calm room -/
theorem goes_by {x qual : Str} {st : Stmt} {f : Addr} {fd : FuncData} {N ps : List Str} {k : Nat} {sp : Sp} (F : Fun K x qual st f fd) (S : FnScope N ps (defScope st)) (len : ∀ vs H Q E, sp vs H Q E → vs.length = ps.length)
    (body : ∀ (cdv : Value) (A : Around) (outer : List Env) (s : Shared) (H : Hp) (vs : List V) (Q : VK) (E : XK), Calm (A.deeper (envOfC qual (defScope st) s.heap.objs.size f cdv)) → Room k (A.deeper (envOfC qual (defScope st) s.heap.objs.size f cdv)) → sp vs H Q E →
      ∃ t, PSs (cxOf CX0 P w K mg base N qual (defScope st) f cdv A outer s H E).nox (defBody st) t ∧ t { nx := fun _ H' => Q .non H', rt := Q } (start N vs) H) : FnG P w K mg base (k + 1) f fd ps sp := by
  obtain ⟨oc, od, kV, doc, pm, an, cdv, ct, osl, rfl, lk, hcd⟩ := F.ex
  refine ⟨len, fun A outer s H args us vs Q E hc hr e0 hb r hsp => ?_⟩
  have hl := len _ _ _ _ hsp
  have KX : K.In s.heap := e0.mod.kin.keeps fun b o e => (e0.bs b o e).1
  have lim : s.heap.NoLimit := e0.mod.nolimit.keeps fun b o e => (e0.bs b o e).1
  have kinds : ∀ y ∈ ps.zip us, (defScope st).names.lookup y.1 = some .local ∨ ((defScope st).names.lookup y.1 = some .cell ∧ ((cellsFrom (s.heap.objs.size + 1) (defScope st).names []).lookup y.1).isSome = true) := by
    intro y hy
    obtain ⟨n, v⟩ := y
    exact (S.par n (List.of_mem_zip hy).1).imp id fun q => ⟨q, PySem.W.cellsFrom_some _ _ _ (Or.inl q)⟩
  refine codeAny_call_function hr.depth (KX _ _ lk) rfl S.co S.gen rfl (PySem.W.codeRec_of KX hcd) (hb _ _ _ _ ?_)
  refine wpAny_newFunctionEnv_cells S.kind kinds fun env he s1 x => ?_
  cases he
  refine ⟨lim.keeps x.toInCall.keep, codeAny_func ?_⟩
  obtain ⟨t, ht, hq⟩ := body cdv A outer s H vs Q E (hc.deep _) (hr.deeper _) hsp
  have I := inv_start (CX := CX0) (E := E) S hr.hd e0 hl r x
  refine wpAny_mono (ht.nox.run [] s1 (start N vs) H _ I hq) (fun fl s' hs => ?_) (fun _ _ z => z)
  cases fl with
  | brk => exact hs.elim fun _ z => z.elim fun _ z => z.2.elim
  | cont => exact hs.elim fun _ z => z.elim fun _ z => z.2.elim
  | ret u =>
    obtain ⟨v, σ', H', J, rv, q⟩ := hs
    exact ⟨v, H', J.os, J.bare, J.base, J.hok, rv, q⟩
  | next =>
    obtain ⟨σ', H', J, q⟩ := hs
    exact ⟨V.non, H', J.os, J.bare, J.base, J.hok, rfl, q⟩
end

section
variable {X : Cx} {k : Nat} {f : Addr} {fd : FuncData} {ps : List Str} {sp : Sp} {dvs : List V} {ds : List Value} {E : XK} {x : Str} {p pos : Pos} {e : Expr} {es : List Expr} {t : TA}
theorem goes_in {pins : List (Addr × Obj)} {σ : L2.St} {H : Hp} {s : Shared} {Q : VK} {us : List Value} {vs : List V} (F : FnG X.prog X.w X.K X.mg X.base k f fd ps sp) (hc : Calm X.A) (hr : Room k X.A) (hb : Binds X.K fd ps ds) (hd : Vals dvs ds) (hx : Passes CX0 X E)
    (I : Inv X pins σ H s) (r : Vals vs us) (h : sp (vs ++ dvs) H Q E) : wpAny (model X.prog X.w) X.A (call (.ref f) us) (EP X pins σ Q) X.xe s := by
  have both : Vals (vs ++ dvs) (us ++ ds) := r.append hd
  have hl : (us ++ ds).length = ps.length := both.length ▸ F.count _ _ _ _ h
  have go := F.goes X.A X.stack s H ⟨us, []⟩ (us ++ ds) (vs ++ dvs) Q E hc hr I.env0 (hb s us I.kIn hl) both h
  refine wpAny_call (codeAny_mono go fun r s' hq => ?_)
  match r, hq with
  | .error e, hq => exact hx pins σ H s e s' I hq
  | .ok (.ret u), hq => exact I.after hq
  | .ok .next, hq => exact hq.elim
  | .ok .brk, hq => exact hq.elim
  | .ok .cont, hq => exact hq.elim
/-- f(e, ..), f entered in calm room -/
theorem pe_callG (F : FnG X.prog X.w X.K X.mg X.base k f fd ps sp) (hc : Calm X.A) (hr : Room k X.A) (hg : Gl X x) (hm : X.mg x = some (.ref f)) (hk : PySem.W.keepIn X.K (.ref f) = true) (hb : Binds X.K fd ps ds) (hd : Vals dvs ds) (hx : Passes CX0 X E)
    (ha : PA X (e :: es) t) (hdb : (x == ("__debug__" : Str)) = false := by decide) (he : starEach (e :: es) X.env = (false, eval e X.env) :: starEach es X.env := by rfl) (hpl : (backTo pos (starEach es X.env)).any (·.1) = false := by rfl) :
    PE X (.Call (.Name x p) (e :: es) [] pos) (tCall sp dvs E t) :=
  ⟨fun pins s σ H Q I h => wpAny_Call_Name_kw (ld_glob I hg hm
    (PySem.W.callWith_K (h₀ := X.base) I.ok.mod.kin hk (thn (ha.run pos pins s σ H _ I h) fun us s1 ⟨vs, H1, I1, r, q⟩ => ⟨I1.kIn, goes_in F hc hr hb hd hx I1 r q⟩) he hpl) hdb)⟩
/-- f() -/
theorem pe_callG0 (F : FnG X.prog X.w X.K X.mg X.base k f fd ps sp) (hc : Calm X.A) (hr : Room k X.A) (hg : Gl X x) (hm : X.mg x = some (.ref f)) (hk : PySem.W.keepIn X.K (.ref f) = true) (hb : Binds X.K fd ps ds) (hd : Vals dvs ds) (hx : Passes CX0 X E)
    (hdb : (x == ("__debug__" : Str)) = false := by decide) : PE X (.Call (.Name x p) [] [] pos) (tCall sp dvs E tNil) :=
  ⟨fun pins s σ H Q I h => wpAny_Call_Name_kw (ld_glob I hg hm (PySem.W.callWith_K0 I.kIn hk (goes_in (us := []) F hc hr hb hd hx I .nil h)) hdb)⟩
end
/-! ### the law's own end, in calm room -/
section
variable {P : Program} {w : World} {K : PySem.W.Frag} {mg mb : Str → Option Value} {s₁ : Shared} {H : Hp} {a : Addr}
/-- what is seen behind the top once the script alone may be tracked -/
structure Lone (K : PySem.W.Frag) (s₁ : Shared) (H : Hp) (a : Addr) : Prop where
  only : Only H
  at_a : ∀ b, H b ≠ none → b = a
  noK : H a ≠ none → K.lookup a = none
  noD : ∀ o, s₁.heap.get? a = some o → ∀ es ep, o.data ≠ .dict es ep
theorem Lone.bare (L : Lone K s₁ H a) {b : Addr} {o : Obj} (e : s₁.heap.get? b = some o) (h : (∃ es ep, o.data = .dict es ep) ∨ K.lookup b = some o) : H b = none := by
  refine Classical.byContradiction fun n => ?_
  have eb := L.at_a b n
  subst eb
  rcases h with ⟨es, ep, d⟩ | h
  · exact L.noD o e es ep d
  · exact nomatch (L.noK n).symm.trans h
theorem Lone.env (L : Lone K s₁ H a) (KX : K.In s₁.heap) (hns : s₁.heap.Ns mainGlobals mg) (hb : s₁.heap.Ns builtinsNs mb) (hbb : ∀ x : Str, x ≠ "__name__" → mb x = bootBuiltins x) (hlim : s₁.heap.NoLimit) (hg : s₁.gens = #[])
    (hok : HOk P w H s₁.heap) : K.In (hidT s₁.heap H) ∧ (hidT s₁.heap H).Ns mainGlobals mg ∧ Env0 P w K mg (hidT s₁.heap H) callerA [] s₁ H := by
  have ns : ∀ {b : Addr} {m : Str → Option Value}, s₁.heap.Ns b m → (hidT s₁.heap H).Ns b m := fun ⟨o, es, ep, e, d, r⟩ => ⟨o, es, ep, hidT_get e (L.bare e (.inl ⟨es, ep, d⟩)), d, r⟩
  have kin : K.In (hidT s₁.heap H) := fun b o e => hidT_get (KX b o e) (L.bare (KX b o e) (.inr e))
  obtain ⟨mc, c1, c2⟩ := hlim
  exact ⟨kin, ns hns, rfl, ⟨kin, ns hns, ⟨mb, ns hb, hbb⟩, ⟨mc, ns c1, c2⟩⟩, fun b o e => of_hidT e, Nat.le_of_eq (hidT_size _ _), trivial, fun b z => (List.not_mem_nil z).elim, hok, .of_eq hg⟩
theorem Lone.kept (L : Lone K s₁ H a) {s' : Shared} (hok : HOk P w H s₁.heap) {u : Value} (c : CE [] P w H s₁ (fun v _ => v = .bl true) u s') : Flow.ret u = .ret (.bool true) ∧ OldK s₁.heap s'.heap ∧ s'.os = s₁.os ∧ AllBare s'.gens := by
  obtain ⟨v, H', os, bare, un, hok', r', q⟩ := c
  cases (show v = .bl true from q)
  cases (show u = Value.bool true from r')
  refine ⟨rfl, OldK.of_keep fun b o e => ?_, os, bare⟩
  cases q : H b with
  | none => exact un.keep b o e q (fun z => (List.not_mem_nil z).elim) (fun z => (List.not_mem_nil z).elim)
  | some u =>
    rcases L.only b with z | ⟨ob, xs, z⟩
    · exact nomatch q.symm.trans z
    · have before := (hok b _ z).1
      have after := (hok' b _ (un.frzs b ob _ z)).1
      cases before.symm.trans e
      exact after
variable {k : Nat} {fa : Addr} {fd : FuncData} {x : Str} {sp : Sp} {vs : List Value} {ns : List Int}
theorem law_goes (KX : K.In s₁.heap) (hns : s₁.heap.Ns mainGlobals mg) (hb : s₁.heap.Ns builtinsNs mb) (hbb : ∀ x : Str, x ≠ "__name__" → mb x = bootBuiltins x) (hlim : s₁.heap.NoLimit) (hg : s₁.gens = #[])
    (ha : s₁.heap.get? a = some { cls := .type "list", data := .seq vs.toArray }) (hi : IntsAre vs ns) (hl : ns.length ≤ sizeLine) (hr : Room k callerA)
    (F : ∀ base : Heap, K.In base → base.Ns mainGlobals mg → FnG P w K mg base k fa fd [x] sp) (bind : ∀ (s : Shared) (u : Value), BindsTo s fd ⟨[u], []⟩ [(x, u)])
    (hsp : ∀ H : Hp, Only H → SqL K H a (ns.map V.int) → sp [.ref a] H (fun v _ => v = .bl true) fun _ _ _ => False) :
    codeAny (model P w) callerA (.call (.ref fa) ⟨[.ref a], []⟩) (fun r s' => r = .ok (.ret (.bool true)) ∧ OldK s₁.heap s'.heap ∧ s'.os = s₁.os ∧ AllBare s'.gens) s₁ := by
  have rv := vals_ints hi
  have core : ∀ H : Hp, Lone K s₁ H a → SqL K H a (ns.map V.int) → HOk P w H s₁.heap → codeAny (model P w) callerA (.call (.ref fa) ⟨[.ref a], []⟩) (fun r s' => r = .ok (.ret (.bool true)) ∧ OldK s₁.heap s'.heap ∧ s'.os = s₁.os ∧ AllBare s'.gens) s₁ := by
    intro H L hS hok
    obtain ⟨kin, kns, e0⟩ := L.env (P := P) (w := w) KX hns hb hbb hlim hg hok
    refine codeAny_mono ((F _ kin kns).goes callerA [] s₁ H ⟨[.ref a], []⟩ [.ref a] [.ref a] _ _ calm_caller hr e0 (bind s₁ (.ref a)) (.cons rfl .nil) (hsp H L.only hS)) fun r s' h => ?_
    match r, h with
    | .error _, h => exact h.elim
    | .ok .next, h => exact h.elim
    | .ok .brk, h => exact h.elim
    | .ok .cont, h => exact h.elim
    | .ok (.ret u), h =>
      obtain ⟨e, rest⟩ := L.kept hok h
      exact ⟨congrArg Except.ok e, rest⟩
  have noD : ∀ o, s₁.heap.get? a = some o → ∀ es ep, o.data ≠ .dict es ep := fun o e es ep d => by
    cases ha.symm.trans e
    cases (show Data.seq vs.toArray _ = Data.dict es ep from d)
  cases hk : K.lookup a with
  | some o =>
    cases ha.symm.trans (KX a o hk)
    exact core (fun _ => none) ⟨fun _ => .inl rfl, fun b z => (z rfl).elim, fun z => (z rfl).elim, noD⟩ (.inr ⟨_, vs.toArray, _, hk, rfl, rfl, rfl, by rw [List.size_toArray, hi.length]; exact hl, by simpa using rv⟩) (fun b u z => nomatch (show (none : Option HO) = some u from z))
  | none =>
    let T : HO := .frz { cls := .type "list", data := .seq vs.toArray } (.lst (ns.map V.int))
    have tA : ∀ b u, (if b = a then some T else none : Option HO) = some u → b = a ∧ u = T := fun b u z => by
      by_cases q : b = a
      · rw [if_pos q] at z
        exact ⟨q, (Option.some.inj z).symm⟩
      · rw [if_neg q] at z
        cases z
    refine core (fun b => if b = a then some T else none) ⟨fun b => ?_, fun b z => ?_, fun _ => hk, noD⟩ (.inl (.inr ⟨{ cls := .type "list", data := .seq vs.toArray }, if_pos rfl⟩)) (fun b u z => ?_)
    · by_cases q : b = a
      · exact .inr ⟨_, _, if_pos q⟩
      · exact .inl (if_neg q)
    · exact Classical.byContradiction fun q => z (if_neg q)
    · obtain ⟨e1, e2⟩ := tA b u z
      subst e1
      subst e2
      exact ⟨ha, by rw [List.length_map]; exact hl, vs, _, rv, ha⟩
end
/-- the goal that the head leaves, from the law's promise in calm room -/
theorem walk_calm {l : PySem.W.OpenLaw} {n k : Nat} {q : Program} {loose : List Str} {XP : (Str → Option Value) → Heap → Prop} {YP : World → Heap → Prop} {d : DefRec} {K : Params → PySem.W.Frag} {sp : PySem.W.Frag → Sp} {x : Str}
    (hn : l.most = some n) (hn2 : n ≤ sizeLine) (hdf : d.params.defaults = []) (hr : Room k callerA) (hY : ∀ (w : World) (h : Heap), YP w h → (K w.params).In h)
    (F : ∀ (w : World) (mg : Str → Option Value) (fa : Addr) (h : Heap), (K w.params).In h → h.Ns mainGlobals mg → mg d.name = some (.ref fa) →
      ∃ fd : FuncData, (∀ (s : Shared) (u : Value), BindsTo s fd ⟨[u], []⟩ [(x, u)]) ∧ ∀ base : Heap, (K w.params).In base → base.Ns mainGlobals mg → FnG l.prog w (K w.params) mg base k fa fd [x] (sp (K w.params)))
    (hsp : ∀ (K : PySem.W.Frag) (H : Hp) (a : Addr) (ns : List Int), ns.length ≤ n → Only H → SqL K H a (ns.map V.int) → sp K [.ref a] H (fun v _ => v = .bl true) fun _ _ _ => False) :
    PySem.W.WalkO q loose XP YP l.row.toRowW d [] (fun f vs => PySem.call f vs) :=
  Att.attach_call hn hdf fun w s₀ s₁ mg mb fa o pm cd doc a vs ns G Y ho hd hcd hmg hobj hints hlen hg => by
    obtain ⟨fd, hb, hF⟩ := F w mg fa _ (hY w _ Y) G.T.g hmg
    exact law_goes (hY w _ Y) G.T.g G.T.b G.T.builtins G.T.nolimit hg hobj hints (Nat.le_trans hlen hn2) hr hF hb fun H hO hS => hsp _ H a ns hlen hO hS

/-! ### repr of data, in calm room -/
section
variable {X : Cx}
/-- repr(x) of data: its text is the data's -/
def rRepr (K : PySem.W.Frag) : List V → Hp → VK → Prop := fun xs H Q => ∃ (a : Addr) (d : PyData), xs = [.ref a] ∧ Dp K H (.ref a) d ∧ d.showable = true ∧ d.hasDict = false ∧ d.depth < 64 ∧ d.shown.length ≤ sizeLine ∧ Q (.str d.shown) H
theorem call_repr_data (hc : Calm X.A) (hu : X.A.units + 64 < cLine) : CallR X (.builtin "repr") (rRepr X.K) := by
  intro pins s σ H xs us Q I r h
  obtain ⟨a, d, rfl, hd, hs, hn, hz, hl, q⟩ := h
  obtain ⟨u, rfl, r1⟩ := vals1 r
  cases (show u = Value.ref a from r1)
  obtain ⟨as, hr⟩ := Dp.reads I d _ _ hd r1
  refine repr_of_reads' (h₀ := s.heap) hr hs (fun z => ?_) hc (by omega) (fun _ _ e => e) (fun h' u tk hk => ?_) hl
  · rw [hn] at z
    cases z
  · exact ⟨.str _, H, I.kept hk, ⟨_, rfl⟩, q⟩
/-- a power of any two written numbers that is not too long -/
def CPowW (i j : Int) : Prop := 0 ≤ j ∧ (Builtin.Int.intBits i : Int) * j ≤ 2 ^ 27
theorem op_powW : OpR X (binaryOp .Pow) (rI CPowW fun i j => .int (i ^ j.toNat)) := opI fun _ _ _ _ _ _ _ hc q => pow_int hc.1 hc.2 q
end

/-! ### names that stand for defs -/
/-- the name x stands for a def that keeps the promise sp in calm room, by at most level k -/
def Cg (P : Program) (w : World) (K : PySem.W.Frag) (mg : Str → Option Value) (base : Heap) (k : Nat) (x : Str) (sp : Sp) : Prop :=
  ∃ (f : Addr) (fd : FuncData) (ps : List Str), FnG P w K mg base k f fd ps sp ∧ mg x = some (.ref f) ∧ PySem.W.keepIn K (.ref f) = true ∧ Binds K fd ps []
/-- the def st of the text stands at the name x -/
def Df (K : PySem.W.Frag) (mg : Str → Option Value) (x : Str) (st : Stmt) (ps : List Str) : Prop :=
  ∃ (f : Addr) (fd : FuncData), Fun K x x st f fd ∧ mg x = some (.ref f) ∧ Binds K fd ps []
section
variable {P : Program} {w : World} {K : PySem.W.Frag} {mg : Str → Option Value} {base : Heap}
theorem FnG.mono {j k : Nat} {f : Addr} {fd : FuncData} {ps : List Str} {sp : Sp} (F : FnG P w K mg base j f fd ps sp) (h : j ≤ k) : FnG P w K mg base k f fd ps sp :=
  ⟨F.count, fun A outer s H args us vs Q E hc hr => F.goes A outer s H args us vs Q E hc (hr.mono h)⟩
theorem Cg.mono {j k : Nat} {x : Str} {sp : Sp} (G : Cg P w K mg base j x sp) (h : j ≤ k) : Cg P w K mg base k x sp := by
  obtain ⟨f, fd, ps, F, m, kp, b⟩ := G
  exact ⟨f, fd, ps, F.mono h, m, kp, b⟩
/-- a name's promise by its def's body -/
theorem Df.ok {x : Str} {st : Stmt} {N ps : List Str} {k : Nat} {sp : Sp} (D : Df K mg x st ps) (S : FnScope N ps (defScope st)) (len : ∀ vs H Q E, sp vs H Q E → vs.length = ps.length)
    (body : ∀ (cdv : Value) (A : Around) (outer : List Env) (s : Shared) (H : Hp) (vs : List V) (Q : VK) (E : XK) (f : Addr), Calm (A.deeper (envOfC x (defScope st) s.heap.objs.size f cdv)) → Room k (A.deeper (envOfC x (defScope st) s.heap.objs.size f cdv)) → sp vs H Q E →
      ∃ t, PSs (cxOf CX0 P w K mg base N x (defScope st) f cdv A outer s H E).nox (defBody st) t ∧ t { nx := fun _ H' => Q .non H', rt := Q } (start N vs) H) : Cg P w K mg base (k + 1) x sp := by
  obtain ⟨f, fd, F, m, b⟩ := D
  exact ⟨f, fd, ps, goes_by F S len fun cdv A outer s H vs Q E hc hr h => body cdv A outer s H vs Q E f hc hr h, m, F.kp, b⟩
/-- .. where what runs around does not matter -/
theorem Df.mk {x : Str} {st : Stmt} {ps : List Str} {h : Heap} {f : Addr} {oc : Value} {od an : Option Addr} {osl : Array (Option Value)} {kV doc pm cdv ct : Value} (X : K.In h) (G : h.Ns mainGlobals mg) (a : PySem.W.nsIn K mainGlobals x = some (some (.ref f)))
    (l : K.lookup f = some ⟨oc, od, .func (PySem.W.fnOf x x (defArgs st) (defBody st) (defScope st) .none kV doc pm an cdv ct), osl⟩) (c : PySem.W.codeIn K cdv x = true) (k : PySem.W.keepIn K (.ref f) = true)
    (b : ∀ (kV doc pm : Value) (an : Option Addr) (cdv ct : Value) (us : List Value), us.length = ps.length → bindArgs (PySem.W.fnOf x x (defArgs st) (defBody st) (defScope st) .none kV doc pm an cdv ct) ⟨us, []⟩ = pure (ps.zip us)) : Df K mg x st ps :=
  ⟨f, _, fun_mk (st := st) l c k, PySem.W.mg_of X G a, (fun_mk (st := st) l c k).binds b⟩
end
section
variable {X : Cx} {j k : Nat} {sp : Sp} {E : XK} {x : Str} {p pos : Pos} {e : Expr} {es : List Expr} {t : TA}
theorem pe_cg (G : Cg X.prog X.w X.K X.mg X.base j x sp) (hc : Calm X.A) (hr : Room k X.A) (hg : Gl X x) (ha : PA X (e :: es) t) (hj : j ≤ k := by decide) (hx : Passes CX0 X E := by exact pass0) (hdb : (x == ("__debug__" : Str)) = false := by decide)
    (he : starEach (e :: es) X.env = (false, eval e X.env) :: starEach es X.env := by rfl) (hpl : (backTo pos (starEach es X.env)).any (·.1) = false := by rfl) : PE X (.Call (.Name x p) (e :: es) [] pos) (tCall sp [] E t) := by
  obtain ⟨f, fd, ps, F, m, kp, b⟩ := G
  exact pe_callG F hc (hr.mono hj) hg m kp b .nil hx ha hdb he hpl
theorem pe_cg0 (G : Cg X.prog X.w X.K X.mg X.base j x sp) (hc : Calm X.A) (hr : Room k X.A) (hg : Gl X x) (hj : j ≤ k := by decide) (hx : Passes CX0 X E := by exact pass0) (hdb : (x == ("__debug__" : Str)) = false := by decide) :
    PE X (.Call (.Name x p) [] [] pos) (tCall sp [] E tNil) := by
  obtain ⟨f, fd, ps, F, m, kp, b⟩ := G
  exact pe_callG0 F hc (hr.mono hj) hg m kp b .nil hx hdb
end

/-! ### the dice of all laws: a list of three ints, at an address of its own -/
def dz (g s c : Int) : HO := .lst [.int g, .int s, .int c]
def Dice (H : Hp) (d : Addr) : Prop := ∃ g s c, H d = some (dz g s c)
/-- all but the dice stays, more may stand -/
def Past (d : Addr) (H H' : Hp) : Prop := (∀ b o, b ≠ d → H b = some o → H' b = some o) ∧ Dice H' d
theorem Past.dice {d : Addr} {H H' : Hp} (h : Past d H H') : Dice H' d := h.2
theorem Past.trans {d : Addr} {H H1 H2 : Hp} (a : Past d H H1) (b : Past d H1 H2) : Past d H H2 := ⟨fun x o n e => b.1 x o n (a.1 x o n e), b.2⟩
theorem Past.refl {d : Addr} {H : Hp} (h : Dice H d) : Past d H H := ⟨fun _ _ _ e => e, h⟩
theorem Past.upd {d : Addr} {H : Hp} (g s c : Int) : Past d H (L2.upd H d (dz g s c)) := ⟨fun x o n e => by rw [upd_ne n]; exact e, g, s, c, upd_same⟩
theorem Past.same {d : Addr} {H H' : Hp} (hd : Dice H d) (h : Same H H') : Past d H H' := by
  obtain ⟨g, s, c, e⟩ := hd
  exact ⟨fun x o _ q => h x o q, g, s, c, h _ _ e⟩
theorem Past.new {d p : Addr} {H : Hp} {o : HO} (hd : Dice H d) (h : H p = none) : Past d H (L2.upd H p o) := Past.same hd fun b x e => by
  rw [upd_ne (ne_of_none e h)]
  exact e
/-- what is kept: anything of another kind than the dice, or at another place -/
theorem Past.keep {d b : Addr} {H H' : Hp} {o : HO} (h : Past d H H') (n : b ≠ d) (e : H b = some o) : H' b = some o := h.1 b o n e
theorem Dice.ne {H : Hp} {d p : Addr} (h : Dice H d) (n : H p = none) : p ≠ d := by
  obtain ⟨g, s, c, e⟩ := h
  exact (ne_of_none e n).symm
theorem Past.seq {K : PySem.W.Frag} {d a : Addr} {xs : List V} {H H' : Hp} (h : Past d H H') (n : a ≠ d) (s : SqL K H a xs) : SqL K H' a xs := by
  rcases s with (s | ⟨o, s⟩) | s
  · exact .inl (.inl (h.1 _ _ n s))
  · exact .inl (.inr ⟨o, h.1 _ _ n s⟩)
  · exact .inr s

/-- the law's own def, by its address -/
theorem law_def {st : Stmt} {x : Str} {K : PySem.W.Frag} {mg : Str → Option Value} {h : Heap} {f fa : Addr} {oc : Value} {od an : Option Addr} {osl : Array (Option Value)} {kV doc pm cdv ct : Value} (X : K.In h) (G : h.Ns mainGlobals mg) (hfa : mg "law" = some (.ref fa))
    (hb : ∀ (kV doc pm : Value) (an : Option Addr) (cdv ct : Value) (s : Shared) (v : Value), BindsTo s (PySem.W.fnOf "law" "law" (defArgs st) (defBody st) (defScope st) .none kV doc pm an cdv ct) ⟨[v], []⟩ [(x, v)]) (a : PySem.W.nsIn K mainGlobals "law" = some (some (.ref f)))
    (l : K.lookup f = some ⟨oc, od, .func (PySem.W.fnOf "law" "law" (defArgs st) (defBody st) (defScope st) .none kV doc pm an cdv ct), osl⟩) (c : PySem.W.codeIn K cdv "law" = true) (k : PySem.W.keepIn K (.ref f) = true) :
    ∃ fd : FuncData, (∀ (s : Shared) (v : Value), BindsTo s fd ⟨[v], []⟩ [(x, v)]) ∧ Fun K "law" "law" st fa fd := by
  cases hfa.symm.trans (PySem.W.mg_of X G a)
  exact ⟨_, hb kV doc pm an cdv ct, fun_mk (st := st) l c k⟩
end Vb
set_option Elab.async false
set_option linter.all false
set_option autoImplicit false
set_option maxRecDepth 100000
set_option maxHeartbeats 4000000
namespace K00
open PySem PySem.Spec PyProof.Rows L2 Vb
def topS (i : Nat) : Stmt := PySem.Challenge.pw_mendbooks_k00_words_judged.main.body.getD i (.Pass ⟨0, 0, 0, 0⟩)
abbrev s_l_dice : Stmt := topS 8
theorem sc_l_dice : FnScope ["_law_script", "_law_spot", "_law_cell", "_law_great", "_law_seed"] ["_law_script", "_law_spot"] (defScope s_l_dice) := ⟨rfl, rfl, rfl, by decide +kernel, rfl, by decide +kernel, by decide +kernel⟩
abbrev s_l_roll : Stmt := topS 9
theorem sc_l_roll : FnScope ["_law_dice_here", "_law_total", "_law_found", "_law_one", "_law_two"] ["_law_dice_here", "_law_total"] (defScope s_l_roll) := ⟨rfl, rfl, rfl, by decide +kernel, rfl, by decide +kernel, by decide +kernel⟩
abbrev s_l_pick : Stmt := topS 10
theorem sc_l_pick : FnScope ["_law_dice_here", "_law_items"] ["_law_dice_here", "_law_items"] (defScope s_l_pick) := ⟨rfl, rfl, rfl, by decide +kernel, rfl, by decide +kernel, by decide +kernel⟩
/-- dice(script, spot): new dice -/
def spDice (K : PySem.W.Frag) : Sp := fun vs H Q _ => ∃ (a : Addr) (ns : List Int) (i : Int), vs = [.ref a, .int i] ∧ SqL K H a (ns.map V.int) ∧ 0 ≤ i ∧ ∀ d g s, H d = none → Q (.ref d) (upd H d (dz g s 0))
/-- roll(dice, total): an int from 0 on and below total -/
def spRoll : Sp := fun vs H Q _ => ∃ (d : Addr) (n : Int), vs = [.ref d, .int n] ∧ Dice H d ∧ 0 < n ∧ n.natAbs < 2 ^ 8000 ∧ ∀ r H', Past d H H' → 0 ≤ r → r < n → Q (.int r) H'
section
variable {P : Program} {w : World} {K : PySem.W.Frag} {mg : Str → Option Value} {base : Heap}
theorem ok_roll (D : Df K mg "_law_roll" s_l_roll ["_law_dice_here", "_law_total"]) (z_int : mg "int" = none) : Cg P w K mg base 1 "_law_roll" spRoll := by
  refine D.ok sc_l_roll (fun vs H Q E h => ?_) (fun cdv A outer s H vs Q E f hc hr h => ?_)
  · obtain ⟨d, n, rfl, _⟩ := h
    rfl
  · obtain ⟨d, n, rfl, ⟨g, s, c, hd⟩, n0, nz, q⟩ := h
    refine ⟨_, (pss_cons (ps_if (pt_cmpR op_gt (pe_ix ix_list (pv 0) pe_int (fun _ _ => rfl)) pe_int (nomark _))
      (pss_cons (ps_set (i := 2) sc_l_roll.nd rfl (Or.inl rfl) (pe_op op_mod (pe_callTy call_int1 (by rfl) z_int (by decide +kernel) (pa_cons (pe_ix ix_list (pv 0) pe_int (fun _ _ => rfl)) pa_nil)) (pv 1)))
      (pss_cons (ps_asg (pe_op op_fdivW (pe_ix ix_list (pv 0) pe_int (fun _ _ => rfl)) (pv 1)) (pg_sub (pv 0) pe_int set_list))
      (pss_one (ps_ret (pv 2)))))
      pss_nil)
      (pss_cons (ps_asg (pe_op op_add (pe_ix ix_list (pv 0) pe_int (fun _ _ => rfl)) pe_int) (pg_sub (pv 0) pe_int set_list))
      (pss_cons (ps_set (i := 3) sc_l_roll.nd rfl (Or.inl rfl) (pe_op op_mod (pe_callTy call_int1 (by rfl) z_int (by decide +kernel) (pa_cons (pe_op op_add (pe_ix ix_list (pv 0) pe_int (fun _ _ => rfl)) (pe_op op_mul pe_int (pe_ix ix_list (pv 0) pe_int (fun _ _ => rfl)))) pa_nil)) pe_int))
      (pss_cons (ps_set (i := 4) sc_l_roll.nd rfl (Or.inl rfl) (pe_op op_add (pe_op op_mul (pe_op op_mod (pe_callTy call_int1 (by rfl) z_int (by decide +kernel) (pa_cons (pe_op op_mul (pv 3) (pv 3)) pa_nil)) pe_int) (pv 3)) (pe_op op_mul pe_int (pe_ix ix_list (pv 0) pe_int (fun _ _ => rfl)))))
      (pss_one (ps_ret (pe_op op_mod (pe_callTy call_int1 (by rfl) z_int (by decide +kernel) (pa_cons (pe_op op_fdiv (pe_op op_mod (pe_callTy call_int1 (by rfl) z_int (by decide +kernel) (pa_cons (pe_op op_add (pv 4) (pe_op op_mul pe_int (pe_ix ix_list (pv 0) pe_int (fun _ _ => rfl)))) pa_nil)) pe_int) pe_int) pa_nil)) (pv 1)))))))), ?_⟩
    have a0 : ∀ x y z : Int, atI [V.int x, V.int y, V.int z] 0 = some (V.int x) := fun _ _ _ => rfl
    have a1 : ∀ x y z : Int, atI [V.int x, V.int y, V.int z] 1 = some (V.int y) := fun _ _ _ => rfl
    have a2 : ∀ x y z : Int, atI [V.int x, V.int y, V.int z] 2 = some (V.int z) := fun _ _ _ => rfl
    have hS : SqL K H d [.int g, .int s, .int c] := .inl (.inl hd)
    refine ⟨_, rfl, d, _, 0, .int g, rfl, rfl, hS, a0 _ _ _, _, _, rfl, rfl, _, rfl, ite2 (fun _ => ?_) (fun _ => ?_)⟩
    · refine ⟨_, rfl, d, _, 0, .int g, rfl, rfl, hS, a0 _ _ _, .inl ⟨_, rfl, _, rfl, _, _, rfl, rfl, n0, ?_⟩⟩
      refine ⟨_, rfl, d, _, 0, .int g, rfl, rfl, hS, a0 _ _ _, _, rfl, _, _, rfl, rfl, wide_div n0 nz (by decide) (by decide), ?_⟩
      refine ⟨_, rfl, d, _, 0, 0, rfl, rfl, hd, rfl, ?_⟩
      refine ⟨_, rfl, ?_⟩
      exact q _ _ (Past.upd (g / n) s c) (Int.emod_nonneg _ (by omega)) (Int.emod_lt_of_pos _ n0)
    · refine ⟨_, rfl, d, _, 2, .int c, rfl, rfl, hS, a2 _ _ _, _, _, rfl, rfl, ?_⟩
      refine ⟨_, rfl, d, _, 2, 2, rfl, rfl, hd, rfl, ?_⟩
      have hT : SqL K (upd H d (dz g s (c + 1))) d [.int g, .int s, .int (c + 1)] := .inl (.inl upd_same)
      have m0 : ∀ x y : Int, 0 < y → 0 ≤ x % y ∧ x % y < y := fun x y h => ⟨Int.emod_nonneg _ (by omega), Int.emod_lt_of_pos _ h⟩
      have hone := m0 (s + 715827883 * (c + 1)) 2305843009213693951 (by decide)
      refine ⟨_, rfl, d, _, 1, .int s, rfl, rfl, hT, a1 _ _ _, _, rfl, d, _, 2, .int (c + 1), rfl, rfl, hT, a2 _ _ _, _, _, rfl, rfl, by constructor <;> decide, _, _, rfl, rfl, .inl ⟨_, rfl, _, _, rfl, rfl, (by show (0 : Int) < _; decide), ?_⟩⟩
      generalize (s + 715827883 * (c + 1)) % 2305843009213693951 = one at hone ⊢
      refine ⟨_, rfl, _, rfl, _, _, rfl, rfl, (.inl ⟨by omega, by omega⟩), .inl ⟨_, rfl, _, _, rfl, rfl, (by show (0 : Int) < _; decide), ?_⟩⟩
      have htwo := m0 (one * one) 1152921504606846869 (by decide)
      generalize one * one % 1152921504606846869 = two at htwo ⊢
      refine ⟨_, rfl, _, _, rfl, rfl, (.inl ⟨by omega, by omega⟩), _, rfl, d, _, 2, .int (c + 1), rfl, rfl, hT, a2 _ _ _, _, _, rfl, rfl, by constructor <;> decide, _, _, rfl, rfl, ?_⟩
      refine ⟨_, rfl, _, rfl, d, _, 1, .int s, rfl, rfl, hT, a1 _ _ _, _, _, rfl, rfl, by constructor <;> decide, _, _, rfl, rfl, .inl ⟨_, rfl, _, _, rfl, rfl, (by show (0 : Int) < _; decide), _, _, rfl, rfl, ⟨by decide, by decide⟩, .inl ⟨_, rfl, _, rfl, _, _, rfl, rfl, n0, ?_⟩⟩⟩
      exact q _ _ (Past.upd g s (c + 1)) (m0 _ n n0).1 (m0 _ n n0).2

theorem pow_10_58 : CPowW 10 58 := ⟨by decide, by decide +kernel⟩
theorem pow_10_580 : CPowW ((10 : Int) ^ (58 : Int).toNat) 10 := ⟨by decide, by decide +kernel⟩
theorem pos_10_580 : (0 : Int) < ((10 : Int) ^ (58 : Int).toNat) ^ (10 : Int).toNat := by decide +kernel
theorem pow_10_18 : CPowW 10 18 := ⟨by decide, by decide +kernel⟩
theorem ok_dice (D : Df K mg "_law_dice" s_l_dice ["_law_script", "_law_spot"]) (z_int : mg "int" = none) (z_len : mg "len" = none) (z_abs : mg "abs" = none) (z_max : mg "max" = none) : Cg P w K mg base 1 "_law_dice" (spDice K) := by
  refine D.ok sc_l_dice (fun vs H Q E h => ?_) (fun cdv A outer s H vs Q E f hc hr h => ?_)
  · obtain ⟨a, ns, i, rfl, _⟩ := h
    rfl
  · obtain ⟨a, ns, i, rfl, hS, i0, q⟩ := h
    refine ⟨_, (pss_cons (ps_set (i := 2) sc_l_dice.nd rfl (Or.inl rfl) (pe_ifExp (pt_cmpR op_lt (pv 1) (pe_callB call_len_seq (by rfl) z_len PySem.boot_len (pa_cons (pv 0) pa_nil)) (nomark _)) (pe_ix ix_list (pv 0) (pv 1) (fun _ _ => rfl)) (pe_op op_add (pe_op op_mul pe_int (pv 1)) pe_int)))
      (pss_cons (ps_set (i := 3) sc_l_dice.nd rfl (Or.inl rfl) (pe_op op_mod (pe_callTy call_int1 (by rfl) z_int (by decide +kernel) (pa_cons (pe_callB call_abs (by rfl) z_abs (by decide +kernel) (pa_cons (pv 2) pa_nil)) pa_nil)) (pe_op op_powW (pe_op op_powW pe_int pe_int) pe_int)))
      (pss_cons (ps_set (i := 4) sc_l_dice.nd rfl (Or.inl rfl) (pe_op op_add (pe_op op_add (pe_op op_add (pe_op op_mul (pe_op op_mod (pe_callTy call_int1 (by rfl) z_int (by decide +kernel) (pa_cons (pv 3) pa_nil)) pe_int) pe_int) (pe_op op_mul pe_int (pv 1))) (pe_op op_mul pe_int (pe_callTy call_int1 (by rfl) z_int (by decide +kernel) (pa_cons (pe_cmpR op_lt (pv 2) pe_int (nomark _)) pa_nil)))) pe_int))
      (pss_one (ps_ret (pe_lst (pa_cons (pe_callB (call_max2 rfl) (by rfl) z_max (by decide +kernel) (pa_cons pe_int (pa_cons (pe_op op_sub (pv 3) (pe_op op_powW pe_int pe_int)) pa_nil))) (pa_cons (pe_op op_mod (pe_callTy call_int1 (by rfl) z_int (by decide +kernel) (pa_cons (pv 4) pa_nil)) pe_int) (pa_cons pe_int pa_nil))))))))), ?_⟩
    refine ⟨_, rfl, _, rfl, a, ns.map V.int, rfl, .inl hS, _, _, rfl, rfl, _, rfl, ite2 (fun e => ?_) (fun _ => ?_)⟩
    case' refine_2.refine_1 =>
      have lt : i < ((ns.map V.int).length : Int) := of_decide_eq_true e
      have il : i.toNat < ns.length := by
        rw [List.length_map] at lt
        omega
      have at_i : atI (ns.map V.int) i = some (.int ns[i.toNat]) := by
        refine at_of (j := i.toNat) (by omega) ?_
        rw [List.getElem?_map, List.getElem?_eq_getElem il]
        rfl
      refine ⟨_, rfl, _, rfl, a, _, i, _, rfl, rfl, hS, at_i, ?_⟩
      generalize ns[i.toNat] = cell
    case' refine_2.refine_2 =>
      refine ⟨_, rfl, _, _, rfl, rfl, by constructor <;> decide, _, _, rfl, rfl, ?_⟩
      generalize 71 * i + 37 = cell
    all_goals
      refine ⟨_, rfl, _, rfl, .inl ⟨_, rfl, _, _, rfl, rfl, pow_10_58, _, _, rfl, rfl, pow_10_580, _, _, rfl, rfl, pos_10_580, ?_⟩⟩
      refine ⟨_, rfl, .inl ⟨_, rfl, _, _, rfl, rfl, (by show (0 : Int) < _; decide), _, _, rfl, rfl, .inr (by constructor <;> decide), _, rfl, _, _, rfl, rfl, by constructor <;> decide, _, _, rfl, rfl, _, rfl, _, _, rfl, rfl, .inr ⟨_, rfl, ?_⟩⟩⟩
      refine ⟨_, _, rfl, rfl, by constructor <;> decide, _, _, rfl, rfl, _, _, rfl, rfl, ?_⟩
      refine ⟨_, rfl, _, _, rfl, rfl, pow_10_18, _, _, rfl, rfl, _, _, rfl, _, rfl, .inl ⟨_, rfl, _, _, rfl, rfl, (by show (0 : Int) < _; decide), ?_⟩⟩
      exact ⟨by show 3 ≤ sizeLine; decide, fun p hp => q p _ _ hp⟩

end
theorem at_of' {α : Type} {xs : List α} {z : Int} {j : Nat} {v : α} (e : z = (j : Int)) (h : xs[j]? = some v) : atI xs z = some v := by
  rw [e]
  exact atI_nat h
/-- what pick draws from: a list, a tuple or a text that is not empty; what may come of it -/
def Some1 (K : PySem.W.Frag) (H : Hp) (d : Addr) : V → (V → Prop) → Prop := fun x p =>
  (∃ l xs, x = .ref l ∧ l ≠ d ∧ (SqL K H l xs ∨ SqT K H l xs) ∧ xs ≠ [] ∧ xs.length ≤ 1000000 ∧ ∀ v ∈ xs, p v) ∨
  (∃ z : Str, x = .str z ∧ 0 < z.length ∧ z.length ≤ 1000000 ∧ ∀ c ∈ z.cps.toList, p (.str ⟨#[c]⟩))
/-- pick(dice, items): one of them -/
def spPick (K : PySem.W.Frag) : Sp := fun vs H Q _ => ∃ (d : Addr) (x : V) (p : V → Prop), vs = [.ref d, x] ∧ Dice H d ∧ Some1 K H d x p ∧ ∀ v H', Past d H H' → p v → Q v H'
theorem tup_past {K : PySem.W.Frag} {d a : Addr} {xs : List V} {H H' : Hp} (h : Past d H H') (n : a ≠ d) (s : SqT K H a xs) : SqT K H' a xs := by
  rcases s with (s | ⟨o, s⟩) | s
  · exact .inl (.inl (h.1 _ _ n s))
  · exact .inl (.inr ⟨o, h.1 _ _ n s⟩)
  · exact .inr s
section
variable {P : Program} {w : World} {K : PySem.W.Frag} {mg : Str → Option Value} {base : Heap}
theorem small8000 {n : Nat} (h : n ≤ 1000000) : ((n : Int)).natAbs < 2 ^ 8000 := by
  have : (1000000 : Nat) < 2 ^ 8000 := by decide +kernel
  omega
theorem fits_million {n : Nat} (h : n ≤ 1000000) : n ≤ sizeLine := Nat.le_trans h (by decide)
theorem ok_pick (D : Df K mg "_law_pick" s_l_pick ["_law_dice_here", "_law_items"]) (G_l_roll : Cg P w K mg base 1 "_law_roll" spRoll) (z_len : mg "len" = none) : Cg P w K mg base 2 "_law_pick" (spPick K) := by
  refine D.ok sc_l_pick (fun vs H Q E h => ?_) (fun cdv A outer s H vs Q E f hc hr h => ?_)
  · obtain ⟨d, x, p, rfl, _⟩ := h
    rfl
  · obtain ⟨d, x, p, rfl, hd, hx, q⟩ := h
    refine ⟨_, (pss_one (ps_ret (pe_ix ix_seq (pv 1) (pe_cg G_l_roll hc hr (by rfl) (pa_cons (pv 0) (pa_cons (pe_callB call_len (by rfl) z_len (by decide +kernel) (pa_cons (pv 1) pa_nil)) pa_nil))) (fun _ _ => rfl)))), ?_⟩
    rcases hx with ⟨l, xs, rfl, ld, hs, ne, hl, hp⟩ | ⟨z, rfl, z0, hl, hp⟩
    · have x0 : 0 < xs.length := List.length_pos_iff.mpr ne
      refine ⟨_, rfl, _, rfl, _, rfl, _, xs.length, rfl, ?_, d, _, rfl, hd, by omega, small8000 hl, fun r H' pa r0 rn => ?_⟩
      · exact hs.elim (fun h => .inl ⟨_, h, rfl⟩) (fun h => .inr ⟨_, h, rfl⟩)
      · have rl : r.toNat < xs.length := by omega
        have at_r : atI xs r = some xs[r.toNat] := at_of (j := r.toNat) (by omega) (List.getElem?_eq_getElem rl)
        rcases hs with hs | hs
        · exact .inl ⟨l, xs, r, _, rfl, rfl, pa.seq ld hs, at_r, q _ _ pa (hp _ (List.getElem_mem rl))⟩
        · exact .inr (.inl ⟨l, xs, r, _, rfl, rfl, tup_past pa ld hs, at_r, q _ _ pa (hp _ (List.getElem_mem rl))⟩)
    · refine ⟨_, rfl, _, rfl, _, rfl, _, z.length, rfl, ⟨fits_million hl, rfl⟩, d, _, rfl, hd, by omega, small8000 hl, fun r H' pa r0 rn => ?_⟩
      have el : z.cps.toList.length = z.length := by simp [Str.length]
      have rl : r.toNat < z.cps.toList.length := by omega
      exact .inr (.inr ⟨z, r, _, rfl, rfl, fits_million hl, at_of' (j := r.toNat) (by omega) (List.getElem?_eq_getElem rl), q _ _ pa (hp _ (List.getElem_mem rl))⟩)
end
end K00
set_option Elab.async false
set_option linter.all false
set_option autoImplicit false
set_option maxRecDepth 100000
set_option maxHeartbeats 4000000
namespace K00
open PySem PySem.Spec PyProof.Rows L2 Vb
abbrev s_l_signs : Stmt := topS 11
theorem sc_l_signs : FnScope ["_law_small", "_law_great"] [] (defScope s_l_signs) := ⟨rfl, rfl, rfl, by decide +kernel, rfl, by decide +kernel, by decide +kernel⟩
abbrev s_l_number : Stmt := topS 12
theorem sc_l_number : FnScope ["_law_dice_here", "_law_near", "_law_found"] ["_law_dice_here"] (defScope s_l_number) := ⟨rfl, rfl, rfl, by decide +kernel, rfl, by decide +kernel, by decide +kernel⟩
abbrev s_l_text : Stmt := topS 13
theorem sc_l_text : FnScope ["_law_dice_here", "_law_word", "_law_at", "_law_sign", "_law_way", "_law_turn"] ["_law_dice_here"] (defScope s_l_text) := ⟨rfl, rfl, rfl, by decide +kernel, rfl, by decide +kernel, by decide +kernel⟩
abbrev s_l_other : Stmt := topS 14
theorem sc_l_other : FnScope ["_law_dice_here", "_law_word", "_law_number_here", "_law_some"] ["_law_dice_here", "_law_word", "_law_number_here"] (defScope s_l_other) := ⟨rfl, rfl, rfl, by decide +kernel, rfl, by decide +kernel, by decide +kernel⟩
/-- the text that signs() tells -/
def signsT : Str := ("abcdefghijklmnopqrstuvwxyz" : Str) ++ ("ABCDEFGHIJKLMNOPQRSTUVWXYZ" : Str) ++ ("0123456789 !#$&()*+,-./:;<=>?\x40[]^_`{|}~\n\"'\\" : Str)
theorem signsT_len : 0 < signsT.length ∧ signsT.length ≤ 1000 := by decide +kernel
theorem signsT_26 : 0 < (cutS signsT none (some 26)).length ∧ (cutS signsT none (some 26)).length ≤ 1000 := by decide +kernel
def spSigns : Sp := fun vs H Q _ => vs = [] ∧ ∀ H', Same H H' → Q (.str signsT) H'
/-! ### texts of plain signs -/
def Asc (z : Str) : Prop := ∀ c ∈ z.cps.toList, c < 128
theorem asc_app {x y : Str} (a : Asc x) (b : Asc y) : Asc (x ++ y) := fun c hc => by
  have e : (x ++ y).cps.toList = x.cps.toList ++ y.cps.toList := by
    show (x.cps ++ y.cps).toList = _
    exact Array.toList_append
  rw [e] at hc
  exact (List.mem_append.mp hc).elim (a c) (b c)
theorem asc_cut {z : Str} (a : Asc z) (lo hi : Option Int) : Asc (cutS z lo hi) := fun c hc => by
  unfold cutS at hc
  exact a c (List.mem_of_mem_drop (List.mem_of_mem_take hc))
theorem mem_joinL : ∀ {parts : List (List Nat)} {c : Nat}, c ∈ TL.joinL [] parts → ∃ p ∈ parts, c ∈ p
  | [], _, h => nomatch h
  | [p], c, h => ⟨p, List.mem_cons_self, h⟩
  | p :: q :: r, c, h => by
    rcases List.mem_append.mp (show c ∈ p ++ ([] ++ TL.joinL [] (q :: r)) from h) with h | h
    · exact ⟨p, List.mem_cons_self, h⟩
    · obtain ⟨p', hp, hc⟩ := mem_joinL (parts := q :: r) h
      exact ⟨p', List.mem_cons_of_mem _ hp, hc⟩
theorem asc_join {ys : List Str} (a : ∀ y ∈ ys, Asc y) : Asc (Txt.join (Str.ofString "") ys) := fun c hc => by
  rw [TL.join_eq] at hc
  have e : (Str.join (Str.ofString "") ys).cps.toList = TL.joinL [] (ys.map TL.tl) := TL.tl_join (Str.ofString "") ys
  rw [e] at hc
  obtain ⟨p, hp, hc⟩ := mem_joinL hc
  obtain ⟨y, hy, rfl⟩ := List.mem_map.mp hp
  exact a y hy c hc
theorem asc_signs : Asc signsT := by
  unfold Asc
  decide +kernel
theorem asc_one {z : Str} (a : Asc z) {c : Nat} (h : c ∈ z.cps.toList) : Asc ⟨#[c]⟩ := fun x hx => by
  have e : x = c := by simpa using hx
  rw [e]
  exact a c h
/-- what the three judges are asked of -/
def Judged (H : Hp) : V → Prop
  | .int i => i.natAbs < 10 ^ 100
  | .str z => z.length ≤ 1000 ∧ Asc z
  | .non => True
  | .bl _ => True
  | .ref a => (∃ xs, H a = some (.lst xs)) ∨ (∃ xs, H a = some (.tup xs)) ∨ ∃ kvs, H a = some (.dK kvs)
  | _ => False
def spNumber : Sp := fun vs H Q _ => ∃ d, vs = [.ref d] ∧ Dice H d ∧ ∀ i H', Past d H H' → i.natAbs < 10 ^ 100 → Q (.int i) H'
def spText : Sp := fun vs H Q _ => ∃ d, vs = [.ref d] ∧ Dice H d ∧ ∀ z H', Past d H H' → z.length ≤ 1000 → Asc z → Q (.str z) H'
def spOther : Sp := fun vs H Q _ => ∃ d z i, vs = [.ref d, .str z, .int i] ∧ Dice H d ∧ z.length ≤ 1000 ∧ Asc z ∧ i.natAbs < 10 ^ 100 ∧ ∀ v H', Past d H H' → Judged H' v → Q v H'
theorem Judged.same {H H' : Hp} (h : Same H H') : ∀ {v : V}, Judged H v → Judged H' v
  | .int _, j => j
  | .str _, j => j
  | .non, j => j
  | .bl _, j => j
  | .ref _, j => j.imp (fun ⟨xs, e⟩ => ⟨xs, h _ _ e⟩) fun j => j.imp (fun ⟨xs, e⟩ => ⟨xs, h _ _ e⟩) fun ⟨xs, e⟩ => ⟨xs, h _ _ e⟩
  | .byt _, j => j
  | .flt _, j => j
  | .ty _, j => j
section
variable {P : Program} {w : World} {K : PySem.W.Frag} {mg : Str → Option Value} {base : Heap}
theorem ok_signs (D : Df K mg "_law_signs" s_l_signs []) : Cg P w K mg base 1 "_law_signs" spSigns := by
  refine D.ok sc_l_signs (fun vs H Q E h => ?_) (fun cdv A outer s H vs Q E f hc hr h => ?_)
  · obtain ⟨rfl, _⟩ := h
    rfl
  · obtain ⟨rfl, q⟩ := h
    refine ⟨_, (pss_cons (ps_asg (pe_tup (pa_cons pe_str (pa_cons pe_str pa_nil))) (pg_tup (by rfl) (pgs_cons (pg_name (i := 0) sc_l_signs.nd rfl (Or.inl rfl)) (pgs_cons (pg_name (i := 1) sc_l_signs.nd rfl (Or.inl rfl)) pgs_nil))))
      (pss_one (ps_ret (pe_op op_add_str (pe_op op_add_str (pv 0) (pv 1)) pe_str)))), ?_⟩
    refine ⟨by show 2 ≤ sizeLine; decide, fun p np => ?_⟩
    refine ⟨p, _, rfl, .inl (.inl upd_same), rfl, _, _, rfl, _, [], rfl, rfl, ?_⟩
    refine ⟨_, rfl, _, rfl, _, _, rfl, rfl, by decide +kernel, _, _, rfl, rfl, by decide +kernel, q _ fun b o e => ?_⟩
    rw [upd_ne (ne_of_none e np)]
    exact e
theorem near_small : ∀ v ∈ [V.int 0, V.int 1, V.int (10 ^ (9 : Int).toNat), V.int (10 ^ (58 : Int).toNat), V.int (10 ^ (59 : Int).toNat), V.int (10 ^ (60 : Int).toNat), V.int (10 ^ (60 : Int).toNat), V.int (10 ^ (60 : Int).toNat), V.int (10 ^ (61 : Int).toNat), V.int (10 ^ (60 : Int).toNat * 10 ^ (38 : Int).toNat)],
    ∃ i : Int, v = .int i ∧ 0 ≤ i ∧ i ≤ 10 ^ 98 := by
  intro v hv
  simp only [List.mem_cons, List.not_mem_nil, or_false] at hv
  rcases hv with rfl | rfl | rfl | rfl | rfl | rfl | rfl | rfl | rfl | rfl <;> exact ⟨_, rfl, by decide +kernel, by decide +kernel⟩
theorem ok_number (D : Df K mg "_law_number" s_l_number ["_law_dice_here"]) (G_l_roll : Cg P w K mg base 1 "_law_roll" spRoll) (G_l_pick : Cg P w K mg base 2 "_law_pick" (spPick K)) : Cg P w K mg base 3 "_law_number" spNumber := by
  refine D.ok sc_l_number (fun vs H Q E h => ?_) (fun cdv A outer s H vs Q E f hc hr h => ?_)
  · obtain ⟨d, rfl, _⟩ := h
    rfl
  · obtain ⟨d, rfl, hd, q⟩ := h
    refine ⟨_, (pss_cons (ps_set (i := 1) sc_l_number.nd rfl (Or.inl rfl) (pe_lst (pa_cons pe_int (pa_cons pe_int (pa_cons (pe_op op_powW pe_int pe_int) (pa_cons (pe_op op_powW pe_int pe_int) (pa_cons (pe_op op_powW pe_int pe_int) (pa_cons (pe_op op_powW pe_int pe_int) (pa_cons (pe_op op_powW pe_int pe_int) (pa_cons (pe_op op_powW pe_int pe_int) (pa_cons (pe_op op_powW pe_int pe_int) (pa_cons (pe_op op_mulW (pe_op op_powW pe_int pe_int) (pe_op op_powW pe_int pe_int)) pa_nil))))))))))))
      (pss_cons (ps_set (i := 2) sc_l_number.nd rfl (Or.inl rfl) (pe_op op_sub (pe_op op_add (pe_cg G_l_pick hc hr (by rfl) (pa_cons (pv 0) (pa_cons (pv 1) pa_nil))) (pe_cg G_l_roll hc hr (by rfl) (pa_cons (pv 0) (pa_cons pe_int pa_nil)))) pe_int))
      (pss_cons (ps_if (pt_cmpR op_eq (pe_cg G_l_roll hc hr (by rfl) (pa_cons (pv 0) (pa_cons pe_int pa_nil))) pe_int (nomark _))
      (pss_one (ps_set (i := 2) sc_l_number.nd rfl (Or.inl rfl) (pe_cg G_l_roll hc hr (by rfl) (pa_cons (pv 0) (pa_cons (pe_op op_powW pe_int pe_int) pa_nil)))))
      pss_nil)
      (pss_one (ps_ret (pe_ifExp (pt_cmpR op_eq (pe_cg G_l_roll hc hr (by rfl) (pa_cons (pv 0) (pa_cons pe_int pa_nil))) pe_int (nomark _)) (pe_un un_neg (pv 2)) (pv 2))))))), ?_⟩
    have pw : ∀ n : Int, 0 ≤ n → n ≤ 1000 → CPowW 10 n := fun n h0 h1 => ⟨h0, by
      have : Builtin.Int.intBits 10 = 4 := by decide +kernel
      rw [this]
      omega⟩
    have w9 := pw 9 (by decide) (by decide)
    have w60 := pw 60 (by decide) (by decide)
    have w61 := pw 61 (by decide) (by decide)
    refine ⟨_, _, rfl, rfl, w9, _, _, rfl, rfl, pow_10_58, _, _, rfl, rfl, pw 59 (by decide) (by decide), _, _, rfl, rfl, w60, _, _, rfl, rfl, w60, _, _, rfl, rfl, w60, _, _, rfl, rfl, w61,
      _, _, rfl, rfl, w60, _, _, rfl, rfl, pw 38 (by decide) (by decide), _, _, rfl, rfl, by show _ < _; decide +kernel, by show 10 ≤ sizeLine; decide, fun p np => ?_⟩
    have pd : p ≠ d := hd.ne np
    have p1 := Past.new (o := .lst [V.int 0, V.int 1, V.int (10 ^ (9 : Int).toNat), V.int (10 ^ (58 : Int).toNat), V.int (10 ^ (59 : Int).toNat), V.int (10 ^ (60 : Int).toNat), V.int (10 ^ (60 : Int).toNat), V.int (10 ^ (60 : Int).toNat), V.int (10 ^ (61 : Int).toNat), V.int (10 ^ (60 : Int).toNat * 10 ^ (38 : Int).toNat)]) hd np
    refine ⟨_, rfl, _, rfl, d, _, (fun v => ∃ i : Int, v = .int i ∧ 0 ≤ i ∧ i ≤ 10 ^ 98), rfl, p1.dice, .inl ⟨p, _, rfl, pd, .inl (.inl (.inl upd_same)), nofun, by show 10 ≤ 1000000; decide, near_small⟩, fun v H2 p2 hv => ?_⟩
    obtain ⟨i, rfl, i0, i1⟩ := hv
    refine ⟨_, rfl, d, 7, rfl, p2.dice, by decide, by decide +kernel, fun r H3 p3 r0 r1 => ⟨_, _, rfl, rfl, _, _, rfl, rfl, ?_⟩⟩
    refine ⟨_, rfl, d, 3, rfl, p3.dice, by decide, by decide +kernel, fun r2 H4 p4 _ _ => ⟨rfl, _, rfl, ?_⟩⟩
    have p14 := ((p1.trans p2).trans p3).trans p4
    have fin : ∀ (x : Int) (H5 : Hp), Past d H H5 → x.natAbs ≤ 10 ^ 99 → (∃ v, (L2.start ["_law_dice_here", "_law_near", "_law_found"] [V.ref d, V.ref p, V.int x])[0]? = some (some v) ∧ True) := fun _ _ _ _ => ⟨_, rfl, trivial⟩
    refine ite2 (fun _ => ?_) (fun _ => ?_)
    · refine ⟨_, rfl, _, _, rfl, rfl, w61, d, _, rfl, p4.dice, by decide +kernel, by decide +kernel, fun r3 H5 p5 x0 x1 => ?_⟩
      refine ⟨_, rfl, d, 3, rfl, p5.dice, by decide, by decide +kernel, fun r4 H6 p6 _ _ => ⟨rfl, _, rfl, ite2 (fun _ => ?_) (fun _ => ?_)⟩⟩
      · exact ⟨_, rfl, _, rfl, q _ _ ((p14.trans p5).trans p6) (by have : (10 : Int) ^ (61 : Int).toNat < 10 ^ 100 := by decide +kernel
                                                                   omega)⟩
      · exact ⟨_, rfl, q _ _ ((p14.trans p5).trans p6) (by have : (10 : Int) ^ (61 : Int).toNat < 10 ^ 100 := by decide +kernel
                                                           omega)⟩
    · refine ⟨_, rfl, d, 3, rfl, p4.dice, by decide, by decide +kernel, fun r4 H6 p6 _ _ => ⟨rfl, _, rfl, ite2 (fun _ => ?_) (fun _ => ?_)⟩⟩
      · exact ⟨_, rfl, _, rfl, q _ _ (p14.trans p6) (by omega)⟩
      · exact ⟨_, rfl, q _ _ (p14.trans p6) (by omega)⟩

theorem Past.judged {d : Addr} {H H' : Hp} (h : Past d H H') {v : V} (j : Judged H v) (n : v ≠ .ref d) : Judged H' v := by
  cases v with
  | ref a =>
    have ad : a ≠ d := fun e => n (by rw [e])
    exact j.imp (fun ⟨xs, e⟩ => ⟨xs, h.1 _ _ ad e⟩) fun j => j.imp (fun ⟨xs, e⟩ => ⟨xs, h.1 _ _ ad e⟩) fun ⟨xs, e⟩ => ⟨xs, h.1 _ _ ad e⟩
  | _ => exact j
theorem sum_ones : ∀ {l : List Str}, (∀ y ∈ l, y.length = 1) → (l.map (·.length)).sum = l.length
  | [], _ => rfl
  | y :: l, h => by
    rw [List.map_cons, List.sum_cons, sum_ones (l := l) (fun z hz => h z (List.mem_cons_of_mem _ hz)), h y List.mem_cons_self, List.length_cons]
    omega
theorem ok_text (D : Df K mg "_law_text" s_l_text ["_law_dice_here"]) (G_l_roll : Cg P w K mg base 1 "_law_roll" spRoll) (G_l_pick : Cg P w K mg base 2 "_law_pick" (spPick K)) (G_l_signs : Cg P w K mg base 1 "_law_signs" spSigns)
    (z_range : mg "range" = none) (z_len : mg "len" = none) : Cg P w K mg base 3 "_law_text" spText := by
  refine D.ok sc_l_text (fun vs H Q E h => ?_) (fun cdv A outer s H vs Q E f hc hr h => ?_)
  · obtain ⟨d, rfl, _⟩ := h
    rfl
  · obtain ⟨d, rfl, hd, q⟩ := h
    refine ⟨_, (pss_cons (ps_set (i := 1) sc_l_text.nd rfl (Or.inl rfl) (pe_join pe_str (pe_lc (own := [("_law_turn", 5)]) (g := gName 5) (by rfl) sc_l_text.nd (pi_range1 (by rfl) z_range (pa_cons (pe_cg G_l_roll hc hr (by rfl) (pa_cons (pv 0) (pa_cons pe_int pa_nil))) pa_nil)) (blkOk_by (own := [("_law_turn", 5)]) (N := ["_law_dice_here", "_law_word", "_law_at", "_law_sign", "_law_way", "_law_turn"]) (sc := defScope s_l_text) (by decide +kernel)) (fun _ _ _ _ _ => pg_name (i := 5) sc_l_text.nd rfl (Or.inl rfl)) (fun _ _ _ _ _ => pts_nil) (fun _ _ _ _ _ => (pe_cg G_l_pick hc hr (by rfl) (pa_cons (pv 0) (pa_cons (pe_slice sl_str (pe_cg0 G_l_signs hc hr (by rfl)) po_none (po_some pe_int)) pa_nil)))))))
      (pss_cons (ps_par (i := 2) (j := 3) (by rfl) sc_l_text.nd rfl rfl (by decide) rfl rfl (pa_cons (pe_cg G_l_roll hc hr (by rfl) (pa_cons (pv 0) (pa_cons (pe_op op_add (pe_callB call_len (by rfl) z_len (by decide +kernel) (pa_cons (pv 1) pa_nil)) pe_int) pa_nil))) (pa_cons (pe_cg G_l_pick hc hr (by rfl) (pa_cons (pv 0) (pa_cons (pe_cg0 G_l_signs hc hr (by rfl)) pa_nil))) pa_nil)) (by rfl))
      (pss_cons (ps_set (i := 4) sc_l_text.nd rfl (Or.inl rfl) (pe_cg G_l_roll hc hr (by rfl) (pa_cons (pv 0) (pa_cons pe_int pa_nil))))
      (pss_cons (ps_if (pt_cmpR op_eq (pv 4) pe_int (nomark _))
      (pss_one (ps_ret (pe_op op_add_str (pe_op op_add_str (pe_slice sl_str (pv 1) po_none (po_some (pv 2))) (pv 3)) (pe_slice sl_str (pv 1) (po_some (pv 2)) po_none))))
      pss_nil)
      (pss_cons (ps_if (pt_cmpR op_eq (pv 4) pe_int (nomark _))
      (pss_one (ps_ret (pe_op op_add_str (pe_op op_add_str (pe_slice sl_str (pv 1) po_none (po_some (pv 2))) (pv 3)) (pe_slice sl_str (pv 1) (po_some (pe_op op_add (pv 2) pe_int)) po_none))))
      pss_nil)
      (pss_one (ps_ret (pv 1)))))))), ?_⟩
    have one : ∀ z : Str, Asc z → ∀ c ∈ z.cps.toList, (fun v => ∃ y : Str, v = V.str y ∧ y.length = 1 ∧ Asc y) (V.str ⟨#[c]⟩) := fun z a c h => ⟨_, rfl, rfl, asc_one a h⟩
    -- the word
    refine ⟨⟨_, rfl⟩, _, rfl, d, 10, rfl, hd, by decide, by decide +kernel, fun r H1 p1 r0 r1 => ⟨r, rfl, by omega, by omega, fun p np => ?_⟩⟩
    have pd : p ≠ d := p1.dice.ne np
    refine lc_range (lo := 0) (n := r.toNat) (fun i H' => Past d H H' ∧ ∃ ys : List Str, H' p = some (.lst (ys.map V.str)) ∧ ys.length = i ∧ ∀ y ∈ ys, y.length = 1 ∧ Asc y) ⟨p1.trans (Past.new p1.dice np), [], upd_same, rfl, nofun⟩ (fun i H' hi ⟨pH, ys, hp, hl, h1⟩ => ?_) (fun H' ⟨pH, ys, hp, hl, h1⟩ => ?_)
    · refine ⟨rfl, ?_⟩
      refine ⟨_, rfl, rfl, fun H2 s2 => ⟨26, rfl, signsT, rfl, by decide +kernel, d, _, (fun v => ∃ y : Str, v = V.str y ∧ y.length = 1 ∧ Asc y), rfl, (Past.same pH.dice s2).dice, .inr ⟨_, rfl, signsT_26.1, Nat.le_trans signsT_26.2 (by decide), one _ (asc_cut asc_signs _ _)⟩, fun v H3 p3 hv => ?_⟩⟩
      obtain ⟨y, rfl, hy⟩ := hv
      refine ⟨ys.map V.str, p3.keep pd (s2 _ _ hp), ?_, ?_, ys ++ [y], ?_, ?_, ?_⟩
      · rw [List.length_map, hl]
        exact Nat.lt_of_lt_of_le (show i < 10 by omega) (by decide)
      · have pp := (pH.trans (Past.same pH.dice s2)).trans p3
        refine ⟨fun b o n e => ?_, ?_⟩
        · have bp : b ≠ p := fun z => by
            subst z
            have z := (p1.1 b o n e)
            rw [np] at z
            cases z
          rw [upd_ne bp]
          exact pp.1 b o n e
        · obtain ⟨g, s, c, e⟩ := pp.dice
          exact ⟨g, s, c, by rw [upd_ne pd.symm]; exact e⟩
      · rw [upd_same, List.map_append]
        rfl
      · rw [List.length_append, hl]
        rfl
      · intro z hz
        rcases List.mem_append.mp hz with hz | hz
        · exact h1 z hz
        · rw [List.mem_singleton.mp hz]
          exact hy
    · have hr10 : r.toNat ≤ 10 := by omega
      refine ⟨_, p, ys, rfl, rfl, .inl (.inl (.inl hp)), ?_, ?_⟩
      · rw [sum_ones (fun y hy => (h1 y hy).1), hl]
        show r.toNat + ys.length * 0 ≤ 16777216
        omega
      have wl : (Txt.join (Str.ofString "") ys).length = r.toNat := (PySem.W.KT.join_ones ys fun y hy => (h1 y hy).1).trans hl
      have aw : Asc (Txt.join (Str.ofString "") ys) := asc_join fun y hy => (h1 y hy).2
      show (_ : Prop)
      generalize Txt.join (Str.ofString "") ys = word at wl aw ⊢
      refine ⟨_, rfl, _, rfl, _, word.length, rfl, ⟨Nat.le_trans (by omega) (show 10 ≤ sizeLine by decide), rfl⟩, _, _, rfl, rfl, d, _, rfl, pH.dice, by omega, small8000 (n := word.length + 1) (by omega), fun at_ H2 p2 a0 a1 => ?_⟩
      refine ⟨_, rfl, rfl, fun H3 s3 => ⟨d, _, (fun v => ∃ y : Str, v = V.str y ∧ y.length = 1 ∧ Asc y), rfl, (Past.same p2.dice s3).dice, .inr ⟨signsT, rfl, signsT_len.1, Nat.le_trans signsT_len.2 (by decide), one _ asc_signs⟩, fun v H4 p4 hv => ?_⟩⟩
      obtain ⟨sign, rfl, hs, as⟩ := hv
      refine ⟨_, _, rfl, _, rfl, d, 5, rfl, p4.dice, by decide, by decide +kernel, fun way H5 p5 _ _ => ?_⟩
      have p15 := (((pH.trans p2).trans (Past.same p2.dice s3)).trans p4).trans p5
      have wz : word.length ≤ sizeLine := Nat.le_trans (by omega) (show 10 ≤ sizeLine by decide)
      have s30 : 30 ≤ sizeLine := by decide
      have three : ∀ lo hi lo' hi', (cutS word lo hi).length + sign.length ≤ sizeLine ∧ (cutS word lo hi ++ sign).length + (cutS word lo' hi').length ≤ sizeLine ∧ ((cutS word lo hi ++ sign) ++ cutS word lo' hi').length ≤ 1000 := fun lo hi lo' hi' => by
        have c1 := cutS_length word lo hi
        have c2 := cutS_length word lo' hi'
        have e1 := strLen_append (cutS word lo hi) sign
        have e2 := strLen_append (cutS word lo hi ++ sign) (cutS word lo' hi')
        omega
      refine ⟨_, rfl, rfl, _, rfl, ite2 (fun _ => ?_) (fun _ => ?_)⟩
      · refine ⟨_, rfl, _, rfl, at_, rfl, word, rfl, wz, _, rfl, _, _, rfl, rfl, (three _ _ none none).1, _, rfl, _, rfl, at_, rfl, word, rfl, wz, _, _, rfl, rfl, (three _ _ _ _).2.1, q _ _ p15 (three _ _ _ _).2.2 (asc_app (asc_app (asc_cut aw _ _) as) (asc_cut aw _ _))⟩
      refine ⟨_, rfl, rfl, _, rfl, ite2 (fun _ => ?_) (fun _ => ?_)⟩
      · refine ⟨_, rfl, _, rfl, at_, rfl, word, rfl, wz, _, rfl, _, _, rfl, rfl, (three _ _ none none).1, _, rfl, _, rfl, _, _, rfl, rfl, at_ + 1, rfl, word, rfl, wz, _, _, rfl, rfl, (three _ _ _ _).2.1, q _ _ p15 (three _ _ _ _).2.2 (asc_app (asc_app (asc_cut aw _ _) as) (asc_cut aw _ _))⟩
      · exact ⟨_, rfl, q _ _ p15 (by omega) aw⟩

theorem same_new {H : Hp} {p : Addr} {o : HO} (n : H p = none) : Same H (upd H p o) := fun b x e => by
  rw [upd_ne (ne_of_none e n)]
  exact e
theorem same_new2 {H : Hp} {p : Addr} {o o' : HO} (n : H p = none) : Same H (upd (upd H p o) p o') := by
  rw [upd_upd]
  exact same_new n
def JP {d : Addr} {H HL : Hp} (_ : Past d H HL) : V → Prop := fun v => Judged HL v ∧ v ≠ .ref d
theorem ok_other (D : Df K mg "_law_other" s_l_other ["_law_dice_here", "_law_word", "_law_number_here"]) (G_l_pick : Cg P w K mg base 2 "_law_pick" (spPick K)) : Cg P w K mg base 3 "_law_other" spOther := by
  refine D.ok sc_l_other (fun vs H Q E h => ?_) (fun cdv A outer s H vs Q E f hc hr h => ?_)
  · obtain ⟨d, z, i, rfl, _⟩ := h
    rfl
  · obtain ⟨d, z, i, rfl, hd, hz, az, hi, q⟩ := h
    refine ⟨_, (pss_cons (ps_set (i := 3) sc_l_other.nd rfl (Or.inl rfl) (pe_lst (pa_cons pe_non (pa_cons pe_bl (pa_cons pe_bl (pa_cons (pe_tup (pa_cons (pv 1) pa_nil)) (pa_cons (pe_lst (pa_cons (pv 1) pa_nil)) (pa_cons (pe_disp (pps_cons (pv 1) (pv 2) pps_nil) (by rfl) (by rfl) (fun z => by cases z) (by decide)) (pa_cons (pe_tup pa_nil) (pa_cons (pe_lst pa_nil) (pa_cons pe_dnewK (pa_cons (pe_tup (pa_cons (pv 2) (pa_cons (pv 2) pa_nil))) (pa_cons (pe_lst (pa_cons (pv 2) pa_nil)) pa_nil)))))))))))))
      (pss_one (ps_ret (pe_cg G_l_pick hc hr (by rfl) (pa_cons (pv 0) (pa_cons (pv 3) pa_nil)))))), ?_⟩
    have few : 11 ≤ sizeLine := by decide
    have le : ∀ {n : Nat}, n ≤ 11 → n ≤ sizeLine := fun h => Nat.le_trans h few
    refine ⟨_, rfl, le (by show 1 ≤ 11; decide), fun p1 n1 => ⟨_, rfl, le (by show 1 ≤ 11; decide), fun p2 n2 => fun p3 n3 => ⟨_, rfl, _, rfl, upd_same, [(Sum.inr z, V.int i)], rfl, (by show 1 ≤ 15; decide), le (by show 0 ≤ 11; decide), fun p4 n4 => ⟨le (by show 0 ≤ 11; decide), fun p5 n5 => fun p6 n6 =>
      ⟨_, rfl, _, rfl, le (by show 2 ≤ 11; decide), fun p7 n7 => ⟨_, rfl, le (by show 1 ≤ 11; decide), fun p8 n8 => ⟨le (by show 11 ≤ 11; decide), fun l nl => ?_⟩⟩⟩⟩⟩⟩⟩
    have d1 := (Past.new (o := .tup [V.str z]) hd n1)
    have s2 := same_new (o := .lst [V.str z]) n2
    have d2 := Past.same d1.dice s2
    have s3 := same_new2 (o := .dK []) (o' := .dK (mergeK [] [(Sum.inr z, V.int i)])) n3
    have d3 := Past.same d2.dice s3
    have s4 := same_new (o := .tup []) n4
    have d4 := Past.same d3.dice s4
    have s5 := same_new (o := .lst []) n5
    have d5 := Past.same d4.dice s5
    have s6 := same_new (o := .dK []) n6
    have d6 := Past.same d5.dice s6
    have s7 := same_new (o := .tup [V.int i, V.int i]) n7
    have d7 := Past.same d6.dice s7
    have s8 := same_new (o := .lst [V.int i]) n8
    have d8 := Past.same d7.dice s8
    have sl := same_new (o := .lst [V.non, .bl true, .bl false, .ref p1, .ref p2, .ref p3, .ref p4, .ref p5, .ref p6, .ref p7, .ref p8]) nl
    have dl := Past.same d8.dice sl
    have t8 := sl
    have t7 := s8.trans t8
    have t6 := s7.trans t7
    have t5 := s6.trans t6
    have t4 := s5.trans t5
    have t3 := s4.trans t4
    have t2 := s3.trans t3
    have t1 := s2.trans t2
    have r : ∀ {p : Addr}, p ≠ d → V.ref p ≠ V.ref d := fun h e => h (V.ref.inj e)
    refine ⟨_, rfl, _, rfl, d, _, (JP dl), rfl, dl.dice, .inl ⟨l, _, rfl, d8.dice.ne nl, .inl (.inl (.inl upd_same)), nofun, by show 11 ≤ 1000000; decide, fun v hv => ?_⟩, fun v H' pa hv => ?_⟩
    · simp only [List.mem_cons, List.not_mem_nil, or_false] at hv
      rcases hv with rfl | rfl | rfl | rfl | rfl | rfl | rfl | rfl | rfl | rfl | rfl
      · exact ⟨trivial, nofun⟩
      · exact ⟨trivial, nofun⟩
      · exact ⟨trivial, nofun⟩
      · exact ⟨.inr (.inl ⟨_, t1 _ _ upd_same⟩), r (hd.ne n1)⟩
      · exact ⟨.inl ⟨_, t2 _ _ upd_same⟩, r (d1.dice.ne n2)⟩
      · exact ⟨.inr (.inr ⟨_, t3 _ _ upd_same⟩), r (d2.dice.ne n3)⟩
      · exact ⟨.inr (.inl ⟨_, t4 _ _ upd_same⟩), r (d3.dice.ne n4)⟩
      · exact ⟨.inl ⟨_, t5 _ _ upd_same⟩, r (d4.dice.ne n5)⟩
      · exact ⟨.inr (.inr ⟨_, t6 _ _ upd_same⟩), r (d5.dice.ne n6)⟩
      · exact ⟨.inr (.inl ⟨_, t7 _ _ upd_same⟩), r (d6.dice.ne n7)⟩
      · exact ⟨.inl ⟨_, t8 _ _ upd_same⟩, r (d7.dice.ne n8)⟩
    · exact q v H' (((((((((d1.trans d2).trans d3).trans d4).trans d5).trans d6).trans d7).trans d8).trans dl).trans pa) (Past.judged pa hv.1 hv.2)
end
end K00
set_option Elab.async false
set_option linter.all false
set_option autoImplicit false
set_option maxRecDepth 100000
set_option maxHeartbeats 4000000
namespace K00
open PySem PySem.Spec PyProof.Rows L2 Vb
abbrev s_is_integer : Stmt := topS 4
theorem sc_is_integer : FnScope ["value"] ["value"] (defScope s_is_integer) := ⟨rfl, rfl, rfl, by decide +kernel, rfl, by decide +kernel, by decide +kernel⟩
abbrev s_is_count : Stmt := topS 5
theorem sc_is_count : FnScope ["value"] ["value"] (defScope s_is_count) := ⟨rfl, rfl, rfl, by decide +kernel, rfl, by decide +kernel, by decide +kernel⟩
abbrev s_is_name : Stmt := topS 6
theorem sc_is_name : FnScope ["value"] ["value"] (defScope s_is_name) := ⟨rfl, rfl, rfl, by decide +kernel, rfl, by decide +kernel, by decide +kernel⟩
abbrev s_l_is_integer : Stmt := topS 15
theorem sc_l_is_integer : FnScope ["_law_value"] ["_law_value"] (defScope s_l_is_integer) := ⟨rfl, rfl, rfl, by decide +kernel, rfl, by decide +kernel, by decide +kernel⟩
abbrev s_l_is_name : Stmt := topS 16
theorem sc_l_is_name : FnScope ["_law_value", "_law_sign"] ["_law_value"] (defScope s_l_is_name) := ⟨rfl, rfl, rfl, by decide +kernel, rfl, by decide +kernel, by decide +kernel⟩
abbrev s_l_right : Stmt := topS 17
theorem sc_l_right : FnScope ["_law_value", "_law_told", "_law_whole"] ["_law_value"] (defScope s_l_right) := ⟨rfl, rfl, rfl, by decide +kernel, rfl, by decide +kernel, by decide +kernel⟩
abbrev s_law : Stmt := topS 18
theorem sc_law : FnScope ["_law_script", "_law_spot", "_law_dice_here", "_law_number_here", "_law_word", "_law_value", "_law_some"] ["_law_script"] (defScope s_law) := ⟨rfl, rfl, rfl, by decide +kernel, rfl, by decide +kernel, by decide +kernel⟩
/-! ### what the three judges answer -/
def isInt : V → Bool
  | .int i => decide (i.natAbs < 10 ^ 60)
  | _ => false
def notNeg : V → Bool
  | .int i => decide (0 ≤ i)
  | _ => false
def low (c : Nat) : Bool := 97 ≤ c && c ≤ 122
def isNam : V → Bool
  | .str z => decide (1 ≤ z.length) && decide (z.length ≤ 8) && z.cps.toList.all low
  | _ => false
def spOf (g : V → Bool) : Sp := fun vs H Q _ => ∃ v, vs = [v] ∧ Judged H v ∧ ∀ H', Same H H' → Q (.bl (g v)) H'
/-- the kinds of judged values -/
theorem kinds {K : PySem.W.Frag} {H : Hp} {v : V} (j : Judged H v) : (∃ i, v = .int i ∧ i.natAbs < 10 ^ 100) ∨ (∃ b, v = .bl b) ∨ (∃ z, v = .str z ∧ z.length ≤ 1000 ∧ Asc z) ∨
    (∃ T, TyX K H v (.type T) ∧ kitB T "int" = some false ∧ kitB T "bool" = some false ∧ kitB T "str" = some false ∧ isInt v = false ∧ notNeg v = false ∧ isNam v = false) := by
  cases v with
  | int i => exact .inl ⟨i, rfl, j⟩
  | bl b => exact .inr (.inl ⟨b, rfl⟩)
  | str z => exact .inr (.inr (.inl ⟨z, rfl, j⟩))
  | non => exact .inr (.inr (.inr ⟨"NoneType", .base .non, by decide +kernel, by decide +kernel, by decide +kernel, rfl, rfl, rfl⟩))
  | byt _ => exact False.elim j
  | flt _ => exact False.elim j
  | ty _ => exact False.elim j
  | ref a =>
    rcases j with ⟨xs, e⟩ | ⟨xs, e⟩ | ⟨xs, e⟩
    · exact .inr (.inr (.inr ⟨"list", .base (.lst e), by decide +kernel, by decide +kernel, by decide +kernel, rfl, rfl, rfl⟩))
    · exact .inr (.inr (.inr ⟨"tuple", .base (.tup e), by decide +kernel, by decide +kernel, by decide +kernel, rfl, rfl, rfl⟩))
    · exact .inr (.inr (.inr ⟨"dict", .base (.dK e), by decide +kernel, by decide +kernel, by decide +kernel, rfl, rfl, rfl⟩))
theorem ki_ii : kitB "int" "int" = some true := by decide +kernel
theorem ki_ib : kitB "int" "bool" = some false := by decide +kernel
theorem ki_is : kitB "int" "str" = some false := by decide +kernel
theorem ki_bi : kitB "bool" "int" = some true := by decide +kernel
theorem ki_bb : kitB "bool" "bool" = some true := by decide +kernel
theorem ki_bs : kitB "bool" "str" = some false := by decide +kernel
theorem ki_si : kitB "str" "int" = some false := by decide +kernel
theorem ki_sb : kitB "str" "bool" = some false := by decide +kernel
theorem ki_ss : kitB "str" "str" = some true := by decide +kernel
section
variable {P : Program} {w : World} {K : PySem.W.Frag} {mg : Str → Option Value} {base : Heap}
theorem ok_is_integer {t : Tok} (D : Df K mg "is_integer" s_is_integer ["value"]) (z_isinstance : mg "isinstance" = none) (z_int : mg "int" = none) (z_bool : mg "bool" = none) (z_abs : mg "abs" = none) (c_TOO_LONG : mg "_TOO_LONG" = some (.int (10 ^ 60) t)) :
    Cg P w K mg base 1 "is_integer" (spOf isInt) := by
  refine D.ok sc_is_integer (fun vs H Q E h => ?_) (fun cdv A outer s H vs Q E f hc hr h => ?_)
  · obtain ⟨v, rfl, _⟩ := h
    rfl
  · obtain ⟨v, rfl, j, q⟩ := h
    refine ⟨_, (pss_one (ps_ret (pe_and (pe_callB call_isi (by rfl) z_isinstance (by decide +kernel) (pa_cons (pv 0) (pa_cons (pe_bltn (v := .ty "int") (by rfl) z_int (by decide +kernel) rfl) pa_nil))) (pe_and (pe_not (pe_callB call_isi (by rfl) z_isinstance (by decide +kernel) (pa_cons (pv 0) (pa_cons (pe_bltn (v := .ty "bool") (by rfl) z_bool (by decide +kernel) rfl) pa_nil)))) (pe_one (pe_cmpR op_lt (pe_callB call_abs (by rfl) z_abs (by decide +kernel) (pa_cons (pv 0) pa_nil)) (pe_glob (v := .int (10 ^ 60)) rfl c_TOO_LONG ⟨_, rfl⟩) (nomark _))))))), ?_⟩
    have q' := q H (Same.refl H)
    rcases kinds (K := K) j with ⟨i, rfl, hi⟩ | ⟨b, rfl⟩ | ⟨z, rfl, hz⟩ | ⟨T, ty, k1, k2, k3, e1, e2, e3⟩
    · refine ⟨_, rfl, _, _, _, _, true, rfl, .ty _, .base (.int i), kit_ty ki_ii, _, rfl, iteT ?_⟩
      refine ⟨_, rfl, _, _, _, _, false, rfl, .ty _, .base (.int i), kit_ty ki_ib, _, rfl, _, rfl, iteT ?_⟩
      refine ⟨_, rfl, _, rfl, _, _, rfl, rfl, ?_⟩
      have e : decide ((if i < 0 then -i else i) < 10 ^ 60) = decide (i.natAbs < 10 ^ 60) := by
        apply decide_eq_decide.mpr
        split <;> omega
      show Q (V.bl (decide ((if i < 0 then -i else i) < 10 ^ 60))) H
      rw [e]
      exact q'
    · exact ⟨_, rfl, _, _, _, _, true, rfl, .ty _, .base (.bl b), kit_ty ki_bi, _, rfl, iteT ⟨_, rfl, _, _, _, _, true, rfl, .ty _, .base (.bl b), kit_ty ki_bb, _, rfl, _, rfl, iteF q'⟩⟩
    · exact ⟨_, rfl, _, _, _, _, false, rfl, .ty _, .base (.str z), kit_ty ki_si, _, rfl, iteF q'⟩
    · rw [e1] at q'
      exact ⟨_, rfl, _, _, _, _, false, rfl, .ty _, ty, kit_ty k1, _, rfl, iteF q'⟩
theorem ok_is_count (D : Df K mg "is_count" s_is_count ["value"]) (G_is_integer : Cg P w K mg base 1 "is_integer" (spOf isInt)) : Cg P w K mg base 2 "is_count" (spOf fun v => isInt v && notNeg v) := by
  refine D.ok sc_is_count (fun vs H Q E h => ?_) (fun cdv A outer s H vs Q E f hc hr h => ?_)
  · obtain ⟨v, rfl, _⟩ := h
    rfl
  · obtain ⟨v, rfl, j, q⟩ := h
    refine ⟨_, (pss_one (ps_ret (pe_and (pe_cg G_is_integer hc hr (by rfl) (pa_cons (pv 0) pa_nil)) (pe_one (pe_cmpR op_ge (pv 0) pe_int (nomark _)))))), ?_⟩
    refine ⟨_, rfl, v, rfl, j, fun H1 s1 => ⟨_, rfl, ?_⟩⟩
    have q' : Q (V.bl (isInt v && notNeg v)) H1 := q H1 s1
    cases e : isInt v with
    | false =>
      rw [e, Bool.false_and] at q'
      exact iteF q'
    | true =>
      cases v with
      | int i =>
        rw [e, Bool.true_and] at q'
        exact iteT ⟨_, rfl, _, _, rfl, rfl, q'⟩
      | _ => cases e

theorem digits_60 (n : Nat) (h : n < 10 ^ 100) : (decide ((Nat.toDigits 10 n).length ≤ 60)) = decide (n < 10 ^ 60) := by
  apply decide_eq_decide.mpr
  constructor
  · intro hl
    refine Classical.byContradiction fun hn => ?_
    have := digitsCore10_ge 60 (n + 1) n [] (by have : 60 < 10 ^ 60 := by decide +kernel
                                                omega) (by omega)
    have e : Nat.toDigits 10 n = Nat.toDigitsCore 10 (n + 1) n [] := rfl
    rw [e] at hl
    simp only [List.length_nil] at this
    omega
  · exact digits10_le (by decide)
theorem num_len (n : Nat) : (Str.ofString (toString ((n : Nat) : Int))).length = (Nat.toDigits 10 n).length := by
  have e := congrArg List.length (PySem.W.KIN.signs_num n)
  rw [List.length_map] at e
  rw [← e]
  simp [Str.length]
theorem ok_l_is_integer (D : Df K mg "_law_is_integer" s_l_is_integer ["_law_value"]) (z_isinstance : mg "isinstance" = none) (z_int : mg "int" = none) (z_bool : mg "bool" = none) (z_abs : mg "abs" = none) (z_str : mg "str" = none) (z_len : mg "len" = none) :
    Cg P w K mg base 1 "_law_is_integer" (spOf isInt) := by
  refine D.ok sc_l_is_integer (fun vs H Q E h => ?_) (fun cdv A outer s H vs Q E f hc hr h => ?_)
  · obtain ⟨v, rfl, _⟩ := h
    rfl
  · obtain ⟨v, rfl, j, q⟩ := h
    refine ⟨_, (pss_cons (ps_if (PW.pt (pw_or (pt_val (pe_callB call_isi (by rfl) z_isinstance (by decide +kernel) (pa_cons (pv 0) (pa_cons (pe_bltn (v := .ty "bool") (by rfl) z_bool (by decide +kernel) rfl) pa_nil)))) (pw_or1 (pt_not (pt_val (pe_callB call_isi (by rfl) z_isinstance (by decide +kernel) (pa_cons (pv 0) (pa_cons (pe_bltn (v := .ty "int") (by rfl) z_int (by decide +kernel) rfl) pa_nil))))))))
      (pss_one (ps_ret pe_bl))
      pss_nil)
      (pss_one (ps_ret (pe_cmpR op_le (pe_callB call_len (by rfl) z_len (by decide +kernel) (pa_cons (pe_callTy call_str_int (by rfl) z_str (by decide +kernel) (pa_cons (pe_callB call_abs (by rfl) z_abs (by decide +kernel) (pa_cons (pv 0) pa_nil)) pa_nil)) pa_nil)) pe_int (nomark _))))), ?_⟩
    have q' := q H (Same.refl H)
    rcases kinds (K := K) j with ⟨i, rfl, hi⟩ | ⟨b, rfl⟩ | ⟨z, rfl, hz⟩ | ⟨T, ty, k1, k2, k3, e1, e2, e3⟩
    · refine ⟨_, rfl, _, _, _, _, false, rfl, .ty _, .base (.int i), kit_ty ki_ib, _, rfl, iteF ⟨_, rfl, _, _, _, _, true, rfl, .ty _, .base (.int i), kit_ty ki_ii, _, rfl, iteF ?_⟩⟩
      have e : (if i < 0 then -i else i) = ((i.natAbs : Nat) : Int) := by split <;> omega
      refine ⟨_, rfl, _, rfl, _, rfl, ?_, _, _, rfl, ⟨?_, rfl⟩, _, _, rfl, rfl, ?_⟩
      · rw [e, Int.natAbs_natCast]
        exact PySem.Flt.log2_lt_of (by decide) (Nat.lt_trans hi (by decide +kernel))
      · rw [e, num_len]
        exact Nat.le_trans (digits10_le (k := 100) (by decide) hi) (by decide)
      · show Q (V.bl (decide (((Str.ofString (toString (if i < 0 then -i else i))).length : Int) ≤ 60))) H
        rw [e, num_len]
        have e2 : decide (((Nat.toDigits 10 i.natAbs).length : Int) ≤ 60) = decide (i.natAbs < 10 ^ 60) := by
          rw [← digits_60 i.natAbs hi]
          apply decide_eq_decide.mpr
          omega
        rw [e2]
        exact q'
    · exact ⟨_, rfl, _, _, _, _, true, rfl, .ty _, .base (.bl b), kit_ty ki_bb, _, rfl, iteT q'⟩
    · exact ⟨_, rfl, _, _, _, _, false, rfl, .ty _, .base (.str z), kit_ty ki_sb, _, rfl, iteF ⟨_, rfl, _, _, _, _, false, rfl, .ty _, .base (.str z), kit_ty ki_si, _, rfl, iteT q'⟩⟩
    · rw [e1] at q'
      exact ⟨_, rfl, _, _, _, _, false, rfl, .ty _, ty, kit_ty k2, _, rfl, iteF ⟨_, rfl, _, _, _, _, false, rfl, .ty _, ty, kit_ty k1, _, rfl, iteT q'⟩⟩

end
/-! ### plain signs -/
def upp (c : Nat) : Bool := 65 ≤ c && c ≤ 90
theorem cl_alpha : ∀ c, c < 128 → Unicode.isAlpha c = (upp c || low c) := by decide +kernel
theorem cl_lower : ∀ c, c < 128 → Unicode.isLower c = low c := by decide +kernel
theorem cl_upper : ∀ c, c < 128 → (Unicode.isUpper c || Unicode.isTitle c) = upp c := by decide +kernel
theorem cl_not : ∀ c, c < 128 → low c = false → upp c = true ∨ (upp c || low c) = false := by decide +kernel
theorem cl_both : ∀ c, c < 128 → low c = true → upp c = false := by decide +kernel
theorem name_signs {z : Str} (a : Asc z) (h : 1 ≤ z.length) : (Txt.isascii z && (Txt.isalpha z && Txt.islower z)) = z.cps.toList.all low := by
  have hl : z.cps.toList.length = z.length := by simp [Str.length]
  have e1 : Txt.isascii z = true := by
    unfold Txt.isascii
    rw [← Array.all_toList, List.all_eq_true]
    exact fun c hc => decide_eq_true (a c hc)
  have e2 : Txt.isalpha z = z.cps.toList.all Unicode.isAlpha := by
    unfold Txt.isalpha
    rw [decide_eq_true (show z.length > 0 by omega), Bool.true_and, ← Array.all_toList]
  have e3 : Txt.islower z = (z.cps.toList.any Unicode.isLower && !z.cps.toList.any fun c => Unicode.isUpper c || Unicode.isTitle c) := by
    unfold Txt.islower
    rw [← Array.any_toList, ← Array.any_toList]
  rw [e1, e2, e3, Bool.true_and]
  have a' : ∀ c ∈ z.cps.toList, c < 128 := a
  cases hL : z.cps.toList.all low with
  | true =>
    have hl' := List.all_eq_true.mp hL
    have k1 : z.cps.toList.all Unicode.isAlpha = true := List.all_eq_true.mpr fun c hc => by
      rw [cl_alpha c (a' c hc), hl' c hc, Bool.or_true]
    have k2 : z.cps.toList.any Unicode.isLower = true := by
      cases e : z.cps.toList with
      | nil =>
        rw [e] at hl
        simp at hl
        omega
      | cons c r =>
        have hc : c ∈ z.cps.toList := by rw [e]; exact List.mem_cons_self
        rw [List.any_cons, cl_lower c (a' c hc), hl' c hc, Bool.true_or]
    have k3 : (z.cps.toList.any fun c => Unicode.isUpper c || Unicode.isTitle c) = false := List.any_eq_false.mpr fun c hc => by
      rw [cl_upper c (a' c hc), cl_both c (a' c hc) (hl' c hc)]
      exact Bool.false_ne_true
    rw [k1, k2, k3]
    rfl
  | false =>
    obtain ⟨c, hc, hn⟩ := List.all_eq_false.mp hL
    have hn' : low c = false := by simpa using hn
    rcases cl_not c (a' c hc) hn' with u | u
    · have k3 : (z.cps.toList.any fun c => Unicode.isUpper c || Unicode.isTitle c) = true := List.any_eq_true.mpr ⟨c, hc, by rw [cl_upper c (a' c hc)]; exact u⟩
      rw [k3]
      simp
    · have k1 : z.cps.toList.all Unicode.isAlpha = false := List.all_eq_false.mpr ⟨c, hc, by rw [cl_alpha c (a' c hc), u]; exact Bool.false_ne_true⟩
      rw [k1]
      rfl
theorem one_lt (a b : Nat) : decide ([a] < [b]) = decide (a < b) := by
  apply decide_eq_decide.mpr
  constructor
  · intro h
    cases h with
    | rel h => exact h
    | cons h => exact nomatch h
  · exact fun h => .rel h
section
variable {P : Program} {w : World} {K : PySem.W.Frag} {mg : Str → Option Value} {base : Heap}
theorem isNam_str (z : Str) : isNam (.str z) = (decide (1 ≤ z.length) && decide (z.length ≤ 8) && z.cps.toList.all low) := rfl
theorem ok_is_name {t : Tok} (D : Df K mg "is_name" s_is_name ["value"]) (z_isinstance : mg "isinstance" = none) (z_str : mg "str" = none) (z_len : mg "len" = none) (c_MAX_LETTERS : mg "MAX_LETTERS" = some (.int 8 t)) :
    Cg P w K mg base 1 "is_name" (spOf isNam) := by
  refine D.ok sc_is_name (fun vs H Q E h => ?_) (fun cdv A outer s H vs Q E f hc hr h => ?_)
  · obtain ⟨v, rfl, _⟩ := h
    rfl
  · obtain ⟨v, rfl, j, q⟩ := h
    refine ⟨_, (pss_cons (ps_if (PW.pt (pw_or (pt_not (pt_val (pe_callB call_isi (by rfl) z_isinstance (by decide +kernel) (pa_cons (pv 0) (pa_cons (pe_bltn (v := .ty "str") (by rfl) z_str (by decide +kernel) rfl) pa_nil))))) (pw_or1 (pt_not (pt_chain op_le op_le pe_int (pe_callB call_len (by rfl) z_len (by decide +kernel) (pa_cons (pv 0) pa_nil)) (pe_glob (v := .int 8) rfl c_MAX_LETTERS ⟨_, rfl⟩))))))
      (pss_one (ps_ret pe_bl))
      pss_nil)
      (pss_one (ps_ret (pe_and (pe_bm0 PySem.F.plainAttrs_str PySem.F.slot_str_isascii PySem.F.type_str_isascii mt_isascii (pv 0)) (pe_and (pe_bm0 PySem.F.plainAttrs_str PySem.F.slot_str_isalpha PySem.F.type_str_isalpha mt_isalpha (pv 0)) (pe_one (pe_bm0 PySem.F.plainAttrs_str PySem.F.slot_str_islower PySem.F.type_str_islower mt_islower (pv 0)))))))), ?_⟩
    have q' := q H (Same.refl H)
    rcases kinds (K := K) j with ⟨i, rfl, hi⟩ | ⟨b, rfl⟩ | ⟨z, rfl, hz, az⟩ | ⟨T, ty, k1, k2, k3, e1, e2, e3⟩
    · exact ⟨_, rfl, _, _, _, _, false, rfl, .ty _, .base (.int i), kit_ty ki_is, _, rfl, iteT q'⟩
    · exact ⟨_, rfl, _, _, _, _, false, rfl, .ty _, .base (.bl b), kit_ty ki_bs, _, rfl, iteT q'⟩
    · rw [isNam_str] at q'
      refine ⟨_, rfl, _, _, _, _, true, rfl, .ty _, .base (.str z), kit_ty ki_ss, _, rfl, iteF ⟨_, rfl, _, z.length, rfl, ⟨fits_million (by omega), rfl⟩, _, _, rfl, rfl, _, rfl, ?_⟩⟩
      by_cases h1 : 1 ≤ z.length
      · rw [decide_eq_true h1, Bool.true_and] at q'
        refine ite2 (fun _ => ⟨_, _, rfl, rfl, _, rfl, ?_⟩) (fun n => absurd (decide_eq_true (by omega)) n)
        by_cases h8 : z.length ≤ 8
        · rw [decide_eq_true h8, Bool.true_and, ← name_signs az h1] at q'
          refine ite2 (fun n => ?_) (fun _ => ?_)
          · rw [decide_eq_true (by omega)] at n
            cases n
          · refine ⟨_, rfl, rfl, z, rfl, rfl, trivial, _, rfl, ?_⟩
            cases ea : Txt.isascii z with
            | false =>
              rw [ea, Bool.false_and] at q'
              exact iteF q'
            | true =>
              refine iteT ⟨_, rfl, rfl, z, rfl, rfl, trivial, _, rfl, ?_⟩
              rw [ea, Bool.true_and] at q'
              cases eb : Txt.isalpha z with
              | false =>
                rw [eb, Bool.false_and] at q'
                exact iteF q'
              | true =>
                rw [eb, Bool.true_and] at q'
                exact iteT ⟨_, rfl, rfl, z, rfl, rfl, trivial, q'⟩
        · rw [decide_eq_false h8, Bool.false_and] at q'
          refine ite2 (fun _ => q') (fun n => ?_)
          rw [decide_eq_false (by omega)] at n
          exact absurd rfl n
      · rw [decide_eq_false h1, Bool.false_and, Bool.false_and] at q'
        refine ite2 (fun n => ?_) (fun _ => ⟨_, rfl, iteT q'⟩)
        have := of_decide_eq_true n
        omega
    · rw [e3] at q'
      exact ⟨_, rfl, _, _, _, _, false, rfl, .ty _, ty, kit_ty k3, _, rfl, iteT q'⟩
end
end K00
set_option Elab.async false
set_option linter.all false
set_option autoImplicit false
set_option maxRecDepth 100000
set_option maxHeartbeats 4000000
namespace K00
open PySem PySem.Spec PyProof.Rows L2 Vb
section
variable {P : Program} {w : World} {K : PySem.W.Frag} {mg : Str → Option Value} {base : Heap}
/-- the signs that are no small letters, as texts -/
def odd1 (L : List Nat) : List V := (L.filter (fun c => !low c)).map fun c => V.str ⟨#[c]⟩
theorem odd1_snoc (L : List Nat) (c : Nat) : odd1 (L ++ [c]) = odd1 L ++ (if low c = true then [] else [V.str ⟨#[c]⟩]) := by
  unfold odd1
  rw [List.filter_append, List.map_append]
  congr 1
  cases h : low c <;> simp [h]
theorem odd1_nil (L : List Nat) : (odd1 L).isEmpty = L.all low := by
  unfold odd1
  induction L with
  | nil => rfl
  | cons c r ih =>
    cases h : low c with
    | true => simpa [h] using ih
    | false => simp [h]
theorem odd1_len (L : List Nat) : (odd1 L).length ≤ L.length := by
  unfold odd1
  rw [List.length_map]
  exact List.length_filter_le _ _
/-- such a list as data -/
theorem dp_strs {K : PySem.W.Frag} {H : Hp} : ∀ l : List Str, DpAll K H (l.map V.str) (l.map PyData.str)
  | [] => .nil
  | y :: l => .cons (.str y) (dp_strs l)
theorem lay_strs : ∀ l : List Str, (∀ y ∈ l, Asc y) → PyData.canLayAll0 (l.map PyData.str) = true ∧ PyData.depthAll (l.map PyData.str) = 0
  | [], _ => ⟨rfl, rfl⟩
  | y :: l, h => by
    obtain ⟨h1, h2⟩ := lay_strs l fun z hz => h z (List.mem_cons_of_mem _ hz)
    constructor
    · show (PyData.canLay0 (.str y) && PyData.canLayAll0 (l.map PyData.str)) = true
      rw [h1, Bool.and_true]
      show y.cps.all (· < 0x110000) = true
      rw [← Array.all_toList, List.all_eq_true]
      exact fun c hc => decide_eq_true (Nat.lt_trans (h y List.mem_cons_self c hc) (by decide))
    · show max (PyData.depth (.str y)) (PyData.depthAll (l.map PyData.str)) = 0
      rw [h2]
      rfl
theorem shaped_strs {l : List Str} (h : ∀ y ∈ l, Asc y) : SeqAt.shaped (.list (l.map PyData.str)) = true := by
  obtain ⟨h1, h2⟩ := lay_strs l h
  show (PyData.canLay0 (.list (l.map PyData.str)) && decide (PyData.depth (.list (l.map PyData.str)) ≤ 64)) = true
  rw [show PyData.canLay0 (.list (l.map PyData.str)) = true from h1, Bool.true_and]
  exact decide_eq_true (by show PyData.depthAll _ + 1 ≤ 64; rw [h2]; decide)
theorem ok_l_is_name (D : Df K mg "_law_is_name" s_l_is_name ["_law_value"]) (z_isinstance : mg "isinstance" = none) (z_str : mg "str" = none) (z_len : mg "len" = none) : Cg P w K mg base 1 "_law_is_name" (spOf isNam) := by
  refine D.ok sc_l_is_name (fun vs H Q E h => ?_) (fun cdv A outer s H vs Q E f hc hr h => ?_)
  · obtain ⟨v, rfl, _⟩ := h
    rfl
  · obtain ⟨v, rfl, j, q⟩ := h
    refine ⟨_, (pss_cons (ps_if (PW.pt (pw_or (pt_not (pt_val (pe_callB call_isi (by rfl) z_isinstance (by decide +kernel) (pa_cons (pv 0) (pa_cons (pe_bltn (v := .ty "str") (by rfl) z_str (by decide +kernel) rfl) pa_nil))))) (pw_or (pt_cmpR op_eq (pe_callB call_len (by rfl) z_len (by decide +kernel) (pa_cons (pv 0) pa_nil)) pe_int (nomark _)) (pw_or1 (pt_cmpR op_gt (pe_callB call_len (by rfl) z_len (by decide +kernel) (pa_cons (pv 0) pa_nil)) pe_int (nomark _))))))
      (pss_one (ps_ret pe_bl))
      pss_nil)
      (pss_one (ps_ret (pe_cmpR (op_eqD hr.units) (pe_lc (own := [("_law_sign", 1)]) (g := gName 1) (by rfl) sc_l_is_name.nd (pi_str (pv 0)) (blkOk_by (own := [("_law_sign", 1)]) (N := ["_law_value", "_law_sign"]) (sc := defScope s_l_is_name) (by decide +kernel)) (fun _ _ _ _ _ => pg_name (i := 1) sc_l_is_name.nd rfl (Or.inl rfl)) (fun _ _ _ _ _ => (pts_one (PW.pt (pw_or (pt_cmpR op_lt_str (pv 1) pe_str (nomark _)) (pw_or1 (pt_cmpR op_gt_str (pv 1) pe_str (nomark _))))))) (fun _ _ _ _ _ => (pv 1))) (pe_lst pa_nil) (nomark _))))), ?_⟩
    have q' := q H (Same.refl H)
    rcases kinds (K := K) j with ⟨i, rfl, hi⟩ | ⟨b, rfl⟩ | ⟨z, rfl, hz, az⟩ | ⟨T, ty, k1, k2, k3, e1, e2, e3⟩
    · exact ⟨_, rfl, _, _, _, _, false, rfl, .ty _, .base (.int i), kit_ty ki_is, _, rfl, iteT q'⟩
    · exact ⟨_, rfl, _, _, _, _, false, rfl, .ty _, .base (.bl b), kit_ty ki_bs, _, rfl, iteT q'⟩
    · rw [isNam_str] at q'
      refine ⟨_, rfl, _, _, _, _, true, rfl, .ty _, .base (.str z), kit_ty ki_ss, _, rfl, iteF ⟨_, rfl, _, z.length, rfl, ⟨fits_million (by omega), rfl⟩, rfl, _, rfl, ite2 (fun e0 => ?_) (fun e0 => ⟨_, rfl, _, z.length, rfl, ⟨fits_million (by omega), rfl⟩, _, _, rfl, rfl, _, rfl, ite2 (fun e8 => ?_) (fun e8 => ?_)⟩)⟩⟩
      · have h0 : (z.length : Int) = 0 := V.int.inj (of_decide_eq_true e0)
        rw [decide_eq_false (show ¬ 1 ≤ z.length by omega), Bool.false_and, Bool.false_and] at q'
        exact q'
      · have h8 := of_decide_eq_true e8
        rw [decide_eq_false (show ¬ z.length ≤ 8 by omega), Bool.and_false, Bool.false_and] at q'
        exact q'
      · have h0 : ¬ (z.length : Int) = 0 := fun n => e0 (decide_eq_true (congrArg V.int n))
        have h8 : ¬ (8 : Int) < z.length := fun n => e8 (decide_eq_true n)
        have el : z.cps.toList.length = z.length := by simp [Str.length]
        refine ⟨_, rfl, z, rfl, fun D nD => lc_it walk_str (fun i H' => H' = upd H D (.lst (odd1 (z.cps.toList.take i)))) rfl (fun _ _ _ _ => trivial) (fun i x H1 H' hi e1 y => ?_) (fun H' e1 => ?_)⟩
        · obtain ⟨rfl, c, hc, rfl⟩ := y
          subst e1
          have hc' : z.cps.toList[i]? = some c := by simpa using hc
          have s1 : odd1 (z.cps.toList.take (i + 1)) = odd1 (z.cps.toList.take i) ++ (if low c = true then [] else [V.str ⟨#[c]⟩]) := by
            rw [List.take_add_one, hc']
            exact odd1_snoc _ c
          have room : (odd1 (z.cps.toList.take i)).length < sizeLine := by
            have l1 := odd1_len (z.cps.toList.take i)
            rw [List.length_take] at l1
            have : 1000 < sizeLine := by decide
            omega
          refine ⟨rfl, _, rfl, _, _, rfl, rfl, _, rfl, ite2 (fun e => ?_) (fun e => ⟨_, rfl, _, _, rfl, rfl, _, rfl, ?_⟩)⟩
          · have lt : c < 97 := of_decide_eq_true ((one_lt c 97).symm.trans e)
            have lc : low c = false := by
              unfold low
              rw [decide_eq_false (by omega)]
              rfl
            rw [lc] at s1
            refine ⟨_, rfl, _, upd_same, room, ?_⟩
            rw [s1, upd_upd]
            rfl
          · have ge : ¬ c < 97 := fun n => e ((one_lt c 97).trans (decide_eq_true n))
            show (if decide ([122] < [c]) = true then _ else _)
            rw [one_lt]
            refine ite2 (fun e2 => ?_) (fun e2 => ?_)
            · have gt := of_decide_eq_true e2
              have lc : low c = false := by
                unfold low
                rw [decide_eq_false (show ¬ c ≤ 122 by omega), Bool.and_false]
              rw [lc] at s1
              refine ⟨_, rfl, _, upd_same, room, ?_⟩
              rw [s1, upd_upd]
              rfl
            · have le : ¬ 122 < c := fun n => e2 (decide_eq_true n)
              have lc : low c = true := by
                unfold low
                rw [decide_eq_true (show 97 ≤ c by omega), decide_eq_true (show c ≤ 122 by omega)]
                rfl
              rw [lc] at s1
              rw [s1]
              simp
        · subst e1
          have full : z.cps.toList.take z.cps.size = z.cps.toList := List.take_of_length_le (by simp)
          rw [full]
          refine ⟨Nat.zero_le _, fun p np => ?_⟩
          have s2 := same_new (o := .lst []) np
          have as1 : ∀ y ∈ ((z.cps.toList.filter (fun c => !low c)).map fun c => (⟨#[c]⟩ : Str)), Asc y := fun y hy => by
            obtain ⟨c, hc, rfl⟩ := List.mem_map.mp hy
            exact asc_one az (List.mem_filter.mp hc).1
          have eo : odd1 z.cps.toList = ((z.cps.toList.filter (fun c => !low c)).map fun c => (⟨#[c]⟩ : Str)).map V.str := by
            unfold odd1
            rw [List.map_map]
            rfl
          refine ⟨_, .list [], .lst (.inl (.inl (s2 _ _ upd_same))) (eo ▸ dp_strs _), .lst (.inl (.inl upd_same)) .nil, shaped_strs as1, by decide, ?_⟩
          have ev : PyData.eqv (.list (((z.cps.toList.filter (fun c => !low c)).map fun c => (⟨#[c]⟩ : Str)).map PyData.str)) (.list []) = z.cps.toList.all low := by
            rw [← odd1_nil, eo]
            cases ((z.cps.toList.filter (fun c => !low c)).map fun c => (⟨#[c]⟩ : Str)) <;> rfl
          rw [ev]
          have q2 := q _ ((same_new nD).trans s2)
          rw [isNam_str, decide_eq_true (show 1 ≤ z.length by omega), decide_eq_true (show z.length ≤ 8 by omega), Bool.true_and, Bool.true_and] at q2
          exact q2
    · rw [e3] at q'
      exact ⟨_, rfl, _, _, _, _, false, rfl, .ty _, ty, kit_ty k3, _, rfl, iteT q'⟩

def d3 (a b c : Bool) : PyData := .list [.bool a, .bool b, .bool c]
theorem d3_len (a b c : Bool) : (d3 a b c).shown.length ≤ sizeLine := by
  cases a <;> cases b <;> cases c <;> decide +kernel
theorem d3_dp {K : PySem.W.Frag} {H : Hp} {p : Addr} {a b c : Bool} (h : SqL K H p [.bl a, .bl b, .bl c]) : Dp K H (.ref p) (d3 a b c) := .lst h (.cons (.bl a) (.cons (.bl b) (.cons (.bl c) .nil)))
def spRight : Sp := fun vs H Q _ => ∃ v, vs = [v] ∧ Judged H v ∧ ∀ H', Same H H' → Q (.bl true) H'
theorem ok_right (D : Df K mg "_law_right" s_l_right ["_law_value"]) (G_is_integer : Cg P w K mg base 1 "is_integer" (spOf isInt)) (G_is_count : Cg P w K mg base 2 "is_count" (spOf fun v => isInt v && notNeg v)) (G_is_name : Cg P w K mg base 1 "is_name" (spOf isNam))
    (G_l_is_integer : Cg P w K mg base 1 "_law_is_integer" (spOf isInt)) (G_l_is_name : Cg P w K mg base 1 "_law_is_name" (spOf isNam)) (z_repr : mg "repr" = none) : Cg P w K mg base 3 "_law_right" spRight := by
  refine D.ok sc_l_right (fun vs H Q E h => ?_) (fun cdv A outer s H vs Q E f hc hr h => ?_)
  · obtain ⟨v, rfl, _⟩ := h
    rfl
  · obtain ⟨v, rfl, j, q⟩ := h
    refine ⟨_, (pss_cons (ps_set (i := 1) sc_l_right.nd rfl (Or.inl rfl) (pe_lst (pa_cons (pe_cg G_is_integer hc hr (by rfl) (pa_cons (pv 0) pa_nil)) (pa_cons (pe_cg G_is_count hc hr (by rfl) (pa_cons (pv 0) pa_nil)) (pa_cons (pe_cg G_is_name hc hr (by rfl) (pa_cons (pv 0) pa_nil)) pa_nil)))))
      (pss_cons (ps_set (i := 2) sc_l_right.nd rfl (Or.inl rfl) (pe_cg G_l_is_integer hc hr (by rfl) (pa_cons (pv 0) pa_nil)))
      (pss_one (ps_ret (pe_cmpR op_eq (pe_callB (call_repr_data hc hr.units) (by rfl) z_repr (by decide +kernel) (pa_cons (pv 1) pa_nil)) (pe_callB (call_repr_data hc hr.units) (by rfl) z_repr (by decide +kernel) (pa_cons (pe_lst (pa_cons (pv 2) (pa_cons (pe_and (pv 2) (pe_one (pe_cmpR op_ge (pv 0) pe_int (nomark _)))) (pa_cons (pe_cg G_l_is_name hc hr (by rfl) (pa_cons (pv 0) pa_nil)) pa_nil)))) pa_nil)) (nomark _)))))), ?_⟩
    refine ⟨_, rfl, v, rfl, j, fun H1 s1 => ⟨_, rfl, v, rfl, j.same s1, fun H2 s2 => ⟨_, rfl, v, rfl, j.same (s1.trans s2), fun H3 s3 => ⟨by show 3 ≤ sizeLine; decide, fun p np => ?_⟩⟩⟩⟩
    have t3 := (s1.trans s2).trans s3
    have t4 := t3.trans (same_new (o := .lst [V.bl (isInt v), .bl (isInt v && notNeg v), .bl (isNam v)]) np)
    refine ⟨_, rfl, v, rfl, j.same t4, fun H5 s5 => ?_⟩
    have e5 : H5 p = some (.lst [V.bl (isInt v), .bl (isInt v && notNeg v), .bl (isNam v)]) := s5 _ _ upd_same
    refine ⟨_, rfl, p, d3 _ _ _, rfl, d3_dp (.inl (.inl e5)), rfl, rfl, by show 1 < 64; decide, d3_len _ _ _, ?_⟩
    refine ⟨_, rfl, _, rfl, _, rfl, ?_⟩
    cases e : isInt v with
    | false =>
      refine iteF ⟨_, rfl, v, rfl, j.same (t4.trans s5), fun H6 s6 => ⟨by show 3 ≤ sizeLine; decide, fun p2 np2 => ?_⟩⟩
      refine ⟨p2, d3 _ _ _, rfl, d3_dp (.inl (.inl upd_same)), rfl, rfl, by show 1 < 64; decide, d3_len _ _ _, rfl, ?_⟩
      rw [Bool.false_and]
      rw [decide_eq_true rfl]
      exact q _ (((t4.trans s5).trans s6).trans (same_new np2))
    | true =>
      cases v with
      | int i =>
        refine iteT ⟨_, rfl, _, _, rfl, rfl, _, rfl, _, rfl, j.same (t4.trans s5), fun H6 s6 => ⟨by show 3 ≤ sizeLine; decide, fun p2 np2 => ?_⟩⟩
        refine ⟨p2, d3 _ _ _, rfl, d3_dp (.inl (.inl upd_same)), rfl, rfl, by show 1 < 64; decide, d3_len _ _ _, rfl, ?_⟩
        rw [Bool.true_and]
        have el : decide (V.str (d3 true (notNeg (V.int i)) (isNam (V.int i))).shown = V.str (d3 true (decide (0 ≤ i)) (isNam (V.int i))).shown) = true := decide_eq_true rfl
        refine Eq.mp (congrArg (fun b => Q (V.bl b) _) el.symm) ?_
        exact q _ (((t4.trans s5).trans s6).trans (same_new np2))
      | _ => cases e
end
end K00
set_option Elab.async false
set_option linter.all false
set_option autoImplicit false
set_option maxRecDepth 100000
set_option maxHeartbeats 4000000
namespace K00
open PySem PySem.Spec PyProof.Rows L2 Vb
theorem same_past {d : Addr} {o : HO} {H H' : Hp} (nd : H d = none) (p : Past d (upd H d o) H') : Same H H' := fun b x e => by
  have bd : b ≠ d := ne_of_none e nd
  exact p.1 b x bd (by rw [upd_ne bd]; exact e)
def spLaw (K : PySem.W.Frag) : Sp := fun vs H Q _ => ∃ (a : Addr) (ns : List Int), vs = [.ref a] ∧ SqL K H a (ns.map V.int) ∧ ns.length ≤ 63 ∧ ∀ H', Q (.bl true) H'
theorem asc_lit {z : Str} (h : z.cps.toList.all (· < 128) = true) : Asc z := fun c hc => of_decide_eq_true (List.all_eq_true.mp h c hc)
section
variable {P : Program} {w : World} {K : PySem.W.Frag} {mg : Str → Option Value} {base : Heap}
theorem ok_law {t t' : Tok} {f : Addr} {fd : FuncData} (F : Fun K "law" "law" s_law f fd) (G_l_dice : Cg P w K mg base 1 "_law_dice" (spDice K)) (G_l_number : Cg P w K mg base 3 "_law_number" spNumber) (G_l_text : Cg P w K mg base 3 "_law_text" spText)
    (G_l_other : Cg P w K mg base 3 "_law_other" spOther) (G_l_right : Cg P w K mg base 3 "_law_right" spRight) (z_range : mg "range" = none) (z_max : mg "max" = none) (z_min : mg "min" = none) (z_len : mg "len" = none)
    (c_MAX_LETTERS : mg "MAX_LETTERS" = some (.int 8 t)) (c_MAX_DIGITS : mg "MAX_DIGITS" = some (.int 60 t')) : FnG P w K mg base 4 f fd ["_law_script"] (spLaw K) := by
  refine goes_by F sc_law (fun vs H Q E h => ?_) (fun cdv A outer s H vs Q E hc hr h => ?_)
  · obtain ⟨a, ns, rfl, _⟩ := h
    rfl
  · obtain ⟨a, ns, rfl, hS, hlen, q⟩ := h
    refine ⟨_, (pss_cons (ps_for PassesOwn.never rfl (pi_range1 (by rfl) z_range (pa_cons (pe_callB (call_max2 rfl) (by rfl) z_max (by decide +kernel) (pa_cons pe_int (pa_cons (pe_callB (call_min2 rfl) (by rfl) z_min (by decide +kernel) (pa_cons pe_int (pa_cons (pe_callB call_len_seq (by rfl) z_len PySem.boot_len (pa_cons (pv 0) pa_nil)) pa_nil))) pa_nil))) pa_nil)) (pg_name (i := 1) sc_law.nd rfl (Or.inl rfl))
      (pss_cons (ps_set (i := 2) sc_law.nd rfl (Or.inl rfl) (pe_cg G_l_dice hc hr (by rfl) (pa_cons (pv 0) (pa_cons (pv 1) pa_nil))))
      (pss_cons (ps_par (i := 3) (j := 4) (by rfl) sc_law.nd rfl rfl (by decide) rfl rfl (pa_cons (pe_cg G_l_number hc hr (by rfl) (pa_cons (pv 2) pa_nil)) (pa_cons (pe_cg G_l_text hc hr (by rfl) (pa_cons (pv 2) pa_nil)) pa_nil)) (by rfl))
      (pss_one (ps_for PassesOwn.never rfl (pi_list (pe_lst (pa_cons (pv 3) (pa_cons (pv 4) (pa_cons (pe_cg G_l_other hc hr (by rfl) (pa_cons (pv 2) (pa_cons (pv 4) (pa_cons (pv 3) pa_nil)))) pa_nil))))) (pg_name (i := 5) sc_law.nd rfl (Or.inl rfl))
      (pss_one (ps_if (pt_not (pt_val (pe_cg G_l_right hc hr (by rfl) (pa_cons (pv 5) pa_nil))))
      (pss_one (ps_ret pe_bl))
      pss_nil)))))))
      (pss_cons (ps_set (i := 6) sc_law.nd rfl (Or.inl rfl) (pe_lst (pa_cons pe_int (pa_cons (pe_un un_neg pe_int) (pa_cons pe_int (pa_cons (pe_op op_sub (pe_op op_powW pe_int pe_int) pe_int) (pa_cons (pe_op op_powW pe_int pe_int) (pa_cons (pe_op op_sub pe_int (pe_op op_powW pe_int pe_int)) (pa_cons (pe_un un_neg (pe_op op_powW pe_int pe_int)) (pa_cons pe_str (pa_cons pe_str (pa_cons pe_str (pa_cons pe_str (pa_cons pe_bl pa_nil))))))))))))))
      (pss_cons (ps_for PassesOwn.never rfl (pi_list (pv 6)) (pg_name (i := 5) sc_law.nd rfl (Or.inl rfl))
      (pss_one (ps_if (pt_not (pt_val (pe_cg G_l_right hc hr (by rfl) (pa_cons (pv 5) pa_nil))))
      (pss_one (ps_ret pe_bl))
      pss_nil)))
      (pss_one (ps_ret (pe_cmpR (op_eqD hr.units) (pe_lst (pa_cons (pe_glob (v := .int 8) rfl c_MAX_LETTERS ⟨_, rfl⟩) (pa_cons (pe_glob (v := .int 60) rfl c_MAX_DIGITS ⟨_, rfl⟩) pa_nil))) (pe_lst (pa_cons pe_int (pa_cons pe_int pa_nil))) (nomark _))))))), ?_⟩
    -- the spots
    refine ⟨_, rfl, a, _, rfl, .inl hS, _, _, rfl, _, _, rfl, _, rfl, ?_, ?_, for_range (lo := 0) (fun i σ H' => ∃ x1 x2 x3 x4 x5 x6, σ = [some (.ref a), x1, x2, x3, x4, x5, x6] ∧ Same H H') ⟨none, none, none, none, none, none, rfl, Same.refl H⟩ ?_ ?_⟩
    · split <;> split <;> omega
    · split <;> split <;> omega
    · rintro i σ H' hi ⟨x1, x2, x3, x4, x5, x6, rfl, s0⟩
      refine ⟨_, rfl, _, rfl, a, ns, _, rfl, s0.seq hS, by omega, fun d g s nd => ?_⟩
      have dd : Dice (upd H' d (dz g s 0)) d := ⟨g, s, 0, upd_same⟩
      refine ⟨_, rfl, d, rfl, dd, fun n H2 p2 hn => ⟨_, rfl, d, rfl, p2.dice, fun z H3 p3 hz az => ⟨_, _, rfl, ?_⟩⟩⟩
      refine ⟨_, rfl, _, rfl, _, rfl, _, rfl, _, rfl, d, z, n, rfl, p3.dice, hz, az, hn, fun v H4 p4 hv => ⟨by show 3 ≤ sizeLine; decide, fun p np => ?_⟩⟩
      have s5 := same_new (o := .lst [V.int n, .str z, v]) np
      have sH : Same H (upd H4 p (.lst [V.int n, .str z, v])) := (s0.trans (same_past nd ((p2.trans p3).trans p4))).trans s5
      have jx : ∀ x ∈ [V.int n, .str z, v], Judged (upd H4 p (.lst [V.int n, .str z, v])) x := fun x hx => by
        simp only [List.mem_cons, List.not_mem_nil, or_false] at hx
        rcases hx with rfl | rfl | rfl
        · exact hn
        · exact ⟨hz, az⟩
        · exact hv.same s5
      refine ⟨p, rfl, ⟨_, .inl (.inl upd_same)⟩, for_list (K := K) (a := p) (xs := [V.int n, .str z, v]) (fun j σ H6 => ∃ y, σ = [some (.ref a), some (.int (0 + (i : Int))), some (.ref d), some (.int n), some (.str z), y, x6] ∧ Same (upd H4 p (.lst [V.int n, .str z, v])) H6)
        ⟨_, rfl, Same.refl _⟩ (fun j σ H6 _ ⟨_, _, s6⟩ => .inl (.inl (s6 _ _ upd_same))) ?_ ?_⟩
      · rintro j x σ H6 hj ⟨y, rfl, s6⟩
        exact ⟨_, rfl, x, rfl, (jx x (List.mem_of_getElem? hj)).same s6, fun H7 s7 => ⟨_, rfl, iteF ⟨_, rfl, s6.trans s7⟩⟩⟩
      · rintro σ H6 ⟨y, rfl, s6⟩
        exact ⟨_, _, _, _, _, _, rfl, sH.trans s6⟩
    · rintro σ H' ⟨x1, x2, x3, x4, x5, x6, rfl, s0⟩
      have w60 : CPowW 10 60 := ⟨by decide, by decide +kernel⟩
      refine ⟨_, rfl, _, _, rfl, rfl, w60, _, _, rfl, rfl, _, _, rfl, rfl, w60, _, _, rfl, rfl, w60, _, _, rfl, rfl, _, _, rfl, rfl, w60, _, rfl, by show 12 ≤ sizeLine; decide, fun p np => ?_⟩
      have jx : ∀ H6 : Hp, ∀ x ∈ [V.int 0, V.int (-1), V.int 1, V.int ((10 : Int) ^ (60 : Int).toNat - 1), V.int ((10 : Int) ^ (60 : Int).toNat), V.int (1 - (10 : Int) ^ (60 : Int).toNat), V.int (-((10 : Int) ^ (60 : Int).toNat)), V.str "", V.str "a", V.str "abcdefgh", V.str "abcdefghi", V.bl true], Judged H6 x := fun H6 x hx => by
        simp only [List.mem_cons, List.not_mem_nil, or_false] at hx
        rcases hx with rfl | rfl | rfl | rfl | rfl | rfl | rfl | rfl | rfl | rfl | rfl | rfl
        · show (0 : Int).natAbs < 10 ^ 100; decide +kernel
        · show (-1 : Int).natAbs < 10 ^ 100; decide +kernel
        · show (1 : Int).natAbs < 10 ^ 100; decide +kernel
        · show ((10 : Int) ^ (60 : Int).toNat - 1).natAbs < 10 ^ 100; decide +kernel
        · show ((10 : Int) ^ (60 : Int).toNat).natAbs < 10 ^ 100; decide +kernel
        · show (1 - (10 : Int) ^ (60 : Int).toNat).natAbs < 10 ^ 100; decide +kernel
        · show (-((10 : Int) ^ (60 : Int).toNat)).natAbs < 10 ^ 100; decide +kernel
        · exact ⟨by decide +kernel, asc_lit (by decide +kernel)⟩
        · exact ⟨by decide +kernel, asc_lit (by decide +kernel)⟩
        · exact ⟨by decide +kernel, asc_lit (by decide +kernel)⟩
        · exact ⟨by decide +kernel, asc_lit (by decide +kernel)⟩
        · trivial
      refine ⟨_, rfl, p, rfl, ⟨_, .inl (.inl upd_same)⟩, for_list (K := K) (a := p) (xs := [V.int 0, V.int (-1), V.int 1, V.int ((10 : Int) ^ (60 : Int).toNat - 1), V.int ((10 : Int) ^ (60 : Int).toNat), V.int (1 - (10 : Int) ^ (60 : Int).toNat), V.int (-((10 : Int) ^ (60 : Int).toNat)), V.str "", V.str "a", V.str "abcdefgh", V.str "abcdefghi", V.bl true])
        (fun j σ H6 => ∃ y, σ = [some (.ref a), x1, x2, x3, x4, y, some (.ref p)] ∧ ∃ xs, xs = [V.int 0, V.int (-1), V.int 1, V.int ((10 : Int) ^ (60 : Int).toNat - 1), V.int ((10 : Int) ^ (60 : Int).toNat), V.int (1 - (10 : Int) ^ (60 : Int).toNat), V.int (-((10 : Int) ^ (60 : Int).toNat)), V.str "", V.str "a", V.str "abcdefgh", V.str "abcdefghi", V.bl true] ∧ H6 p = some (.lst xs))
        ⟨_, rfl, _, rfl, upd_same⟩ (fun j σ H6 _ ⟨_, _, xs, e, s6⟩ => .inl (.inl (e ▸ s6))) ?_ ?_⟩
      · rintro j x σ H6 hj ⟨y, rfl, xs, e, s6⟩
        exact ⟨_, rfl, x, rfl, jx H6 x (List.mem_of_getElem? hj), fun H7 s7 => ⟨_, rfl, iteF ⟨_, rfl, xs, e, s7 _ _ s6⟩⟩⟩
      · rintro σ H6 ⟨y, rfl, xs, e, s6⟩
        refine ⟨by show 2 ≤ sizeLine; decide, fun p1 n1 => ⟨by show 2 ≤ sizeLine; decide, fun p2 n2 => ?_⟩⟩
        have k2 := same_new (o := .lst [V.int 8, V.int 60]) n2
        exact ⟨.list [.int 8, .int 60], .list [.int 8, .int 60], .lst (.inl (.inl (k2 _ _ upd_same))) (.cons (.int 8) (.cons (.int 60) .nil)), .lst (.inl (.inl upd_same)) (.cons (.int 8) (.cons (.int 60) .nil)), by decide, by decide, q _⟩

/-- all of the text, from what the head tells -/
theorem fin {l : PySem.W.OpenLaw} {w : World} {K : PySem.W.Frag} {mg : Str → Option Value} {fa : Addr} {t1 t2 t3 : Tok}
    (L : ∃ fd : FuncData, (∀ (s : Shared) (v : Value), BindsTo s fd ⟨[v], []⟩ [("_law_script", v)]) ∧ Fun K "law" "law" s_law fa fd)
    (D1 : Df K mg "is_integer" s_is_integer ["value"]) (D2 : Df K mg "is_count" s_is_count ["value"]) (D3 : Df K mg "is_name" s_is_name ["value"]) (D4 : Df K mg "_law_dice" s_l_dice ["_law_script", "_law_spot"]) (D5 : Df K mg "_law_roll" s_l_roll ["_law_dice_here", "_law_total"])
    (D6 : Df K mg "_law_pick" s_l_pick ["_law_dice_here", "_law_items"]) (D7 : Df K mg "_law_signs" s_l_signs []) (D8 : Df K mg "_law_number" s_l_number ["_law_dice_here"]) (D9 : Df K mg "_law_text" s_l_text ["_law_dice_here"])
    (D10 : Df K mg "_law_other" s_l_other ["_law_dice_here", "_law_word", "_law_number_here"]) (D11 : Df K mg "_law_is_integer" s_l_is_integer ["_law_value"]) (D12 : Df K mg "_law_is_name" s_l_is_name ["_law_value"]) (D13 : Df K mg "_law_right" s_l_right ["_law_value"])
    (c1 : mg "_TOO_LONG" = some (.int (10 ^ 60) t1)) (c2 : mg "MAX_LETTERS" = some (.int 8 t2)) (c3 : mg "MAX_DIGITS" = some (.int 60 t3))
    (z_int : mg "int" = none) (z_bool : mg "bool" = none) (z_str : mg "str" = none) (z_len : mg "len" = none) (z_abs : mg "abs" = none) (z_max : mg "max" = none) (z_min : mg "min" = none) (z_range : mg "range" = none) (z_isinstance : mg "isinstance" = none) (z_repr : mg "repr" = none) :
    ∃ fd : FuncData, (∀ (s : Shared) (v : Value), BindsTo s fd ⟨[v], []⟩ [("_law_script", v)]) ∧ ∀ base : Heap, K.In base → base.Ns mainGlobals mg → FnG l.prog w K mg base 4 fa fd ["_law_script"] (spLaw K) := by
  obtain ⟨fd, b, F⟩ := L
  refine ⟨fd, b, fun base _ _ => ?_⟩
  have gRoll : Cg l.prog w K mg base 1 "_law_roll" spRoll := ok_roll D5 z_int
  have gPick : Cg l.prog w K mg base 2 "_law_pick" (spPick K) := ok_pick D6 gRoll z_len
  have gSigns : Cg l.prog w K mg base 1 "_law_signs" spSigns := ok_signs D7
  have gInt : Cg l.prog w K mg base 1 "is_integer" (spOf isInt) := ok_is_integer D1 z_isinstance z_int z_bool z_abs c1
  exact ok_law F (ok_dice D4 z_int z_len z_abs z_max) (ok_number D8 gRoll gPick) (ok_text D9 gRoll gPick gSigns z_range z_len) (ok_other D10 gPick)
    (ok_right D13 gInt (ok_is_count D2 gInt) (ok_is_name D3 z_isinstance z_str z_len c2) (ok_l_is_integer D11 z_isinstance z_int z_bool z_abs z_str z_len) (ok_l_is_name D12 z_isinstance z_str z_len) z_repr) z_range z_max z_min z_len c2 c3
end
end K00

open PySem PySem.W PyProof.Rows
set_option maxRecDepth 100000 in
set_option maxHeartbeats 0 in
theorem PySem.Challenge.cw_mendbooks_k00_words_judged_holds : PySem.Challenge.rw_mendbooks_k00_words_judged.Holds := by
  w_on; o_law; k_head; (case hw => w_witness2)
  k_fill
  refine Vb.walk_calm (l := PySem.Challenge.rw_mendbooks_k00_words_judged) (n := 63) (k := 4) (x := "_law_script") (sp := K00.spLaw) rfl (by decide) rfl ⟨rfl, by decide, by decide⟩ (fun w h Y => PySem.W.kIn_of Y) ?F (fun K H a ns hl _ hS => ⟨a, ns, rfl, hS, hl, fun _ => rfl⟩)
  case F =>
    intro w mg fa h KX G hmg
    refine' K00.fin (Vb.law_def KX G hmg ?lb ?la ?ll ?lc ?lk) (Vb.Df.mk KX G ?a1 ?l1 ?c1 ?k1 ?b1) (Vb.Df.mk KX G ?a2 ?l2 ?c2 ?k2 ?b2) (Vb.Df.mk KX G ?a3 ?l3 ?c3 ?k3 ?b3) (Vb.Df.mk KX G ?a4 ?l4 ?c4 ?k4 ?b4) (Vb.Df.mk KX G ?a5 ?l5 ?c5 ?k5 ?b5) (Vb.Df.mk KX G ?a6 ?l6 ?c6 ?k6 ?b6) (Vb.Df.mk KX G ?a7 ?l7 ?c7 ?k7 ?b7) (Vb.Df.mk KX G ?a8 ?l8 ?c8 ?k8 ?b8) (Vb.Df.mk KX G ?a9 ?l9 ?c9 ?k9 ?b9) (Vb.Df.mk KX G ?a10 ?l10 ?c10 ?k10 ?b10) (Vb.Df.mk KX G ?a11 ?l11 ?c11 ?k11 ?b11) (Vb.Df.mk KX G ?a12 ?l12 ?c12 ?k12 ?b12) (Vb.Df.mk KX G ?a13 ?l13 ?c13 ?k13 ?b13)
      (PySem.W.mg_of KX G ?n1) (PySem.W.mg_of KX G ?n2) (PySem.W.mg_of KX G ?n3) (PySem.W.mg_none_of KX G ?z1) (PySem.W.mg_none_of KX G ?z2) (PySem.W.mg_none_of KX G ?z3) (PySem.W.mg_none_of KX G ?z4) (PySem.W.mg_none_of KX G ?z5) (PySem.W.mg_none_of KX G ?z6) (PySem.W.mg_none_of KX G ?z7) (PySem.W.mg_none_of KX G ?z8) (PySem.W.mg_none_of KX G ?z9) (PySem.W.mg_none_of KX G ?z10)
    (case lb => exact fun _ _ _ _ _ _ _ _ => .of_eq rfl); (case la => k_is); (case ll => k_is); (case lc => k_is); (case lk => k_is)
    (case a1 => k_is); (case l1 => k_is); (case c1 => k_is); (case k1 => k_is); (case b1 => exact fun _ _ _ _ _ _ us hl => match us, hl with | [_], _ => rfl)
    (case a2 => k_is); (case l2 => k_is); (case c2 => k_is); (case k2 => k_is); (case b2 => exact fun _ _ _ _ _ _ us hl => match us, hl with | [_], _ => rfl)
    (case a3 => k_is); (case l3 => k_is); (case c3 => k_is); (case k3 => k_is); (case b3 => exact fun _ _ _ _ _ _ us hl => match us, hl with | [_], _ => rfl)
    (case a4 => k_is); (case l4 => k_is); (case c4 => k_is); (case k4 => k_is); (case b4 => exact fun _ _ _ _ _ _ us hl => match us, hl with | [_, _], _ => rfl)
    (case a5 => k_is); (case l5 => k_is); (case c5 => k_is); (case k5 => k_is); (case b5 => exact fun _ _ _ _ _ _ us hl => match us, hl with | [_, _], _ => rfl)
    (case a6 => k_is); (case l6 => k_is); (case c6 => k_is); (case k6 => k_is); (case b6 => exact fun _ _ _ _ _ _ us hl => match us, hl with | [_, _], _ => rfl)
    (case a7 => k_is); (case l7 => k_is); (case c7 => k_is); (case k7 => k_is); (case b7 => exact fun _ _ _ _ _ _ us hl => match us, hl with | [], _ => rfl)
    (case a8 => k_is); (case l8 => k_is); (case c8 => k_is); (case k8 => k_is); (case b8 => exact fun _ _ _ _ _ _ us hl => match us, hl with | [_], _ => rfl)
    (case a9 => k_is); (case l9 => k_is); (case c9 => k_is); (case k9 => k_is); (case b9 => exact fun _ _ _ _ _ _ us hl => match us, hl with | [_], _ => rfl)
    (case a10 => k_is); (case l10 => k_is); (case c10 => k_is); (case k10 => k_is); (case b10 => exact fun _ _ _ _ _ _ us hl => match us, hl with | [_, _, _], _ => rfl)
    (case a11 => k_is); (case l11 => k_is); (case c11 => k_is); (case k11 => k_is); (case b11 => exact fun _ _ _ _ _ _ us hl => match us, hl with | [_], _ => rfl)
    (case a12 => k_is); (case l12 => k_is); (case c12 => k_is); (case k12 => k_is); (case b12 => exact fun _ _ _ _ _ _ us hl => match us, hl with | [_], _ => rfl)
    (case a13 => k_is); (case l13 => k_is); (case c13 => k_is); (case k13 => k_is); (case b13 => exact fun _ _ _ _ _ _ us hl => match us, hl with | [_], _ => rfl)
    (case n1 => k_is); (case n2 => k_is); (case n3 => k_is)
    (case z1 => k_is); (case z2 => k_is); (case z3 => k_is); (case z4 => k_is); (case z5 => k_is); (case z6 => k_is); (case z7 => k_is); (case z8 => k_is); (case z9 => k_is); (case z10 => k_is)
