import PyProof.Rows.All
import Wide.All
import OpenK.AllK
import Wide.FinOn
import HandS.ForMost
import HandS.IsInst
import HandS.Wide
import HandS.WideMore
import HandS.Flow
import HandS.Style
import HandS.StrMore
import HandS.RaiseMore
import HandS.FStr
import KE.KxText
import HandS.Walk
import KE.KExcIs
import KE.KExcInit
import HandS.ExcInit
import HandS.ExcValue
import HandS.ExcField
import HandS.TryMany
import HandS.HotCalls
import HandS.Property
import HandS.Codes
import HandS.Iter
import KE.GoesEnum
import HandS.Comp
import PyProof.EnumMake
import HandS.Star
import HandS.TupSets
import HandS.Replace
import HandS.OwnEq
import HandS.Lambda
import HandS.ClsMeth
import KE.KCallOwn
import HandS.TupAny
import KE.KeyNested
import HandS.DictComp
import HandS.ExcOwn
import PyProof.NeKinds
import HandS.Zip
import PyProof.FactsAll.dict
import PyProof.Dict
import HandS.Dict
import HandS.Deep
import HandS.DictTup
import HandS.WordsExc
import HandS.Strs
import HandS.SortInts
import HandS.Sort
import KE.SortData
import KE.DatumOrd
import PyProof.ReprText
import PyProof.StrLawsRepr
import PyProof.StrCalls6
import KE.KRevSl
import PySem.Challenge.RW_mendbooks_k11_whole_spots_by_trees
set_option Elab.async false
set_option linter.all false
set_option autoImplicit false
set_option maxRecDepth 100000
set_option maxHeartbeats 4000000
/-! Vb: the layer below all laws: defs that are entered where no container is being written out (calm room), repr of data, powers. -/
namespace Vb
open PySem PySem.Spec PyProof.Rows L2
/-- nothing is being written out by repr around here -/
def Calm (A : Around) : Prop := A.guards = some []
theorem Calm.deep {A : Around} (h : Calm A) (env : Env) : Calm (A.deeper env) := h
theorem calm_caller : Calm callerA := rfl
/-- a promise that is kept where nothing is being written out -/
structure FnG (P : Program) (w : World) (K : PySem.W.Frag) (mg : Str → Option Value) (base : Heap) (k : Nat) (f : Addr) (fd : FuncData) (ps : List Str) (sp : Sp) : Prop where
  count : ∀ vs H Q E, sp vs H Q E → vs.length = ps.length
  goes : ∀ (A : Around) (outer : List Env) (s : Shared) (H : Hp) (args : Args) (us : List Value) (vs : List V) (Q : VK) (E : XK), Calm A → Room k A →
    Env0 P w K mg base A outer s H → BindsTo s fd args (ps.zip us) → Vals vs us → sp vs H Q E → codeAny (model P w) A (.call (.ref f) args) (CR CX0 outer P w H s Q E) s
section
variable {P : Program} {w : World} {K : PySem.W.Frag} {mg : Str → Option Value} {base : Heap}
theorem FnG.of {k : Nat} {f : Addr} {fd : FuncData} {ps : List Str} {sp : Sp} (F : FnOk P w K mg base CX0 k f fd ps sp) : FnG P w K mg base k f fd ps sp :=
  ⟨F.len, fun A outer s H args us vs Q E _ hr => F.run A outer s H args us vs Q E hr⟩
/-- a def's promise by its body, entered in calm room -/
theorem goes_by {x qual : Str} {st : Stmt} {f : Addr} {fd : FuncData} {N ps : List Str} {k : Nat} {sp : Sp} (F : Fun K x qual st f fd) (S : FnScope N ps (defScope st)) (len : ∀ vs H Q E, sp vs H Q E → vs.length = ps.length)
    (body : ∀ (cdv : Value) (A : Around) (outer : List Env) (s : Shared) (H : Hp) (vs : List V) (Q : VK) (E : XK), Calm (A.deeper (envOfC qual (defScope st) s.heap.objs.size f cdv)) → Room k (A.deeper (envOfC qual (defScope st) s.heap.objs.size f cdv)) → sp vs H Q E →
      ∃ t, PSs (cxOf CX0 P w K mg base N qual (defScope st) f cdv A outer s H E).nox (defBody st) t ∧ t { nx := fun _ H' => Q .non H', rt := Q } (start N vs) H) : FnG P w K mg base (k + 1) f fd ps sp := by
  obtain ⟨oc, od, kV, doc, pm, an, cdv, ct, osl, rfl, lk, hcd⟩ := F.ex
  refine ⟨len, fun A outer s H args us vs Q E hc hr e0 hb r hsp => ?_⟩
  have hl := len _ _ _ _ hsp
  have KX : K.In s.heap := e0.mod.kin.keeps fun b o e => (e0.bs b o e).1
  have lim : s.heap.NoLimit := e0.mod.nolimit.keeps fun b o e => (e0.bs b o e).1
  have kinds : ∀ y ∈ ps.zip us, (defScope st).names.lookup y.1 = some .local ∨ ((defScope st).names.lookup y.1 = some .cell ∧ ((cellsFrom (s.heap.objs.size + 1) (defScope st).names []).lookup y.1).isSome = true) := by
    intro y hy
    obtain ⟨n, v⟩ := y
    exact (S.par n (List.of_mem_zip hy).1).imp id fun q => ⟨q, PySem.W.cellsFrom_some _ _ _ (Or.inl q)⟩
  refine codeAny_call_function hr.depth (KX _ _ lk) rfl S.co S.gen rfl (PySem.W.codeRec_of KX hcd) (hb _ _ _ _ ?_)
  refine wpAny_newFunctionEnv_cells S.kind kinds fun env he s1 x => ?_
  cases he
  refine ⟨lim.keeps x.toInCall.keep, codeAny_func ?_⟩
  obtain ⟨t, ht, hq⟩ := body cdv A outer s H vs Q E (hc.deep _) (hr.deeper _) hsp
  have I := inv_start (CX := CX0) (E := E) S hr.hd e0 hl r x
  refine wpAny_mono (ht.nox.run [] s1 (start N vs) H _ I hq) (fun fl s' hs => ?_) (fun _ _ z => z)
  cases fl with
  | brk => exact hs.elim fun _ z => z.elim fun _ z => z.2.elim
  | cont => exact hs.elim fun _ z => z.elim fun _ z => z.2.elim
  | ret u =>
    obtain ⟨v, σ', H', J, rv, q⟩ := hs
    exact ⟨v, H', J.os, J.bare, J.base, J.hok, rv, q⟩
  | next =>
    obtain ⟨σ', H', J, q⟩ := hs
    exact ⟨V.non, H', J.os, J.bare, J.base, J.hok, rfl, q⟩
end
section
variable {X : Cx} {k : Nat} {f : Addr} {fd : FuncData} {ps : List Str} {sp : Sp} {dvs : List V} {ds : List Value} {E : XK} {x : Str} {p pos : Pos} {e : Expr} {es : List Expr} {t : TA}
theorem goes_in {pins : List (Addr × Obj)} {σ : L2.St} {H : Hp} {s : Shared} {Q : VK} {us : List Value} {vs : List V} (F : FnG X.prog X.w X.K X.mg X.base k f fd ps sp) (hc : Calm X.A) (hr : Room k X.A) (hb : Binds X.K fd ps ds) (hd : Vals dvs ds) (hx : Passes CX0 X E)
    (I : Inv X pins σ H s) (r : Vals vs us) (h : sp (vs ++ dvs) H Q E) : wpAny (model X.prog X.w) X.A (call (.ref f) us) (EP X pins σ Q) X.xe s := by
  have both : Vals (vs ++ dvs) (us ++ ds) := r.append hd
  have hl : (us ++ ds).length = ps.length := both.length ▸ F.count _ _ _ _ h
  have go := F.goes X.A X.stack s H ⟨us, []⟩ (us ++ ds) (vs ++ dvs) Q E hc hr I.env0 (hb s us I.kIn hl) both h
  refine wpAny_call (codeAny_mono go fun r s' hq => ?_)
  match r, hq with
  | .error e, hq => exact hx pins σ H s e s' I hq
  | .ok (.ret u), hq => exact I.after hq
  | .ok .next, hq => exact hq.elim
  | .ok .brk, hq => exact hq.elim
  | .ok .cont, hq => exact hq.elim
/-- f(e, ..), f entered in calm room -/
theorem pe_callG (F : FnG X.prog X.w X.K X.mg X.base k f fd ps sp) (hc : Calm X.A) (hr : Room k X.A) (hg : Gl X x) (hm : X.mg x = some (.ref f)) (hk : PySem.W.keepIn X.K (.ref f) = true) (hb : Binds X.K fd ps ds) (hd : Vals dvs ds) (hx : Passes CX0 X E)
    (ha : PA X (e :: es) t) (hdb : (x == ("__debug__" : Str)) = false := by decide) (he : starEach (e :: es) X.env = (false, eval e X.env) :: starEach es X.env := by rfl) (hpl : (backTo pos (starEach es X.env)).any (·.1) = false := by rfl) :
    PE X (.Call (.Name x p) (e :: es) [] pos) (tCall sp dvs E t) :=
  ⟨fun pins s σ H Q I h => wpAny_Call_Name_kw (ld_glob I hg hm
    (PySem.W.callWith_K (h₀ := X.base) I.ok.mod.kin hk (thn (ha.run pos pins s σ H _ I h) fun us s1 ⟨vs, H1, I1, r, q⟩ => ⟨I1.kIn, goes_in F hc hr hb hd hx I1 r q⟩) he hpl) hdb)⟩
end
/-! ### the law's own end, in calm room -/
section
variable {P : Program} {w : World} {K : PySem.W.Frag} {mg mb : Str → Option Value} {s₁ : Shared} {H : Hp} {a : Addr}
/-- what is seen behind the top once the script alone may be tracked -/
structure Lone (K : PySem.W.Frag) (s₁ : Shared) (H : Hp) (a : Addr) : Prop where
  only : Only H
  at_a : ∀ b, H b ≠ none → b = a
  noK : H a ≠ none → K.lookup a = none
  noD : ∀ o, s₁.heap.get? a = some o → ∀ es ep, o.data ≠ .dict es ep
theorem Lone.bare (L : Lone K s₁ H a) {b : Addr} {o : Obj} (e : s₁.heap.get? b = some o) (h : (∃ es ep, o.data = .dict es ep) ∨ K.lookup b = some o) : H b = none := by
  refine Classical.byContradiction fun n => ?_
  have eb := L.at_a b n
  subst eb
  rcases h with ⟨es, ep, d⟩ | h
  · exact L.noD o e es ep d
  · exact nomatch (L.noK n).symm.trans h
theorem Lone.env (L : Lone K s₁ H a) (KX : K.In s₁.heap) (hns : s₁.heap.Ns mainGlobals mg) (hb : s₁.heap.Ns builtinsNs mb) (hbb : ∀ x : Str, x ≠ "__name__" → mb x = bootBuiltins x) (hlim : s₁.heap.NoLimit) (hg : s₁.gens = #[])
    (hok : HOk P w H s₁.heap) : K.In (hidT s₁.heap H) ∧ (hidT s₁.heap H).Ns mainGlobals mg ∧ Env0 P w K mg (hidT s₁.heap H) callerA [] s₁ H := by
  have ns : ∀ {b : Addr} {m : Str → Option Value}, s₁.heap.Ns b m → (hidT s₁.heap H).Ns b m := fun ⟨o, es, ep, e, d, r⟩ => ⟨o, es, ep, hidT_get e (L.bare e (.inl ⟨es, ep, d⟩)), d, r⟩
  have kin : K.In (hidT s₁.heap H) := fun b o e => hidT_get (KX b o e) (L.bare (KX b o e) (.inr e))
  obtain ⟨mc, c1, c2⟩ := hlim
  exact ⟨kin, ns hns, rfl, ⟨kin, ns hns, ⟨mb, ns hb, hbb⟩, ⟨mc, ns c1, c2⟩⟩, fun b o e => of_hidT e, Nat.le_of_eq (hidT_size _ _), trivial, fun b z => (List.not_mem_nil z).elim, hok, .of_eq hg⟩
theorem Lone.kept (L : Lone K s₁ H a) {s' : Shared} (hok : HOk P w H s₁.heap) {u : Value} (c : CE [] P w H s₁ (fun v _ => v = .bl true) u s') : Flow.ret u = .ret (.bool true) ∧ OldK s₁.heap s'.heap ∧ s'.os = s₁.os ∧ AllBare s'.gens := by
  obtain ⟨v, H', os, bare, un, hok', r', q⟩ := c
  cases (show v = .bl true from q)
  cases (show u = Value.bool true from r')
  refine ⟨rfl, OldK.of_keep fun b o e => ?_, os, bare⟩
  cases q : H b with
  | none => exact un.keep b o e q (fun z => (List.not_mem_nil z).elim) (fun z => (List.not_mem_nil z).elim)
  | some u =>
    rcases L.only b with z | ⟨ob, xs, z⟩
    · exact nomatch q.symm.trans z
    · have before := (hok b _ z).1
      have after := (hok' b _ (un.frzs b ob _ z)).1
      cases before.symm.trans e
      exact after
variable {k : Nat} {fa : Addr} {fd : FuncData} {x : Str} {sp : Sp} {vs : List Value} {ns : List Int}
theorem law_goes (KX : K.In s₁.heap) (hns : s₁.heap.Ns mainGlobals mg) (hb : s₁.heap.Ns builtinsNs mb) (hbb : ∀ x : Str, x ≠ "__name__" → mb x = bootBuiltins x) (hlim : s₁.heap.NoLimit) (hg : s₁.gens = #[])
    (ha : s₁.heap.get? a = some { cls := .type "list", data := .seq vs.toArray }) (hi : IntsAre vs ns) (hl : ns.length ≤ sizeLine) (hr : Room k callerA)
    (F : ∀ base : Heap, K.In base → base.Ns mainGlobals mg → FnG P w K mg base k fa fd [x] sp) (bind : ∀ (s : Shared) (u : Value), BindsTo s fd ⟨[u], []⟩ [(x, u)])
    (hsp : ∀ H : Hp, Only H → SqL K H a (ns.map V.int) → sp [.ref a] H (fun v _ => v = .bl true) fun _ _ _ => False) :
    codeAny (model P w) callerA (.call (.ref fa) ⟨[.ref a], []⟩) (fun r s' => r = .ok (.ret (.bool true)) ∧ OldK s₁.heap s'.heap ∧ s'.os = s₁.os ∧ AllBare s'.gens) s₁ := by
  have rv := vals_ints hi
  have core : ∀ H : Hp, Lone K s₁ H a → SqL K H a (ns.map V.int) → HOk P w H s₁.heap → codeAny (model P w) callerA (.call (.ref fa) ⟨[.ref a], []⟩) (fun r s' => r = .ok (.ret (.bool true)) ∧ OldK s₁.heap s'.heap ∧ s'.os = s₁.os ∧ AllBare s'.gens) s₁ := by
    intro H L hS hok
    obtain ⟨kin, kns, e0⟩ := L.env (P := P) (w := w) KX hns hb hbb hlim hg hok
    refine codeAny_mono ((F _ kin kns).goes callerA [] s₁ H ⟨[.ref a], []⟩ [.ref a] [.ref a] _ _ calm_caller hr e0 (bind s₁ (.ref a)) (.cons rfl .nil) (hsp H L.only hS)) fun r s' h => ?_
    match r, h with
    | .error _, h => exact h.elim
    | .ok .next, h => exact h.elim
    | .ok .brk, h => exact h.elim
    | .ok .cont, h => exact h.elim
    | .ok (.ret u), h =>
      obtain ⟨e, rest⟩ := L.kept hok h
      exact ⟨congrArg Except.ok e, rest⟩
  have noD : ∀ o, s₁.heap.get? a = some o → ∀ es ep, o.data ≠ .dict es ep := fun o e es ep d => by
    cases ha.symm.trans e
    cases (show Data.seq vs.toArray _ = Data.dict es ep from d)
  cases hk : K.lookup a with
  | some o =>
    cases ha.symm.trans (KX a o hk)
    exact core (fun _ => none) ⟨fun _ => .inl rfl, fun b z => (z rfl).elim, fun z => (z rfl).elim, noD⟩ (.inr ⟨_, vs.toArray, _, hk, rfl, rfl, rfl, by rw [List.size_toArray, hi.length]; exact hl, by simpa using rv⟩) (fun b u z => nomatch (show (none : Option HO) = some u from z))
  | none =>
    let T : HO := .frz { cls := .type "list", data := .seq vs.toArray } (.lst (ns.map V.int))
    have tA : ∀ b u, (if b = a then some T else none : Option HO) = some u → b = a ∧ u = T := fun b u z => by
      by_cases q : b = a
      · rw [if_pos q] at z
        exact ⟨q, (Option.some.inj z).symm⟩
      · rw [if_neg q] at z
        cases z
    refine core (fun b => if b = a then some T else none) ⟨fun b => ?_, fun b z => ?_, fun _ => hk, noD⟩ (.inl (.inr ⟨{ cls := .type "list", data := .seq vs.toArray }, if_pos rfl⟩)) (fun b u z => ?_)
    · by_cases q : b = a
      · exact .inr ⟨_, _, if_pos q⟩
      · exact .inl (if_neg q)
    · exact Classical.byContradiction fun q => z (if_neg q)
    · obtain ⟨e1, e2⟩ := tA b u z
      subst e1
      subst e2
      exact ⟨ha, by rw [List.length_map]; exact hl, vs, _, rv, ha⟩
end
/-- the goal that the head leaves, from the law's promise in calm room -/
theorem walk_calm {l : PySem.W.OpenLaw} {n k : Nat} {q : Program} {loose : List Str} {XP : (Str → Option Value) → Heap → Prop} {YP : World → Heap → Prop} {d : DefRec} {K : Params → PySem.W.Frag} {sp : PySem.W.Frag → Sp} {x : Str}
    (hn : l.most = some n) (hn2 : n ≤ sizeLine) (hdf : d.params.defaults = []) (hr : Room k callerA) (hY : ∀ (w : World) (h : Heap), YP w h → (K w.params).In h)
    (F : ∀ (w : World) (mg : Str → Option Value) (fa : Addr) (h : Heap), (K w.params).In h → h.Ns mainGlobals mg → mg d.name = some (.ref fa) →
      ∃ fd : FuncData, (∀ (s : Shared) (u : Value), BindsTo s fd ⟨[u], []⟩ [(x, u)]) ∧ ∀ base : Heap, (K w.params).In base → base.Ns mainGlobals mg → FnG l.prog w (K w.params) mg base k fa fd [x] (sp (K w.params)))
    (hsp : ∀ (K : PySem.W.Frag) (H : Hp) (a : Addr) (ns : List Int), ns.length ≤ n → Only H → SqL K H a (ns.map V.int) → sp K [.ref a] H (fun v _ => v = .bl true) fun _ _ _ => False) :
    PySem.W.WalkO q loose XP YP l.row.toRowW d [] (fun f vs => PySem.call f vs) :=
  Att.attach_call hn hdf fun w s₀ s₁ mg mb fa o pm cd doc a vs ns G Y ho hd hcd hmg hobj hints hlen hg => by
    obtain ⟨fd, hb, hF⟩ := F w mg fa _ (hY w _ Y) G.T.g hmg
    exact law_goes (hY w _ Y) G.T.g G.T.b G.T.builtins G.T.nolimit hg hobj hints (Nat.le_trans hlen hn2) hr hF hb fun H hO hS => hsp _ H a ns hlen hO hS
/-! ### repr of data, in calm room -/
section
variable {X : Cx}
/-- repr(x) of data: its text is the data's -/
def rRepr (K : PySem.W.Frag) : List V → Hp → VK → Prop := fun xs H Q => ∃ (a : Addr) (d : PyData), xs = [.ref a] ∧ Dp K H (.ref a) d ∧ d.showable = true ∧ d.hasDict = false ∧ d.depth < 64 ∧ d.shown.length ≤ sizeLine ∧ Q (.str d.shown) H
theorem call_repr_data (hc : Calm X.A) (hu : X.A.units + 64 < cLine) : CallR X (.builtin "repr") (rRepr X.K) := by
  intro pins s σ H xs us Q I r h
  obtain ⟨a, d, rfl, hd, hs, hn, hz, hl, q⟩ := h
  obtain ⟨u, rfl, r1⟩ := vals1 r
  cases (show u = Value.ref a from r1)
  obtain ⟨as, hr⟩ := Dp.reads I d _ _ hd r1
  refine repr_of_reads' (h₀ := s.heap) hr hs (fun z => ?_) hc (by omega) (fun _ _ e => e) (fun h' u tk hk => ?_) hl
  · rw [hn] at z
    cases z
  · exact ⟨.str _, H, I.kept hk, ⟨_, rfl⟩, q⟩
/-- a power of any two written numbers that is not too long -/
def CPowW (i j : Int) : Prop := 0 ≤ j ∧ (Builtin.Int.intBits i : Int) * j ≤ 2 ^ 27
theorem op_powW : OpR X (binaryOp .Pow) (rI CPowW fun i j => .int (i ^ j.toNat)) := opI fun _ _ _ _ _ _ _ hc q => pow_int hc.1 hc.2 q
end
/-! ### names that stand for defs -/
/-- the name x stands for a def that keeps the promise sp in calm room, by at most level k -/
def Cg (P : Program) (w : World) (K : PySem.W.Frag) (mg : Str → Option Value) (base : Heap) (k : Nat) (x : Str) (sp : Sp) : Prop :=
  ∃ (f : Addr) (fd : FuncData) (ps : List Str), FnG P w K mg base k f fd ps sp ∧ mg x = some (.ref f) ∧ PySem.W.keepIn K (.ref f) = true ∧ Binds K fd ps []
/-- the def st of the text stands at the name x -/
def Df (K : PySem.W.Frag) (mg : Str → Option Value) (x : Str) (st : Stmt) (ps : List Str) : Prop :=
  ∃ (f : Addr) (fd : FuncData), Fun K x x st f fd ∧ mg x = some (.ref f) ∧ Binds K fd ps []
section
variable {P : Program} {w : World} {K : PySem.W.Frag} {mg : Str → Option Value} {base : Heap}
theorem FnG.mono {j k : Nat} {f : Addr} {fd : FuncData} {ps : List Str} {sp : Sp} (F : FnG P w K mg base j f fd ps sp) (h : j ≤ k) : FnG P w K mg base k f fd ps sp :=
  ⟨F.count, fun A outer s H args us vs Q E hc hr => F.goes A outer s H args us vs Q E hc (hr.mono h)⟩
theorem Cg.mono {j k : Nat} {x : Str} {sp : Sp} (G : Cg P w K mg base j x sp) (h : j ≤ k) : Cg P w K mg base k x sp := by
  obtain ⟨f, fd, ps, F, m, kp, b⟩ := G
  exact ⟨f, fd, ps, F.mono h, m, kp, b⟩
/-- a name's promise by its def's body -/
theorem Df.ok {x : Str} {st : Stmt} {N ps : List Str} {k : Nat} {sp : Sp} (D : Df K mg x st ps) (S : FnScope N ps (defScope st)) (len : ∀ vs H Q E, sp vs H Q E → vs.length = ps.length)
    (body : ∀ (cdv : Value) (A : Around) (outer : List Env) (s : Shared) (H : Hp) (vs : List V) (Q : VK) (E : XK) (f : Addr), Calm (A.deeper (envOfC x (defScope st) s.heap.objs.size f cdv)) → Room k (A.deeper (envOfC x (defScope st) s.heap.objs.size f cdv)) → sp vs H Q E →
      ∃ t, PSs (cxOf CX0 P w K mg base N x (defScope st) f cdv A outer s H E).nox (defBody st) t ∧ t { nx := fun _ H' => Q .non H', rt := Q } (start N vs) H) : Cg P w K mg base (k + 1) x sp := by
  obtain ⟨f, fd, F, m, b⟩ := D
  exact ⟨f, fd, ps, goes_by F S len fun cdv A outer s H vs Q E hc hr h => body cdv A outer s H vs Q E f hc hr h, m, F.kp, b⟩
/-- .. where what runs around does not matter -/
theorem Df.mk {x : Str} {st : Stmt} {ps : List Str} {h : Heap} {f : Addr} {oc : Value} {od an : Option Addr} {osl : Array (Option Value)} {kV doc pm cdv ct : Value} (X : K.In h) (G : h.Ns mainGlobals mg) (a : PySem.W.nsIn K mainGlobals x = some (some (.ref f)))
    (l : K.lookup f = some ⟨oc, od, .func (PySem.W.fnOf x x (defArgs st) (defBody st) (defScope st) .none kV doc pm an cdv ct), osl⟩) (c : PySem.W.codeIn K cdv x = true) (k : PySem.W.keepIn K (.ref f) = true)
    (b : ∀ (kV doc pm : Value) (an : Option Addr) (cdv ct : Value) (us : List Value), us.length = ps.length → bindArgs (PySem.W.fnOf x x (defArgs st) (defBody st) (defScope st) .none kV doc pm an cdv ct) ⟨us, []⟩ = pure (ps.zip us)) : Df K mg x st ps :=
  ⟨f, _, fun_mk (st := st) l c k, PySem.W.mg_of X G a, (fun_mk (st := st) l c k).binds b⟩
end
section
variable {X : Cx} {j k : Nat} {sp : Sp} {E : XK} {x : Str} {p pos : Pos} {e : Expr} {es : List Expr} {t : TA}
theorem pe_cg (G : Cg X.prog X.w X.K X.mg X.base j x sp) (hc : Calm X.A) (hr : Room k X.A) (hg : Gl X x) (ha : PA X (e :: es) t) (hj : j ≤ k := by decide) (hx : Passes CX0 X E := by exact pass0) (hdb : (x == ("__debug__" : Str)) = false := by decide)
    (he : starEach (e :: es) X.env = (false, eval e X.env) :: starEach es X.env := by rfl) (hpl : (backTo pos (starEach es X.env)).any (·.1) = false := by rfl) : PE X (.Call (.Name x p) (e :: es) [] pos) (tCall sp [] E t) := by
  obtain ⟨f, fd, ps, F, m, kp, b⟩ := G
  exact pe_callG F hc (hr.mono hj) hg m kp b .nil hx ha hdb he hpl
end
/-! ### the dice of all laws: a list of three ints, at an address of its own -/
def dz (g s c : Int) : HO := .lst [.int g, .int s, .int c]
def Dice (H : Hp) (d : Addr) : Prop := ∃ g s c, H d = some (dz g s c)
/-- all but the dice stays, more may stand -/
def Past (d : Addr) (H H' : Hp) : Prop := (∀ b o, b ≠ d → H b = some o → H' b = some o) ∧ Dice H' d
theorem Past.dice {d : Addr} {H H' : Hp} (h : Past d H H') : Dice H' d := h.2
theorem Past.trans {d : Addr} {H H1 H2 : Hp} (a : Past d H H1) (b : Past d H1 H2) : Past d H H2 := ⟨fun x o n e => b.1 x o n (a.1 x o n e), b.2⟩
theorem Past.refl {d : Addr} {H : Hp} (h : Dice H d) : Past d H H := ⟨fun _ _ _ e => e, h⟩
theorem Past.upd {d : Addr} {H : Hp} (g s c : Int) : Past d H (L2.upd H d (dz g s c)) := ⟨fun x o n e => by rw [upd_ne n]; exact e, g, s, c, upd_same⟩
theorem Past.same {d : Addr} {H H' : Hp} (hd : Dice H d) (h : Same H H') : Past d H H' := by
  obtain ⟨g, s, c, e⟩ := hd
  exact ⟨fun x o _ q => h x o q, g, s, c, h _ _ e⟩
theorem Past.new {d p : Addr} {H : Hp} {o : HO} (hd : Dice H d) (h : H p = none) : Past d H (L2.upd H p o) := Past.same hd fun b x e => by
  rw [upd_ne (ne_of_none e h)]
  exact e
/-- what is kept: anything of another kind than the dice, or at another place -/
theorem Past.keep {d b : Addr} {H H' : Hp} {o : HO} (h : Past d H H') (n : b ≠ d) (e : H b = some o) : H' b = some o := h.1 b o n e
theorem Dice.ne {H : Hp} {d p : Addr} (h : Dice H d) (n : H p = none) : p ≠ d := by
  obtain ⟨g, s, c, e⟩ := h
  exact (ne_of_none e n).symm
theorem Past.seq {K : PySem.W.Frag} {d a : Addr} {xs : List V} {H H' : Hp} (h : Past d H H') (n : a ≠ d) (s : SqL K H a xs) : SqL K H' a xs := by
  rcases s with (s | ⟨o, s⟩) | s
  · exact .inl (.inl (h.1 _ _ n s))
  · exact .inl (.inr ⟨o, h.1 _ _ n s⟩)
  · exact .inr s
/-- the law's own def, by its address -/
theorem law_def {st : Stmt} {x : Str} {K : PySem.W.Frag} {mg : Str → Option Value} {h : Heap} {f fa : Addr} {oc : Value} {od an : Option Addr} {osl : Array (Option Value)} {kV doc pm cdv ct : Value} (X : K.In h) (G : h.Ns mainGlobals mg) (hfa : mg "law" = some (.ref fa))
    (hb : ∀ (kV doc pm : Value) (an : Option Addr) (cdv ct : Value) (s : Shared) (v : Value), BindsTo s (PySem.W.fnOf "law" "law" (defArgs st) (defBody st) (defScope st) .none kV doc pm an cdv ct) ⟨[v], []⟩ [(x, v)]) (a : PySem.W.nsIn K mainGlobals "law" = some (some (.ref f)))
    (l : K.lookup f = some ⟨oc, od, .func (PySem.W.fnOf "law" "law" (defArgs st) (defBody st) (defScope st) .none kV doc pm an cdv ct), osl⟩) (c : PySem.W.codeIn K cdv "law" = true) (k : PySem.W.keepIn K (.ref f) = true) :
    ∃ fd : FuncData, (∀ (s : Shared) (v : Value), BindsTo s fd ⟨[v], []⟩ [(x, v)]) ∧ Fun K "law" "law" st fa fd := by
  cases hfa.symm.trans (PySem.W.mg_of X G a)
  exact ⟨_, hb kV doc pm an cdv ct, fun_mk (st := st) l c k⟩
end Vb
set_option Elab.async false
set_option linter.all false
set_option autoImplicit false
set_option maxRecDepth 100000
set_option maxHeartbeats 4000000
/-! Wd: texts of plain signs, the values that judges are asked of, names. -/
namespace Wd
open PySem PySem.Spec PyProof.Rows L2 Vb
/-! ### texts of plain signs -/
def Asc (z : Str) : Prop := ∀ c ∈ z.cps.toList, c < 128
/-- what the three judges are asked of -/
def Judged (H : Hp) : V → Prop
  | .int i => i.natAbs < 10 ^ 100
  | .str z => z.length ≤ 1000 ∧ Asc z
  | .non => True
  | .bl _ => True
  | .ref a => (∃ xs, H a = some (.lst xs)) ∨ (∃ xs, H a = some (.tup xs)) ∨ ∃ kvs, H a = some (.dK kvs)
  | _ => False
theorem Judged.same {H H' : Hp} (h : Same H H') : ∀ {v : V}, Judged H v → Judged H' v
  | .int _, j => j
  | .str _, j => j
  | .non, j => j
  | .bl _, j => j
  | .ref _, j => j.imp (fun ⟨xs, e⟩ => ⟨xs, h _ _ e⟩) fun j => j.imp (fun ⟨xs, e⟩ => ⟨xs, h _ _ e⟩) fun ⟨xs, e⟩ => ⟨xs, h _ _ e⟩
  | .byt _, j => j
  | .flt _, j => j
  | .ty _, j => j
theorem Past.judged {d : Addr} {H H' : Hp} (h : Past d H H') {v : V} (j : Judged H v) (n : v ≠ .ref d) : Judged H' v := by
  cases v with
  | ref a =>
    have ad : a ≠ d := fun e => n (by rw [e])
    exact j.imp (fun ⟨xs, e⟩ => ⟨xs, h.1 _ _ ad e⟩) fun j => j.imp (fun ⟨xs, e⟩ => ⟨xs, h.1 _ _ ad e⟩) fun ⟨xs, e⟩ => ⟨xs, h.1 _ _ ad e⟩
  | _ => exact j
theorem same_new {H : Hp} {p : Addr} {o : HO} (n : H p = none) : Same H (upd H p o) := fun b x e => by
  rw [upd_ne (ne_of_none e n)]
  exact e
def low (c : Nat) : Bool := 97 ≤ c && c ≤ 122
def isNam : V → Bool
  | .str z => decide (1 ≤ z.length) && decide (z.length ≤ 8) && z.cps.toList.all low
  | _ => false
def isInt : V → Bool
  | .int i => decide (i.natAbs < 10 ^ 60)
  | _ => false
def notNeg : V → Bool
  | .int i => decide (0 ≤ i)
  | _ => false
def spOf (g : V → Bool) : Sp := fun vs H Q _ => ∃ v, vs = [v] ∧ Judged H v ∧ ∀ H', Same H H' → Q (.bl (g v)) H'
/-- the kinds of judged values -/
theorem kinds {K : PySem.W.Frag} {H : Hp} {v : V} (j : Judged H v) : (∃ i, v = .int i ∧ i.natAbs < 10 ^ 100) ∨ (∃ b, v = .bl b) ∨ (∃ z, v = .str z ∧ z.length ≤ 1000 ∧ Asc z) ∨
    (∃ T, TyX K H v (.type T) ∧ kitB T "int" = some false ∧ kitB T "bool" = some false ∧ kitB T "str" = some false ∧ isInt v = false ∧ notNeg v = false ∧ isNam v = false) := by
  cases v with
  | int i => exact .inl ⟨i, rfl, j⟩
  | bl b => exact .inr (.inl ⟨b, rfl⟩)
  | str z => exact .inr (.inr (.inl ⟨z, rfl, j⟩))
  | non => exact .inr (.inr (.inr ⟨"NoneType", .base .non, by decide +kernel, by decide +kernel, by decide +kernel, rfl, rfl, rfl⟩))
  | byt _ => exact False.elim j
  | flt _ => exact False.elim j
  | ty _ => exact False.elim j
  | ref a =>
    rcases j with ⟨xs, e⟩ | ⟨xs, e⟩ | ⟨xs, e⟩
    · exact .inr (.inr (.inr ⟨"list", .base (.lst e), by decide +kernel, by decide +kernel, by decide +kernel, rfl, rfl, rfl⟩))
    · exact .inr (.inr (.inr ⟨"tuple", .base (.tup e), by decide +kernel, by decide +kernel, by decide +kernel, rfl, rfl, rfl⟩))
    · exact .inr (.inr (.inr ⟨"dict", .base (.dK e), by decide +kernel, by decide +kernel, by decide +kernel, rfl, rfl, rfl⟩))
theorem ki_ii : kitB "int" "int" = some true := by decide +kernel
theorem ki_ib : kitB "int" "bool" = some false := by decide +kernel
theorem ki_is : kitB "int" "str" = some false := by decide +kernel
theorem ki_bi : kitB "bool" "int" = some true := by decide +kernel
theorem ki_bb : kitB "bool" "bool" = some true := by decide +kernel
theorem ki_bs : kitB "bool" "str" = some false := by decide +kernel
theorem ki_si : kitB "str" "int" = some false := by decide +kernel
theorem ki_ss : kitB "str" "str" = some true := by decide +kernel
/-! ### plain signs -/
def upp (c : Nat) : Bool := 65 ≤ c && c ≤ 90
theorem cl_alpha : ∀ c, c < 128 → Unicode.isAlpha c = (upp c || low c) := by decide +kernel
theorem cl_lower : ∀ c, c < 128 → Unicode.isLower c = low c := by decide +kernel
theorem cl_upper : ∀ c, c < 128 → (Unicode.isUpper c || Unicode.isTitle c) = upp c := by decide +kernel
theorem cl_not : ∀ c, c < 128 → low c = false → upp c = true ∨ (upp c || low c) = false := by decide +kernel
theorem cl_both : ∀ c, c < 128 → low c = true → upp c = false := by decide +kernel
theorem name_signs {z : Str} (a : Asc z) (h : 1 ≤ z.length) : (Txt.isascii z && (Txt.isalpha z && Txt.islower z)) = z.cps.toList.all low := by
  have hl : z.cps.toList.length = z.length := by simp [Str.length]
  have e1 : Txt.isascii z = true := by
    unfold Txt.isascii
    rw [← Array.all_toList, List.all_eq_true]
    exact fun c hc => decide_eq_true (a c hc)
  have e2 : Txt.isalpha z = z.cps.toList.all Unicode.isAlpha := by
    unfold Txt.isalpha
    rw [decide_eq_true (show z.length > 0 by omega), Bool.true_and, ← Array.all_toList]
  have e3 : Txt.islower z = (z.cps.toList.any Unicode.isLower && !z.cps.toList.any fun c => Unicode.isUpper c || Unicode.isTitle c) := by
    unfold Txt.islower
    rw [← Array.any_toList, ← Array.any_toList]
  rw [e1, e2, e3, Bool.true_and]
  have a' : ∀ c ∈ z.cps.toList, c < 128 := a
  cases hL : z.cps.toList.all low with
  | true =>
    have hl' := List.all_eq_true.mp hL
    have k1 : z.cps.toList.all Unicode.isAlpha = true := List.all_eq_true.mpr fun c hc => by
      rw [cl_alpha c (a' c hc), hl' c hc, Bool.or_true]
    have k2 : z.cps.toList.any Unicode.isLower = true := by
      cases e : z.cps.toList with
      | nil =>
        rw [e] at hl
        simp at hl
        omega
      | cons c r =>
        have hc : c ∈ z.cps.toList := by rw [e]; exact List.mem_cons_self
        rw [List.any_cons, cl_lower c (a' c hc), hl' c hc, Bool.true_or]
    have k3 : (z.cps.toList.any fun c => Unicode.isUpper c || Unicode.isTitle c) = false := List.any_eq_false.mpr fun c hc => by
      rw [cl_upper c (a' c hc), cl_both c (a' c hc) (hl' c hc)]
      exact Bool.false_ne_true
    rw [k1, k2, k3]
    rfl
  | false =>
    obtain ⟨c, hc, hn⟩ := List.all_eq_false.mp hL
    have hn' : low c = false := by simpa using hn
    rcases cl_not c (a' c hc) hn' with u | u
    · have k3 : (z.cps.toList.any fun c => Unicode.isUpper c || Unicode.isTitle c) = true := List.any_eq_true.mpr ⟨c, hc, by rw [cl_upper c (a' c hc)]; exact u⟩
      rw [k3]
      simp
    · have k1 : z.cps.toList.all Unicode.isAlpha = false := List.all_eq_false.mpr ⟨c, hc, by rw [cl_alpha c (a' c hc), u]; exact Bool.false_ne_true⟩
      rw [k1]
      rfl
theorem isNam_str (z : Str) : isNam (.str z) = (decide (1 ≤ z.length) && decide (z.length ≤ 8) && z.cps.toList.all low) := rfl
/-- such a list as data -/
theorem dp_strs {K : PySem.W.Frag} {H : Hp} : ∀ l : List Str, DpAll K H (l.map V.str) (l.map PyData.str)
  | [] => .nil
  | y :: l => .cons (.str y) (dp_strs l)
theorem lay_strs : ∀ l : List Str, (∀ y ∈ l, Asc y) → PyData.canLayAll0 (l.map PyData.str) = true ∧ PyData.depthAll (l.map PyData.str) = 0
  | [], _ => ⟨rfl, rfl⟩
  | y :: l, h => by
    obtain ⟨h1, h2⟩ := lay_strs l fun z hz => h z (List.mem_cons_of_mem _ hz)
    constructor
    · show (PyData.canLay0 (.str y) && PyData.canLayAll0 (l.map PyData.str)) = true
      rw [h1, Bool.and_true]
      show y.cps.all (· < 0x110000) = true
      rw [← Array.all_toList, List.all_eq_true]
      exact fun c hc => decide_eq_true (Nat.lt_trans (h y List.mem_cons_self c hc) (by decide))
    · show max (PyData.depth (.str y)) (PyData.depthAll (l.map PyData.str)) = 0
      rw [h2]
      rfl
theorem shaped_strs {l : List Str} (h : ∀ y ∈ l, Asc y) : SeqAt.shaped (.list (l.map PyData.str)) = true := by
  obtain ⟨h1, h2⟩ := lay_strs l h
  show (PyData.canLay0 (.list (l.map PyData.str)) && decide (PyData.depth (.list (l.map PyData.str)) ≤ 64)) = true
  rw [show PyData.canLay0 (.list (l.map PyData.str)) = true from h1, Bool.true_and]
  exact decide_eq_true (by show PyData.depthAll _ + 1 ≤ 64; rw [h2]; decide)
theorem small8000 {n : Nat} (h : n ≤ 1000000) : ((n : Int)).natAbs < 2 ^ 8000 := by
  have : (1000000 : Nat) < 2 ^ 8000 := by decide +kernel
  omega
theorem fits_million {n : Nat} (h : n ≤ 1000000) : n ≤ sizeLine := Nat.le_trans h (by decide)
theorem asc_lit {z : Str} (h : z.cps.toList.all (· < 128) = true) : Asc z := fun c hc => of_decide_eq_true (List.all_eq_true.mp h c hc)
end Wd
set_option Elab.async false
set_option linter.all false
set_option autoImplicit false
set_option maxRecDepth 100000
set_option maxHeartbeats 4000000
namespace K11
open PySem PySem.Spec PyProof.Rows L2 Vb Wd
def topS (i : Nat) : Stmt := PySem.Challenge.pw_mendbooks_k11_whole_spots_by_trees.main.body.getD i (.Pass ⟨0, 0, 0, 0⟩)
abbrev s_is_integer : Stmt := topS 4
theorem sc_is_integer : FnScope ["value"] ["value"] (defScope s_is_integer) := ⟨rfl, rfl, rfl, by decide +kernel, rfl, by decide +kernel, by decide +kernel⟩
abbrev s_is_count : Stmt := topS 5
theorem sc_is_count : FnScope ["value"] ["value"] (defScope s_is_count) := ⟨rfl, rfl, rfl, by decide +kernel, rfl, by decide +kernel, by decide +kernel⟩
abbrev s_is_name : Stmt := topS 7
theorem sc_is_name : FnScope ["value"] ["value"] (defScope s_is_name) := ⟨rfl, rfl, rfl, by decide +kernel, rfl, by decide +kernel, by decide +kernel⟩
abbrev s_is_step : Stmt := topS 26
theorem sc_is_step : FnScope ["value"] ["value"] (defScope s_is_step) := ⟨rfl, rfl, rfl, by decide +kernel, rfl, by decide +kernel, by decide +kernel⟩
abbrev s_is_child : Stmt := topS 27
theorem sc_is_child : FnScope ["value"] ["value"] (defScope s_is_child) := ⟨rfl, rfl, rfl, by decide +kernel, rfl, by decide +kernel, by decide +kernel⟩
abbrev s_is_children : Stmt := topS 28
theorem sc_is_children : FnScope ["value", "child"] ["value"] (defScope s_is_children) := ⟨rfl, rfl, rfl, by decide +kernel, rfl, by decide +kernel, by decide +kernel⟩
abbrev s_l_dice : Stmt := topS 48
theorem sc_l_dice : FnScope ["_law_script", "_law_spot_here", "_law_cell", "_law_great", "_law_seed"] ["_law_script", "_law_spot_here"] (defScope s_l_dice) := ⟨rfl, rfl, rfl, by decide +kernel, rfl, by decide +kernel, by decide +kernel⟩
abbrev s_l_roll : Stmt := topS 49
theorem sc_l_roll : FnScope ["_law_dice_here", "_law_total", "_law_found", "_law_one", "_law_two"] ["_law_dice_here", "_law_total"] (defScope s_l_roll) := ⟨rfl, rfl, rfl, by decide +kernel, rfl, by decide +kernel, by decide +kernel⟩
abbrev s_l_pick : Stmt := topS 50
theorem sc_l_pick : FnScope ["_law_dice_here", "_law_items"] ["_law_dice_here", "_law_items"] (defScope s_l_pick) := ⟨rfl, rfl, rfl, by decide +kernel, rfl, by decide +kernel, by decide +kernel⟩
/-- dice(script, spot): new dice -/
def spDice (K : PySem.W.Frag) : Sp := fun vs H Q _ => ∃ (a : Addr) (ns : List Int) (i : Int), vs = [.ref a, .int i] ∧ SqL K H a (ns.map V.int) ∧ 0 ≤ i ∧ ∀ d g s, H d = none → Q (.ref d) (upd H d (dz g s 0))
/-- roll(dice, total): an int from 0 on and below total -/
def spRoll : Sp := fun vs H Q _ => ∃ (d : Addr) (n : Int), vs = [.ref d, .int n] ∧ Dice H d ∧ 0 < n ∧ n.natAbs < 2 ^ 8000 ∧ ∀ r H', Past d H H' → 0 ≤ r → r < n → Q (.int r) H'
section
variable {P : Program} {w : World} {K : PySem.W.Frag} {mg : Str → Option Value} {base : Heap}
theorem ok_roll (D : Df K mg "_law_roll" s_l_roll ["_law_dice_here", "_law_total"]) (z_int : mg "int" = none) : Cg P w K mg base 1 "_law_roll" spRoll := by
  refine D.ok sc_l_roll (fun vs H Q E h => ?_) (fun cdv A outer s H vs Q E f hc hr h => ?_)
  · obtain ⟨d, n, rfl, _⟩ := h
    rfl
  · obtain ⟨d, n, rfl, ⟨g, s, c, hd⟩, n0, nz, q⟩ := h
    refine ⟨_, (pss_cons (ps_if (pt_cmpR op_gt (pe_ix ix_list (pv 0) pe_int (fun _ _ => rfl)) pe_int (nomark _))
      (pss_cons (ps_set (i := 2) sc_l_roll.nd rfl (Or.inl rfl) (pe_op op_mod (pe_callTy call_int1 (by rfl) z_int (by decide +kernel) (pa_cons (pe_ix ix_list (pv 0) pe_int (fun _ _ => rfl)) pa_nil)) (pv 1)))
      (pss_cons (ps_asg (pe_op op_fdivW (pe_ix ix_list (pv 0) pe_int (fun _ _ => rfl)) (pv 1)) (pg_sub (pv 0) pe_int set_list))
      (pss_one (ps_ret (pv 2)))))
      pss_nil)
      (pss_cons (ps_asg (pe_op op_add (pe_ix ix_list (pv 0) pe_int (fun _ _ => rfl)) pe_int) (pg_sub (pv 0) pe_int set_list))
      (pss_cons (ps_set (i := 3) sc_l_roll.nd rfl (Or.inl rfl) (pe_op op_mod (pe_callTy call_int1 (by rfl) z_int (by decide +kernel) (pa_cons (pe_op op_add (pe_ix ix_list (pv 0) pe_int (fun _ _ => rfl)) (pe_op op_mul pe_int (pe_ix ix_list (pv 0) pe_int (fun _ _ => rfl)))) pa_nil)) pe_int))
      (pss_cons (ps_set (i := 4) sc_l_roll.nd rfl (Or.inl rfl) (pe_op op_add (pe_op op_mul (pe_op op_mod (pe_callTy call_int1 (by rfl) z_int (by decide +kernel) (pa_cons (pe_op op_mul (pv 3) (pv 3)) pa_nil)) pe_int) (pv 3)) (pe_op op_mul pe_int (pe_ix ix_list (pv 0) pe_int (fun _ _ => rfl)))))
      (pss_one (ps_ret (pe_op op_mod (pe_callTy call_int1 (by rfl) z_int (by decide +kernel) (pa_cons (pe_op op_fdiv (pe_op op_mod (pe_callTy call_int1 (by rfl) z_int (by decide +kernel) (pa_cons (pe_op op_add (pv 4) (pe_op op_mul pe_int (pe_ix ix_list (pv 0) pe_int (fun _ _ => rfl)))) pa_nil)) pe_int) pe_int) pa_nil)) (pv 1)))))))), ?_⟩
    have a0 : ∀ x y z : Int, atI [V.int x, V.int y, V.int z] 0 = some (V.int x) := fun _ _ _ => rfl
    have a1 : ∀ x y z : Int, atI [V.int x, V.int y, V.int z] 1 = some (V.int y) := fun _ _ _ => rfl
    have a2 : ∀ x y z : Int, atI [V.int x, V.int y, V.int z] 2 = some (V.int z) := fun _ _ _ => rfl
    have hS : SqL K H d [.int g, .int s, .int c] := .inl (.inl hd)
    refine ⟨_, rfl, d, _, 0, .int g, rfl, rfl, hS, a0 _ _ _, _, _, rfl, rfl, _, rfl, ite2 (fun _ => ?_) (fun _ => ?_)⟩
    · refine ⟨_, rfl, d, _, 0, .int g, rfl, rfl, hS, a0 _ _ _, .inl ⟨_, rfl, _, rfl, _, _, rfl, rfl, n0, ?_⟩⟩
      refine ⟨_, rfl, d, _, 0, .int g, rfl, rfl, hS, a0 _ _ _, _, rfl, _, _, rfl, rfl, wide_div n0 nz (by decide) (by decide), ?_⟩
      refine ⟨_, rfl, d, _, 0, 0, rfl, rfl, hd, rfl, ?_⟩
      refine ⟨_, rfl, ?_⟩
      exact q _ _ (Past.upd (g / n) s c) (Int.emod_nonneg _ (by omega)) (Int.emod_lt_of_pos _ n0)
    · refine ⟨_, rfl, d, _, 2, .int c, rfl, rfl, hS, a2 _ _ _, _, _, rfl, rfl, ?_⟩
      refine ⟨_, rfl, d, _, 2, 2, rfl, rfl, hd, rfl, ?_⟩
      have hT : SqL K (upd H d (dz g s (c + 1))) d [.int g, .int s, .int (c + 1)] := .inl (.inl upd_same)
      have m0 : ∀ x y : Int, 0 < y → 0 ≤ x % y ∧ x % y < y := fun x y h => ⟨Int.emod_nonneg _ (by omega), Int.emod_lt_of_pos _ h⟩
      have hone := m0 (s + 715827883 * (c + 1)) 2305843009213693951 (by decide)
      refine ⟨_, rfl, d, _, 1, .int s, rfl, rfl, hT, a1 _ _ _, _, rfl, d, _, 2, .int (c + 1), rfl, rfl, hT, a2 _ _ _, _, _, rfl, rfl, by constructor <;> decide, _, _, rfl, rfl, .inl ⟨_, rfl, _, _, rfl, rfl, (by show (0 : Int) < _; decide), ?_⟩⟩
      generalize (s + 715827883 * (c + 1)) % 2305843009213693951 = one at hone ⊢
      refine ⟨_, rfl, _, rfl, _, _, rfl, rfl, (.inl ⟨by omega, by omega⟩), .inl ⟨_, rfl, _, _, rfl, rfl, (by show (0 : Int) < _; decide), ?_⟩⟩
      have htwo := m0 (one * one) 1152921504606846869 (by decide)
      generalize one * one % 1152921504606846869 = two at htwo ⊢
      refine ⟨_, rfl, _, _, rfl, rfl, (.inl ⟨by omega, by omega⟩), _, rfl, d, _, 2, .int (c + 1), rfl, rfl, hT, a2 _ _ _, _, _, rfl, rfl, by constructor <;> decide, _, _, rfl, rfl, ?_⟩
      refine ⟨_, rfl, _, rfl, d, _, 1, .int s, rfl, rfl, hT, a1 _ _ _, _, _, rfl, rfl, by constructor <;> decide, _, _, rfl, rfl, .inl ⟨_, rfl, _, _, rfl, rfl, (by show (0 : Int) < _; decide), _, _, rfl, rfl, ⟨by decide, by decide⟩, .inl ⟨_, rfl, _, rfl, _, _, rfl, rfl, n0, ?_⟩⟩⟩
      exact q _ _ (Past.upd g s (c + 1)) (m0 _ n n0).1 (m0 _ n n0).2
theorem pow_10_58 : CPowW 10 58 := ⟨by decide, by decide +kernel⟩
theorem pow_10_580 : CPowW ((10 : Int) ^ (58 : Int).toNat) 10 := ⟨by decide, by decide +kernel⟩
theorem pos_10_580 : (0 : Int) < ((10 : Int) ^ (58 : Int).toNat) ^ (10 : Int).toNat := by decide +kernel
theorem pow_10_18 : CPowW 10 18 := ⟨by decide, by decide +kernel⟩
theorem ok_dice (D : Df K mg "_law_dice" s_l_dice ["_law_script", "_law_spot_here"]) (z_int : mg "int" = none) (z_len : mg "len" = none) (z_abs : mg "abs" = none) (z_max : mg "max" = none) : Cg P w K mg base 1 "_law_dice" (spDice K) := by
  refine D.ok sc_l_dice (fun vs H Q E h => ?_) (fun cdv A outer s H vs Q E f hc hr h => ?_)
  · obtain ⟨a, ns, i, rfl, _⟩ := h
    rfl
  · obtain ⟨a, ns, i, rfl, hS, i0, q⟩ := h
    refine ⟨_, (pss_cons (ps_set (i := 2) sc_l_dice.nd rfl (Or.inl rfl) (pe_ifExp (pt_cmpR op_lt (pv 1) (pe_callB call_len_seq (by rfl) z_len PySem.boot_len (pa_cons (pv 0) pa_nil)) (nomark _)) (pe_ix ix_list (pv 0) (pv 1) (fun _ _ => rfl)) (pe_op op_add (pe_op op_mul pe_int (pv 1)) pe_int)))
      (pss_cons (ps_set (i := 3) sc_l_dice.nd rfl (Or.inl rfl) (pe_op op_mod (pe_callTy call_int1 (by rfl) z_int (by decide +kernel) (pa_cons (pe_callB call_abs (by rfl) z_abs (by decide +kernel) (pa_cons (pv 2) pa_nil)) pa_nil)) (pe_op op_powW (pe_op op_powW pe_int pe_int) pe_int)))
      (pss_cons (ps_set (i := 4) sc_l_dice.nd rfl (Or.inl rfl) (pe_op op_add (pe_op op_add (pe_op op_add (pe_op op_mul (pe_op op_mod (pe_callTy call_int1 (by rfl) z_int (by decide +kernel) (pa_cons (pv 3) pa_nil)) pe_int) pe_int) (pe_op op_mul pe_int (pv 1))) (pe_op op_mul pe_int (pe_callTy call_int1 (by rfl) z_int (by decide +kernel) (pa_cons (pe_cmpR op_lt (pv 2) pe_int (nomark _)) pa_nil)))) pe_int))
      (pss_one (ps_ret (pe_lst (pa_cons (pe_callB (call_max2 rfl) (by rfl) z_max (by decide +kernel) (pa_cons pe_int (pa_cons (pe_op op_sub (pv 3) (pe_op op_powW pe_int pe_int)) pa_nil))) (pa_cons (pe_op op_mod (pe_callTy call_int1 (by rfl) z_int (by decide +kernel) (pa_cons (pv 4) pa_nil)) pe_int) (pa_cons pe_int pa_nil))))))))), ?_⟩
    refine ⟨_, rfl, _, rfl, a, ns.map V.int, rfl, .inl hS, _, _, rfl, rfl, _, rfl, ite2 (fun e => ?_) (fun _ => ?_)⟩
    case' refine_2.refine_1 =>
      have lt : i < ((ns.map V.int).length : Int) := of_decide_eq_true e
      have il : i.toNat < ns.length := by
        rw [List.length_map] at lt
        omega
      have at_i : atI (ns.map V.int) i = some (.int ns[i.toNat]) := by
        refine at_of (j := i.toNat) (by omega) ?_
        rw [List.getElem?_map, List.getElem?_eq_getElem il]
        rfl
      refine ⟨_, rfl, _, rfl, a, _, i, _, rfl, rfl, hS, at_i, ?_⟩
      generalize ns[i.toNat] = cell
    case' refine_2.refine_2 =>
      refine ⟨_, rfl, _, _, rfl, rfl, by constructor <;> decide, _, _, rfl, rfl, ?_⟩
      generalize 71 * i + 37 = cell
    all_goals
      refine ⟨_, rfl, _, rfl, .inl ⟨_, rfl, _, _, rfl, rfl, pow_10_58, _, _, rfl, rfl, pow_10_580, _, _, rfl, rfl, pos_10_580, ?_⟩⟩
      refine ⟨_, rfl, .inl ⟨_, rfl, _, _, rfl, rfl, (by show (0 : Int) < _; decide), _, _, rfl, rfl, .inr (by constructor <;> decide), _, rfl, _, _, rfl, rfl, by constructor <;> decide, _, _, rfl, rfl, _, rfl, _, _, rfl, rfl, .inr ⟨_, rfl, ?_⟩⟩⟩
      refine ⟨_, _, rfl, rfl, by constructor <;> decide, _, _, rfl, rfl, _, _, rfl, rfl, ?_⟩
      refine ⟨_, rfl, _, _, rfl, rfl, pow_10_18, _, _, rfl, rfl, _, _, rfl, _, rfl, .inl ⟨_, rfl, _, _, rfl, rfl, (by show (0 : Int) < _; decide), ?_⟩⟩
      exact ⟨by show 3 ≤ sizeLine; decide, fun p hp => q p _ _ hp⟩
end
theorem at_of' {α : Type} {xs : List α} {z : Int} {j : Nat} {v : α} (e : z = (j : Int)) (h : xs[j]? = some v) : atI xs z = some v := by
  rw [e]
  exact atI_nat h
/-- what pick draws from: a list, a tuple or a text that is not empty; what may come of it -/
def Some1 (K : PySem.W.Frag) (H : Hp) (d : Addr) : V → (V → Prop) → Prop := fun x p =>
  (∃ l xs, x = .ref l ∧ l ≠ d ∧ (SqL K H l xs ∨ SqT K H l xs) ∧ xs ≠ [] ∧ xs.length ≤ 1000000 ∧ ∀ v ∈ xs, p v) ∨
  (∃ z : Str, x = .str z ∧ 0 < z.length ∧ z.length ≤ 1000000 ∧ ∀ c ∈ z.cps.toList, p (.str ⟨#[c]⟩))
/-- pick(dice, items): one of them -/
def spPick (K : PySem.W.Frag) : Sp := fun vs H Q _ => ∃ (d : Addr) (x : V) (p : V → Prop), vs = [.ref d, x] ∧ Dice H d ∧ Some1 K H d x p ∧ ∀ v H', Past d H H' → p v → Q v H'
theorem tup_past {K : PySem.W.Frag} {d a : Addr} {xs : List V} {H H' : Hp} (h : Past d H H') (n : a ≠ d) (s : SqT K H a xs) : SqT K H' a xs := by
  rcases s with (s | ⟨o, s⟩) | s
  · exact .inl (.inl (h.1 _ _ n s))
  · exact .inl (.inr ⟨o, h.1 _ _ n s⟩)
  · exact .inr s
section
variable {P : Program} {w : World} {K : PySem.W.Frag} {mg : Str → Option Value} {base : Heap}
theorem ok_pick (D : Df K mg "_law_pick" s_l_pick ["_law_dice_here", "_law_items"]) (G_l_roll : Cg P w K mg base 1 "_law_roll" spRoll) (z_len : mg "len" = none) : Cg P w K mg base 2 "_law_pick" (spPick K) := by
  refine D.ok sc_l_pick (fun vs H Q E h => ?_) (fun cdv A outer s H vs Q E f hc hr h => ?_)
  · obtain ⟨d, x, p, rfl, _⟩ := h
    rfl
  · obtain ⟨d, x, p, rfl, hd, hx, q⟩ := h
    refine ⟨_, (pss_one (ps_ret (pe_ix ix_seq (pv 1) (pe_cg G_l_roll hc hr (by rfl) (pa_cons (pv 0) (pa_cons (pe_callB call_len (by rfl) z_len (by decide +kernel) (pa_cons (pv 1) pa_nil)) pa_nil))) (fun _ _ => rfl)))), ?_⟩
    rcases hx with ⟨l, xs, rfl, ld, hs, ne, hl, hp⟩ | ⟨z, rfl, z0, hl, hp⟩
    · have x0 : 0 < xs.length := List.length_pos_iff.mpr ne
      refine ⟨_, rfl, _, rfl, _, rfl, _, xs.length, rfl, ?_, d, _, rfl, hd, by omega, small8000 hl, fun r H' pa r0 rn => ?_⟩
      · exact hs.elim (fun h => .inl ⟨_, h, rfl⟩) (fun h => .inr ⟨_, h, rfl⟩)
      · have rl : r.toNat < xs.length := by omega
        have at_r : atI xs r = some xs[r.toNat] := at_of (j := r.toNat) (by omega) (List.getElem?_eq_getElem rl)
        rcases hs with hs | hs
        · exact .inl ⟨l, xs, r, _, rfl, rfl, pa.seq ld hs, at_r, q _ _ pa (hp _ (List.getElem_mem rl))⟩
        · exact .inr (.inl ⟨l, xs, r, _, rfl, rfl, tup_past pa ld hs, at_r, q _ _ pa (hp _ (List.getElem_mem rl))⟩)
    · refine ⟨_, rfl, _, rfl, _, rfl, _, z.length, rfl, ⟨fits_million hl, rfl⟩, d, _, rfl, hd, by omega, small8000 hl, fun r H' pa r0 rn => ?_⟩
      have el : z.cps.toList.length = z.length := by simp [Str.length]
      have rl : r.toNat < z.cps.toList.length := by omega
      exact .inr (.inr ⟨z, r, _, rfl, rfl, fits_million hl, at_of' (j := r.toNat) (by omega) (List.getElem?_eq_getElem rl), q _ _ pa (hp _ (List.getElem_mem rl))⟩)
theorem ok_is_integer {t : Tok} (D : Df K mg "is_integer" s_is_integer ["value"]) (z_isinstance : mg "isinstance" = none) (z_int : mg "int" = none) (z_bool : mg "bool" = none) (z_abs : mg "abs" = none) (c_TOO_LONG : mg "_TOO_LONG" = some (.int (10 ^ 60) t)) :
    Cg P w K mg base 1 "is_integer" (spOf isInt) := by
  refine D.ok sc_is_integer (fun vs H Q E h => ?_) (fun cdv A outer s H vs Q E f hc hr h => ?_)
  · obtain ⟨v, rfl, _⟩ := h
    rfl
  · obtain ⟨v, rfl, j, q⟩ := h
    refine ⟨_, (pss_one (ps_ret (pe_and (pe_callB call_isi (by rfl) z_isinstance (by decide +kernel) (pa_cons (pv 0) (pa_cons (pe_bltn (v := .ty "int") (by rfl) z_int (by decide +kernel) rfl) pa_nil))) (pe_and (pe_not (pe_callB call_isi (by rfl) z_isinstance (by decide +kernel) (pa_cons (pv 0) (pa_cons (pe_bltn (v := .ty "bool") (by rfl) z_bool (by decide +kernel) rfl) pa_nil)))) (pe_one (pe_cmpR op_lt (pe_callB call_abs (by rfl) z_abs (by decide +kernel) (pa_cons (pv 0) pa_nil)) (pe_glob (v := .int (10 ^ 60)) rfl c_TOO_LONG ⟨_, rfl⟩) (nomark _))))))), ?_⟩
    have q' := q H (Same.refl H)
    rcases kinds (K := K) j with ⟨i, rfl, hi⟩ | ⟨b, rfl⟩ | ⟨z, rfl, hz⟩ | ⟨T, ty, k1, k2, k3, e1, e2, e3⟩
    · refine ⟨_, rfl, _, _, _, _, true, rfl, .ty _, .base (.int i), kit_ty ki_ii, _, rfl, iteT ?_⟩
      refine ⟨_, rfl, _, _, _, _, false, rfl, .ty _, .base (.int i), kit_ty ki_ib, _, rfl, _, rfl, iteT ?_⟩
      refine ⟨_, rfl, _, rfl, _, _, rfl, rfl, ?_⟩
      have e : decide ((if i < 0 then -i else i) < 10 ^ 60) = decide (i.natAbs < 10 ^ 60) := by
        apply decide_eq_decide.mpr
        split <;> omega
      show Q (V.bl (decide ((if i < 0 then -i else i) < 10 ^ 60))) H
      rw [e]
      exact q'
    · exact ⟨_, rfl, _, _, _, _, true, rfl, .ty _, .base (.bl b), kit_ty ki_bi, _, rfl, iteT ⟨_, rfl, _, _, _, _, true, rfl, .ty _, .base (.bl b), kit_ty ki_bb, _, rfl, _, rfl, iteF q'⟩⟩
    · exact ⟨_, rfl, _, _, _, _, false, rfl, .ty _, .base (.str z), kit_ty ki_si, _, rfl, iteF q'⟩
    · rw [e1] at q'
      exact ⟨_, rfl, _, _, _, _, false, rfl, .ty _, ty, kit_ty k1, _, rfl, iteF q'⟩
theorem ok_is_count (D : Df K mg "is_count" s_is_count ["value"]) (G_is_integer : Cg P w K mg base 1 "is_integer" (spOf isInt)) : Cg P w K mg base 2 "is_count" (spOf fun v => isInt v && notNeg v) := by
  refine D.ok sc_is_count (fun vs H Q E h => ?_) (fun cdv A outer s H vs Q E f hc hr h => ?_)
  · obtain ⟨v, rfl, _⟩ := h
    rfl
  · obtain ⟨v, rfl, j, q⟩ := h
    refine ⟨_, (pss_one (ps_ret (pe_and (pe_cg G_is_integer hc hr (by rfl) (pa_cons (pv 0) pa_nil)) (pe_one (pe_cmpR op_ge (pv 0) pe_int (nomark _)))))), ?_⟩
    refine ⟨_, rfl, v, rfl, j, fun H1 s1 => ⟨_, rfl, ?_⟩⟩
    have q' : Q (V.bl (isInt v && notNeg v)) H1 := q H1 s1
    cases e : isInt v with
    | false =>
      rw [e, Bool.false_and] at q'
      exact iteF q'
    | true =>
      cases v with
      | int i =>
        rw [e, Bool.true_and] at q'
        exact iteT ⟨_, rfl, _, _, rfl, rfl, q'⟩
      | _ => cases e
theorem ok_is_name {t : Tok} (D : Df K mg "is_name" s_is_name ["value"]) (z_isinstance : mg "isinstance" = none) (z_str : mg "str" = none) (z_len : mg "len" = none) (c_MAX_LETTERS : mg "MAX_LETTERS" = some (.int 8 t)) :
    Cg P w K mg base 1 "is_name" (spOf isNam) := by
  refine D.ok sc_is_name (fun vs H Q E h => ?_) (fun cdv A outer s H vs Q E f hc hr h => ?_)
  · obtain ⟨v, rfl, _⟩ := h
    rfl
  · obtain ⟨v, rfl, j, q⟩ := h
    refine ⟨_, (pss_cons (ps_if (PW.pt (pw_or (pt_not (pt_val (pe_callB call_isi (by rfl) z_isinstance (by decide +kernel) (pa_cons (pv 0) (pa_cons (pe_bltn (v := .ty "str") (by rfl) z_str (by decide +kernel) rfl) pa_nil))))) (pw_or1 (pt_not (pt_chain op_le op_le pe_int (pe_callB call_len (by rfl) z_len (by decide +kernel) (pa_cons (pv 0) pa_nil)) (pe_glob (v := .int 8) rfl c_MAX_LETTERS ⟨_, rfl⟩))))))
      (pss_one (ps_ret pe_bl))
      pss_nil)
      (pss_one (ps_ret (pe_and (pe_bm0 PySem.F.plainAttrs_str PySem.F.slot_str_isascii PySem.F.type_str_isascii mt_isascii (pv 0)) (pe_and (pe_bm0 PySem.F.plainAttrs_str PySem.F.slot_str_isalpha PySem.F.type_str_isalpha mt_isalpha (pv 0)) (pe_one (pe_bm0 PySem.F.plainAttrs_str PySem.F.slot_str_islower PySem.F.type_str_islower mt_islower (pv 0)))))))), ?_⟩
    have q' := q H (Same.refl H)
    rcases kinds (K := K) j with ⟨i, rfl, hi⟩ | ⟨b, rfl⟩ | ⟨z, rfl, hz, az⟩ | ⟨T, ty, k1, k2, k3, e1, e2, e3⟩
    · exact ⟨_, rfl, _, _, _, _, false, rfl, .ty _, .base (.int i), kit_ty ki_is, _, rfl, iteT q'⟩
    · exact ⟨_, rfl, _, _, _, _, false, rfl, .ty _, .base (.bl b), kit_ty ki_bs, _, rfl, iteT q'⟩
    · rw [isNam_str] at q'
      refine ⟨_, rfl, _, _, _, _, true, rfl, .ty _, .base (.str z), kit_ty ki_ss, _, rfl, iteF ⟨_, rfl, _, z.length, rfl, ⟨fits_million (by omega), rfl⟩, _, _, rfl, rfl, _, rfl, ?_⟩⟩
      by_cases h1 : 1 ≤ z.length
      · rw [decide_eq_true h1, Bool.true_and] at q'
        refine ite2 (fun _ => ⟨_, _, rfl, rfl, _, rfl, ?_⟩) (fun n => absurd (decide_eq_true (by omega)) n)
        by_cases h8 : z.length ≤ 8
        · rw [decide_eq_true h8, Bool.true_and, ← name_signs az h1] at q'
          refine ite2 (fun n => ?_) (fun _ => ?_)
          · rw [decide_eq_true (by omega)] at n
            cases n
          · refine ⟨_, rfl, rfl, z, rfl, rfl, trivial, _, rfl, ?_⟩
            cases ea : Txt.isascii z with
            | false =>
              rw [ea, Bool.false_and] at q'
              exact iteF q'
            | true =>
              refine iteT ⟨_, rfl, rfl, z, rfl, rfl, trivial, _, rfl, ?_⟩
              rw [ea, Bool.true_and] at q'
              cases eb : Txt.isalpha z with
              | false =>
                rw [eb, Bool.false_and] at q'
                exact iteF q'
              | true =>
                rw [eb, Bool.true_and] at q'
                exact iteT ⟨_, rfl, rfl, z, rfl, rfl, trivial, q'⟩
        · rw [decide_eq_false h8, Bool.false_and] at q'
          refine ite2 (fun _ => q') (fun n => ?_)
          rw [decide_eq_false (by omega)] at n
          exact absurd rfl n
      · rw [decide_eq_false h1, Bool.false_and, Bool.false_and] at q'
        refine ite2 (fun n => ?_) (fun _ => ⟨_, rfl, iteT q'⟩)
        have := of_decide_eq_true n
        omega
    · rw [e3] at q'
      exact ⟨_, rfl, _, _, _, _, false, rfl, .ty _, ty, kit_ty k3, _, rfl, iteT q'⟩
end
end K11
set_option Elab.async false
set_option linter.all false
set_option autoImplicit false
set_option maxRecDepth 100000
set_option maxHeartbeats 4000000
namespace K11
open PySem PySem.Spec PyProof.Rows L2 Vb Wd
theorem same_put {H H' : Hp} {D : Addr} {o : HO} (nD : H D = none) (s : Same H H') : Same H (upd H' D o) := fun b x e => by
  rw [upd_ne (ne_of_none e nD)]
  exact s b x e
/-- a child: a name and a step -/
structure Kid (H : Hp) (t : Addr) (n : Str) (s : Int) : Prop where
  at_ : H t = some (.tup [.str n, .int s])
  nam : isNam (.str n) = true
  plain : n.length ≤ 1000 ∧ Asc n
  lo : 0 ≤ s
  hi : s ≤ 3
theorem Kid.same {H H' : Hp} {t : Addr} {n : Str} {s : Int} (k : Kid H t n s) (h : Same H H') : Kid H' t n s := ⟨h _ _ k.at_, k.nam, k.plain, k.lo, k.hi⟩
/-- children: a tuple of two to four -/
structure Kids (H : Hp) (a : Addr) (ts : List Addr) (cs : List (Str × Int)) : Prop where
  at_ : H a = some (.tup (ts.map V.ref))
  len : ts.length = cs.length
  lo : 2 ≤ ts.length
  hi : ts.length ≤ 4
  kid : ∀ (i : Nat) (t : Addr) (c : Str × Int), ts[i]? = some t → cs[i]? = some c → Kid H t c.1 c.2
theorem Kids.same {H H' : Hp} {a : Addr} {ts : List Addr} {cs : List (Str × Int)} (k : Kids H a ts cs) (h : Same H H') : Kids H' a ts cs := ⟨h _ _ k.at_, k.len, k.lo, k.hi, fun i t c h1 h2 => (k.kid i t c h1 h2).same h⟩
def spStep : Sp := fun vs H Q _ => ∃ s : Int, vs = [.int s] ∧ 0 ≤ s ∧ s ≤ 3 ∧ ∀ H', Same H H' → Q (.bl true) H'
def spChild : Sp := fun vs H Q _ => ∃ t n s, vs = [.ref t] ∧ Kid H t n s ∧ ∀ H', Same H H' → Q (.bl true) H'
def spChildren : Sp := fun vs H Q _ => ∃ a ts cs, vs = [.ref a] ∧ Kids H a ts cs ∧ ∀ H', Same H H' → Q (.bl true) H'
section
variable {P : Program} {w : World} {K : PySem.W.Frag} {mg : Str → Option Value} {base : Heap}
theorem ok_is_step {t : Tok} (D : Df K mg "_is_step" s_is_step ["value"]) (G_is_count : Cg P w K mg base 2 "is_count" (spOf fun v => isInt v && notNeg v)) (c_MAX_STEP : mg "MAX_STEP" = some (.int 3 t)) : Cg P w K mg base 3 "_is_step" spStep := by
  refine D.ok sc_is_step (fun vs H Q E h => ?_) (fun cdv A outer s H vs Q E f hc hr h => ?_)
  · obtain ⟨s, rfl, _⟩ := h
    rfl
  · obtain ⟨n, rfl, lo, hi, q⟩ := h
    refine ⟨_, (pss_one (ps_ret (pe_and (pe_cg G_is_count hc hr (by rfl) (pa_cons (pv 0) pa_nil)) (pe_one (pe_cmpR op_le (pv 0) (pe_glob (v := .int 3) rfl c_MAX_STEP ⟨_, rfl⟩) (nomark _)))))), ?_⟩
    refine ⟨_, rfl, .int n, rfl, (by show n.natAbs < 10 ^ 100; exact Nat.lt_of_le_of_lt (show n.natAbs ≤ 3 by omega) (by decide)), fun H1 s1 => ⟨_, rfl, ?_⟩⟩
    have e : (isInt (.int n) && notNeg (.int n)) = true := by
      have e1 : isInt (.int n) = true := decide_eq_true (Nat.lt_of_le_of_lt (show n.natAbs ≤ 3 by omega) (by decide))
      have e2 : notNeg (.int n) = true := decide_eq_true lo
      rw [e1, e2]
      rfl
    show if (isInt (.int n) && notNeg (.int n)) = true then _ else _
    rw [if_pos e]
    refine ⟨_, rfl, _, _, rfl, rfl, ?_⟩
    show Q (.bl (decide (n ≤ 3))) H1
    rw [decide_eq_true hi]
    exact q H1 s1
theorem ok_is_child (D : Df K mg "_is_child" s_is_child ["value"]) (G_is_name : Cg P w K mg base 1 "is_name" (spOf isNam)) (G_is_step : Cg P w K mg base 3 "_is_step" spStep) (z_isinstance : mg "isinstance" = none) (z_tuple : mg "tuple" = none) (z_len : mg "len" = none) : Cg P w K mg base 4 "_is_child" spChild := by
  refine D.ok sc_is_child (fun vs H Q E h => ?_) (fun cdv A outer s H vs Q E f hc hr h => ?_)
  · obtain ⟨t, n, s, rfl, _⟩ := h
    rfl
  · obtain ⟨t, n, i, rfl, k, q⟩ := h
    refine ⟨_, (pss_one (ps_ret (pe_and (pe_callB call_isi (by rfl) z_isinstance (by decide +kernel) (pa_cons (pv 0) (pa_cons (pe_bltn (v := .ty "tuple") (by rfl) z_tuple (by decide +kernel) rfl) pa_nil))) (pe_and (pe_cmpR op_eq (pe_callB call_len_seq (by rfl) z_len PySem.boot_len (pa_cons (pv 0) pa_nil)) pe_int (nomark _)) (pe_and (pe_cg G_is_name hc hr (by rfl) (pa_cons (pe_ix (ix_tup : IxR _ (rIxT K)) (pv 0) pe_int (fun _ _ => rfl)) pa_nil)) (pe_one (pe_cg G_is_step hc hr (by rfl) (pa_cons (pe_ix (ix_tup : IxR _ (rIxT K)) (pv 0) pe_int (fun _ _ => rfl)) pa_nil)))))))), ?_⟩
    refine ⟨_, rfl, _, _, _, _, true, rfl, .ty _, .base (.tup k.at_), kit_ty (by decide +kernel), _, rfl, iteT ⟨_, rfl, t, _, rfl, .inr (.inl (.inl k.at_)), rfl, _, rfl, iteT ⟨_, rfl, t, _, _, _, rfl, rfl, .inl (.inl k.at_), rfl, .str n, rfl, k.plain, fun H1 s1 => ⟨_, rfl, ?_⟩⟩⟩⟩
    rw [k.nam]
    refine iteT ⟨_, rfl, t, _, _, _, rfl, rfl, .inl (.inl (s1 _ _ k.at_)), rfl, i, rfl, k.lo, k.hi, fun H2 s2 => q H2 (s1.trans s2)⟩
theorem ok_is_children {tk : Tok} (D : Df K mg "_is_children" s_is_children ["value"]) (G_is_child : Cg P w K mg base 4 "_is_child" spChild) (z_isinstance : mg "isinstance" = none) (z_tuple : mg "tuple" = none) (z_len : mg "len" = none) (z_all : mg "all" = none) (c_MAX_CHILDREN : mg "MAX_CHILDREN" = some (.int 4 tk)) : Cg P w K mg base 5 "_is_children" spChildren := by
  refine D.ok sc_is_children (fun vs H Q E h => ?_) (fun cdv A outer s H vs Q E f hc hr h => ?_)
  · obtain ⟨a, ts, cs, rfl, _⟩ := h
    rfl
  · obtain ⟨a, ts, cs, rfl, k, q⟩ := h
    refine ⟨_, (pss_cons (ps_if (PW.pt (pw_or (pt_not (pt_val (pe_callB call_isi (by rfl) z_isinstance (by decide +kernel) (pa_cons (pv 0) (pa_cons (pe_bltn (v := .ty "tuple") (by rfl) z_tuple (by decide +kernel) rfl) pa_nil))))) (pw_or1 (pt_not (pt_chain op_le op_le pe_int (pe_callB call_len_seq (by rfl) z_len PySem.boot_len (pa_cons (pv 0) pa_nil)) (pe_glob (v := .int 4) rfl c_MAX_CHILDREN ⟨_, rfl⟩))))))
      (pss_one (ps_ret pe_bl))
      pss_nil)
      (pss_one (ps_ret (pe_callB (cr_all rfl) (by rfl) z_all (by decide +kernel) (pa_cons (pe_lc (own := [("child", 1)]) (g := gName 1) (by rfl) sc_is_children.nd (pi_tup (pv 0)) (blkOk_by (own := [("child", 1)]) (N := ["value", "child"]) (sc := defScope s_is_children) (by decide +kernel)) (fun _ _ _ _ _ => pg_name (i := 1) sc_is_children.nd rfl (Or.inl rfl)) (fun _ _ _ _ _ => pts_nil) (fun _ _ _ _ _ => (pe_cg G_is_child hc hr (by rfl) (pa_cons (pv 1) pa_nil)))) pa_nil))))), ?_⟩
    have hT : ∀ {H' : Hp}, Same H H' → SqT K H' a (ts.map V.ref) := fun s => .inl (.inl (s _ _ k.at_))
    have tl := k.len
    refine ⟨_, rfl, _, _, _, _, true, rfl, .ty _, .base (.tup k.at_), kit_ty (by decide +kernel), _, rfl, iteF ⟨_, rfl, a, _, rfl, .inr (hT (Same.refl H)), ?_⟩⟩
    have len : (ts.map V.ref).length = ts.length := List.length_map ..
    have l2 := k.lo
    have l4 := k.hi
    refine ⟨_, _, rfl, rfl, _, rfl, ite2 (fun _ => ⟨_, _, rfl, rfl, _, rfl, ite2 (fun n => ?_) (fun _ => ?_)⟩) (fun n => absurd (decide_eq_true (show (2 : Int) ≤ ((ts.map V.ref).length : Int) by rw [len]; omega)) n)⟩
    · have e : decide (((ts.map V.ref).length : Int) ≤ 4) = true := decide_eq_true (by rw [len]; omega)
      rw [e] at n
      cases n
    refine ⟨_, rfl, a, rfl, ⟨_, hT (Same.refl H)⟩, fun D nD => lc_tup (K := K) (a := a) (xs := ts.map V.ref) (fun i H' => Same H H' ∧ H' D = some (.lst ((List.replicate i true).map V.bl))) ⟨same_put nD (Same.refl H), upd_same⟩ (fun i H' _ h => hT h.1) (fun i x H1 hx h => ?_) (fun H1 h => ?_)⟩
    · obtain ⟨s1, e1⟩ := h
      rw [List.getElem?_map] at hx
      obtain ⟨t, ht, rfl⟩ := Option.map_eq_some_iff.mp hx
      have il : i < cs.length := by rw [← tl]; exact (List.getElem?_eq_some_iff.mp ht).1
      refine ⟨rfl, _, rfl, t, _, _, rfl, (k.kid i t cs[i] ht (List.getElem?_eq_getElem il)).same s1, fun H2 s2 => ⟨_, s2 _ _ e1, ?_, same_put nD (s1.trans s2), ?_⟩⟩
      · rw [List.length_map, List.length_replicate]
        exact Nat.lt_of_lt_of_le (show i < 5 by omega) (by decide)
      · rw [upd_same, List.replicate_succ', List.map_append]
        rfl
    · obtain ⟨s1, e1⟩ := h
      refine ⟨D, _, rfl, .inl (.inl e1), ?_⟩
      have ea : (List.replicate (ts.map V.ref).length true).all id = true := by
        rw [List.all_eq_true]
        intro b hb
        rw [(List.mem_replicate.mp hb).2]
        rfl
      rw [ea]
      exact q H1 s1
end
end K11
set_option Elab.async false
set_option linter.all false
set_option autoImplicit false
set_option maxRecDepth 100000
set_option maxHeartbeats 4000000
/-! Xk: own errors with an __init__ of their own over any built-in error, KeyError too: KeyError has no __new__ of its own, so what makes is named after its base. -/
namespace Xk
open PySem PySem.F PySem.PX Builtin Builtin.ObjectAttr
abbrev keTail : List Value := [.type "KeyError", .type "LookupError", .type "Exception", .type "BaseException", .type "object"]
theorem storeKE : StoreFacts "KeyError" keTail "object.__setattr__" "object" := by
  constructor
  case mro => kernel_rfl
  case slot =>
    refine .of (owner := "object") (n := "__setattr__") ?_ ?_ ?_ ?_ ?_ ?_
    · rw [typeLookup_type, builtinLookup_eq_fast]; kernel_rfl
    · decide +kernel
    · decide +kernel
    · decide +kernel
    · first
      | exact .inl (by decide +kernel)
      | exact .inr (by decide +kernel)
    · rw [isSubtype_type]; kernel_rfl
  case entry => exact entry_object_sa
  case kind => decide +kernel
  case split => decide +kernel
  case hasOwner => decide +kernel
  case args => intro a b c; unfold argsOk; kernel_rfl
  case passes => intro self; kernel_rfl
/-- what of the mro the making asks -/
structure Over (bm : List Value) (B : String) : Prop where
  base : bm.contains (.type B) = true
  attr : bm.contains (.type "AttributeError") = false
  name : bm.contains (.type "NameError") = false
section
variable {prog : Program} {w : World} {A : Around} {E : Value → Shared → Prop} {R : Result → Shared → Prop} {h : Heap} {g : Array GenState} {d : Drawn} {t : Nat} {os : OsState}
variable {nm q : Str} {C N : Addr} {bs bm bmB : List Value} {hdct : Bool} {sn : List Str} {sub : List Value} {ab : Bool} {col : Option Bool} {dd : Option Addr} {k0 k1 k2 k3 k5 : Option Value} {B newId initId : String}
theorem asks_new {M : Model} (F : ExcBaseFacts B newId initId bmB) (O : Over bm B) {us : List Value} {Q : Unit → Shared → Prop}
    (at_C : h.get? C = some (excClassObj nm q C N bs bm hdct sn sub ab col dd k0 k1 k2 k3 k5 newId)) (k : Q () ⟨h, g, d, t, os⟩) : wpAny M A (checkBuiltinCall newId ⟨.ref C :: us, []⟩) Q E ⟨h, g, d, t, os⟩ := by
  have inB : (Value.ref C :: bm).contains (.type B) = true := by rw [List.contains_cons, O.base, Bool.or_true]
  have st := F.noStar
  simp only [checkBuiltinCall, F.newKind, F.newSplit, F.newRow]
  repeat
    first
    | refine wpAny_loadPart_at at_C ?_
    | refine wpAny_isSubtype_exc at_C ?_; rw [inB]
    | refine wpAny_staticBase_exc at_C ?_
    | refine wpAny_madeBy_exc at_C ?_
    | simp only [bne_self_eq_false, Bool.false_eq_true, if_false]
    | wp_step
  exact k
theorem makes_new (F : ExcBaseFacts B newId initId bmB) (O : Over bm B) {us : List Value} (at_C : h.get? C = some (excClassObj nm q C N bs bm hdct sn sub ab col dd k0 k1 k2 k3 k5 newId)) (few : us.length ≤ sizeLine)
    (k : R (.ok (.ret (.ref (h.objs.size + 1)))) ⟨(h.push (W.kdv_tup us)).push (excO C h.objs.size), g, d, t, os⟩) : codeAny (model prog w) A (.builtin newId ⟨.ref C :: us, []⟩) R ⟨h, g, d, t, os⟩ := by
  have ends := F.ends
  have inB : (Value.ref C :: bm).contains (.type B) = true := by rw [List.contains_cons, O.base, Bool.or_true]
  have inA : (Value.ref C :: bm).contains (.type "AttributeError") = false := by rw [List.contains_cons, O.attr]; rfl
  have inN : (Value.ref C :: bm).contains (.type "NameError") = false := by rw [List.contains_cons, O.name]; rfl
  refine codeAny_builtinAt F.entry ?_
  unfold Builtin.«BaseException.__new__»
  refine wpAt_bind ?_
  show wpAt _ _ _ (stack >>= _) _ _ _
  refine wpAt_bind (wpAt_stack fun p below => wpAt_of_wpAny ?_)
  wp_walk
  refine wpAt_of_wpAny ?_
  rw [F.owner]
  repeat
    first
    | with_reducible refine wpAny_madeHere_exc F.canon at_C ?_
    | with_reducible refine wpAny_loadPart_at at_C ?_
    | (with_reducible refine wpAny_isSubtype_exc at_C ?_; first | rw [inB] | rw [inA] | rw [inN])
    | wp_step
  show R _ _
  rw [Heap.size_push]
  exact k
theorem type_makes (F : ExcBaseFacts B newId initId bmB) (O : Over bm B) {us : List Value} {fI : Addr} {Q : Fin → Shared → Prop} (at_C : h.get? C = some (excClassObj nm q C N bs bm hdct sn sub ab col dd k0 k1 k2 k3 k5 newId))
    (ini : W.Looks (model prog w) h (typeLookup (.ref C) "__init__") (some (.ref fI))) (bnd : ∀ x, W.Looks (model prog w) h (bindSpecial (.ref fI) x) (.ref fI, [x])) (few : us.length ≤ sizeLine)
    (k : codeAny (model prog w) A (.call (.ref fI) ⟨.ref (h.objs.size + 1) :: us, []⟩)
      (fun r s' => match r with
        | .ok (.ret v) => v = .none ∧ Q (.done (.ret (.ref (h.objs.size + 1)))) s'
        | .ok _ => False
        | .error e => E e s')
      ⟨(h.push (W.kdv_tup us)).push (excO C h.objs.size), g, d, t, os⟩) : wpAny (model prog w) A (Builtin.«type.__call__» ⟨.ref C :: us, []⟩) Q E ⟨h, g, d, t, os⟩ := by
  repeat
    first
    | with_reducible refine wpAny_loadPart_at at_C ?_
    | with_reducible refine wpAny_madeBy_exc at_C ?_
    | wp_step
  refine codeAny_call_builtin_code (Code.quiet_builtin _ F.quiet) (asks_new F O at_C ?_)
  refine makes_new F O at_C few ?_
  show wpAny _ _ _ _ _ _
  have keeps : ∀ b o, h.get? b = some o → ((h.push (W.kdv_tup us)).push (excO C h.objs.size)).get? b = some o := fun b o e =>
    Heap.get?_push_of_some _ (Heap.get?_push_of_some _ e)
  have at_C' := keeps _ _ at_C
  have at_x : ((h.push (W.kdv_tup us)).push (excO C h.objs.size)).get? (h.objs.size + 1) = some (excO C h.objs.size) := by heap_get
  have inC : (Value.ref C :: bm).contains (.ref C) = true := by simp
  have ini' := ini.keeps keeps
  have bnd' := (bnd (.ref (h.objs.size + 1))).keeps keeps
  unfold isInstance
  repeat
    first
    | with_reducible refine wpAny_loadPart_at at_x ?_
    | (with_reducible refine wpAny_isSubtype_exc at_C' ?_; rw [inC])
    | wp_step
  show wpAny _ _ (typeLookup (.ref C) _) _ _ _
  refine ini'.at (wpAny_holding (wpAny_bind (bnd'.at (wpAny_bind (wpAny_call (codeAny_mono k fun r s' z => ?_))))))
  rcases r with e | fl
  · exact z
  · cases fl
    case ret v =>
      obtain ⟨rfl, y⟩ := z
      first
      | exact wpAny_pure (wpAny_pure y)
      | (wp_walk; exact y)
    all_goals exact z.elim
theorem calls_own (F : ExcBaseFacts B newId initId bmB) (O : Over bm B) {us : List Value} {fI : Addr} (at_C : h.get? C = some (excClassObj nm q C N bs bm hdct sn sub ab col dd k0 k1 k2 k3 k5 newId))
    (ini : W.Looks (model prog w) h (typeLookup (.ref C) "__init__") (some (.ref fI))) (bnd : ∀ x, W.Looks (model prog w) h (bindSpecial (.ref fI) x) (.ref fI, [x])) (few : us.length ≤ sizeLine)
    (k : codeAny (model prog w) (A.under (.builtin "type.__call__" ⟨.ref C :: us, []⟩)) (.call (.ref fI) ⟨.ref (h.objs.size + 1) :: us, []⟩) (W.InitBack (h.objs.size + 1) R) ⟨(h.push (W.kdv_tup us)).push (excO C h.objs.size), g, d, t, os⟩) :
    codeAny (model prog w) A (.call (.ref C) ⟨us, []⟩) R ⟨h, g, d, t, os⟩ := by
  have l1 := tc_lookup
  have l2 := tc_bind (.ref C)
  have ty : (⟨h, g, d, t, os⟩ : Shared).TypeIs (.ref C) "type" := ⟨_, at_C, rfl⟩
  refine codeAny_of_tree ?_
  show wpAny _ _ (callAny (.ref C) _) _ _ _
  repeat
    any_goals
      first
      | assumption
      | with_reducible refine wpAny_loadPart_at at_C ?_
      | wp_step
  refine ⟨rfl, ?_⟩
  refine codeAny_call_builtin_at (Code.quiet_builtin _ (by decide +kernel)) entry_typeCall (wpAny_check_type_call_sub at_C (type_makes F O at_C ini bnd few ?_))
  refine codeAny_mono k fun r s' z => ?_
  rcases r with e | (v | _ | _ | _) <;> exact z
end
end Xk
set_option Elab.async false
set_option linter.all false
set_option autoImplicit false
set_option maxRecDepth 100000
set_option maxHeartbeats 4000000
/-! Xe: own errors as values: made, with an __init__ of their own or without, asked by isinstance, their fields read. -/
namespace Xe
open PySem PySem.Spec PyProof.Rows L2 Vb Wd
/-- what an own error class tells of its instances -/
structure EC (K : PySem.W.Frag) (C : Addr) : Prop where
  ga : PySem.W.findIn K (.ref C) "__getattribute__" = some (some (.builtin "BaseException.__getattribute__"))
  gt : PySem.W.findIn K (.ref C) "__getattr__" = some none
  sub : PySem.W.subIn K (.ref C) (.type "BaseException") = some true
  ca : PySem.W.findIn K (.ref C) "__class__" = some (some (.builtin "object.__class__"))
  sp : PySem.W.specialIn K (.builtin "object.__class__") "__get__" = some (some (.builtin "getset_descriptor.__get__"))
  tk : PySem.W.takesIn K (.builtin "object.__class__") = some true
  mo : PySem.W.mroIn K C (.type "object") = some true
  hd : PySem.W.hasDictIn K C = true
/-- the same as one question to the written part -/
def ecB (K : PySem.W.Frag) (C : Addr) : Bool :=
  decide (PySem.W.findIn K (.ref C) "__getattribute__" = some (some (.builtin "BaseException.__getattribute__"))) &&
  (decide (PySem.W.findIn K (.ref C) "__getattr__" = some none) &&
  (decide (PySem.W.subIn K (.ref C) (.type "BaseException") = some true) &&
  (decide (PySem.W.findIn K (.ref C) "__class__" = some (some (.builtin "object.__class__"))) &&
  (decide (PySem.W.specialIn K (.builtin "object.__class__") "__get__" = some (some (.builtin "getset_descriptor.__get__"))) &&
  (decide (PySem.W.takesIn K (.builtin "object.__class__") = some true) &&
  (decide (PySem.W.mroIn K C (.type "object") = some true) && PySem.W.hasDictIn K C))))))
theorem ec_of {K : PySem.W.Frag} {C : Addr} (h : ecB K C = true) : EC K C := by
  unfold ecB at h
  simp only [Bool.and_eq_true, decide_eq_true_eq] at h
  obtain ⟨h1, h2, h3, h4, h5, h6, h7, h8⟩ := h
  exact ⟨h1, h2, h3, h4, h5, h6, h7, h8⟩
/-- an own error of the class at C stands at a -/
def ErrAt (H : Hp) (a C : Addr) : Prop := H a = some (ExO (.ref C) a) ∨ ∃ d fs, H a = some (exo a C (some d)) ∧ H d = some (exd d fs)
theorem ErrAt.same {H H' : Hp} {a C : Addr} (s : Same H H') : ErrAt H a C → ErrAt H' a C
  | .inl e => .inl (s _ _ e)
  | .inr ⟨d, fs, e1, e2⟩ => .inr ⟨d, fs, s _ _ e1, s _ _ e2⟩
end Xe
set_option Elab.async false
set_option linter.all false
set_option autoImplicit false
set_option maxRecDepth 100000
set_option maxHeartbeats 4000000
/-! Xi: own errors whose __init__ keeps one field: the store, the making. -/
namespace Xi
open PySem PySem.Spec PyProof.Rows L2 Vb Wd Xe Xk Builtin Builtin.ObjectAttr
/-- an own error class at C with an __init__ of its own, the function at fI -/
structure EI (K : PySem.W.Frag) (C fI : Addr) : Prop extends EC K C where
  sa : PySem.W.findIn K (.ref C) "__setattr__" = some (some (.builtin "object.__setattr__"))
  iC : PySem.W.findIn K (.ref C) "__init__" = some (some (.ref fI))
  tI : PySem.W.typeIn K (.ref fI) = some (.type "function")
  kC : PySem.W.keepIn K (.ref C) = true
  ty : PySem.W.typeIn K (.ref C) = some (.type "type")
  st : ∃ (B : String) (bm : List Value), StoreFacts B bm "object.__setattr__" "object" ∧ PySem.W.excOver K C bm = true
  mak : ∃ (B newId initId : String) (bmB bm : List Value), ExcBaseFacts B newId initId bmB ∧ PySem.W.excInitIn K C bm newId = true ∧ Over bm B
def eiB (K : PySem.W.Frag) (C fI : Addr) (bm : List Value) (newId : String) : Bool :=
  ecB K C && (decide (PySem.W.findIn K (.ref C) "__setattr__" = some (some (.builtin "object.__setattr__"))) && (decide (PySem.W.findIn K (.ref C) "__init__" = some (some (.ref fI))) &&
  (decide (PySem.W.typeIn K (.ref fI) = some (.type "function")) && (PySem.W.keepIn K (.ref C) && (decide (PySem.W.typeIn K (.ref C) = some (.type "type")) && (PySem.W.excOver K C bm && PySem.W.excInitIn K C bm newId))))))
theorem ei_of {K : PySem.W.Frag} {C fI : Addr} {bm bmB : List Value} {B B' newId initId : String} (S : StoreFacts B' bm "object.__setattr__" "object") (F : ExcBaseFacts B newId initId bmB) (O : Over bm B) (h : eiB K C fI bm newId = true) : EI K C fI := by
  unfold eiB at h
  simp only [Bool.and_eq_true, decide_eq_true_eq] at h
  obtain ⟨h1, h2, h3, h4, h5, h8, h6, h7⟩ := h
  exact { toEC := ec_of h1, sa := h2, iC := h3, tI := h4, kC := h5, ty := h8, st := ⟨_, _, S, h6⟩, mak := ⟨_, _, _, _, _, F, h7, O⟩ }
section
variable {X : Cx} {pins : List (Addr × Obj)} {σ : L2.St} {H : Hp} {s : Shared} {a C fI : Addr} {f : Str} {y : V} {u : Value}
theorem store_first {A : Around} {Q : Unit → Shared → Prop} {E : Value → Shared → Prop} (T : EI X.K C fI) (no : PySem.W.findIn X.K (.ref C) f = some none) (I : Inv X pins σ H s) (e : H a = some (exo a C none)) (ry : RelV y u)
    (k : ∀ d s', H d = none → d ≠ a → Inv X pins σ (upd (upd H a (exo a C (some d))) d (exd d [(f, y)])) s' → Q () s') : wpAny (model X.prog X.w) A (setAttr (.ref a) f u) Q E s := by
  obtain ⟨t1, ho⟩ := exo_at I.hok e
  obtain ⟨B, bm, S, ov⟩ := T.st
  obtain ⟨cd, hc, hd⟩ := PySem.W.any_some T.hd
  obtain ⟨hp, g, dr, t, os⟩ := s
  have tkr : PySem.W.takerIn X.K C f = some none := by
    unfold PySem.W.takerIn
    rw [no]
    rfl
  have J : PySem.W.InstAt hp a { cls := .ref C, dict := none, data := .fields #[.ref t1, .none, .none, .none, .bool false, .none] } C none := ⟨ho, rfl, rfl, trivial⟩
  refine PySem.W.set_plain I.kIn J T.sa (PySem.W.osa_openX (s := ⟨hp, g, dr, t + 1, os⟩) S I.kIn J ov tkr fun b => ?_)
  refine wpAny_bind (wpAny_pure (wpAny_bind (PySem.W.instanceDict_exc ho (PySem.W.looks_clsIn I.kIn hc) hd ?_)))
  show wpAny _ _ (storeInDict hp.objs.size (.str f t) f u) _ _ _
  have ane : a ≠ hp.objs.size := Nat.ne_of_lt (Heap.lt_size ho)
  have nd : H hp.objs.size = none := I.hok.fresh (Nat.le_refl _)
  refine PX.store_in_new ?_ fun h' tk' hn' hs => ?_
  · exact ⟨_, #[], _, (Heap.get?_update_ne _ _ _ _ ane.symm).trans (Heap.get?_push_at rfl rfl), rfl, fun e he => absurd he (by simp), fun _ => rfl⟩
  -- the object with its dict's address
  have at_a : (hp.update a fun o => { o with dict := some hp.objs.size }).get? a = some { cls := .ref C, dict := some hp.objs.size, data := .fields #[.ref t1, .none, .none, .none, .bool false, .none] } := Heap.get?_update_self _ ho rfl
  have I1 := I.write (t' := t) (x := a) (e := a) (o := exo a C (some hp.objs.size)) (h' := hp.update a fun o => { o with dict := some hp.objs.size }) (by rw [e]; exact True.intro) (.inl rfl)
    (fun b o nb q => (Heap.get?_update_ne _ _ _ _ nb).trans q) ⟨_, at_a⟩ (exo_ok at_a)
  refine k hp.objs.size _ nd ane.symm (I1.laid (t' := tk') (h' := h') (fun b o q => ?_) (by rw [Heap.size_update]; exact Nat.le_refl _) (exd_ok hn' (relO_put (fs := []) ry fun _ => True.intro)))
  have lt : b ≠ hp.objs.size := by
    have l := Heap.lt_size q
    rw [Heap.size_update] at l
    exact Nat.ne_of_lt l
  refine (hs.2 b lt).trans ?_
  by_cases eb : b = a
  · subst eb
    rw [at_a] at q
    cases q
    exact Heap.get?_update_self _ (Heap.get?_push_of_some _ ho) rfl
  · rw [Heap.get?_update_ne _ _ _ _ eb] at q ⊢
    exact Heap.get?_push_of_some _ q
end
end Xi
set_option Elab.async false
set_option linter.all false
set_option autoImplicit false
set_option maxRecDepth 100000
set_option maxHeartbeats 4000000
/-! Xm: self.f = e in such an __init__, and the call of the class. -/
namespace Xm
open PySem PySem.Spec PyProof.Rows L2 Vb Wd Xe Xk Xi
/-- what the one-field __init__ of the class at C promises -/
def spSet (K : PySem.W.Frag) (C fI : Addr) (f : Str) : Sp := fun vs H Q _ => ∃ (a : Addr) (y : V), vs = [.ref a, y] ∧ EI K C fI ∧ PySem.W.findIn K (.ref C) f = some none ∧ H a = some (exo a C none) ∧
  ∀ d, H d = none → d ≠ a → Q .non (upd (upd H a (exo a C (some d))) d (exd d [(f, y)]))
/-- self.f = e -/
def tSetE (K : PySem.W.Frag) (f : Str) (to te : TE) : TS := fun D σ H => te σ H fun y H1 => to σ H1 fun x H2 => ∃ a C fI : Addr, x = .ref a ∧ EI K C fI ∧ PySem.W.findIn K (.ref C) f = some none ∧ H2 a = some (exo a C none) ∧
  ∀ d, H2 d = none → d ≠ a → D.nx σ (upd (upd H2 a (exo a C (some d))) d (exd d [(f, y)]))
section
variable {X : Cx} {o e : Expr} {to te : TE} {ta : TA} {f : Str} {p p' pos : Pos}
theorem ps_setE (ho : PE X o to) (he : PE X e te) (hs : swapsWith e (some (.Attribute o f p')) pos.line X.env = pure false := by rfl) : PS X (.Assign [.Attribute o f p'] e pos) (tSetE X.K f to te) := by
  refine ⟨fun pins s σ H D I h => ?_⟩
  refine plainObj_wpAny_Assign_Attribute (thn (he.run pins s σ H _ I h) fun v s1 ⟨y, H1, I1, r1, q1⟩ => ?_) hs
  refine thn (ho.run pins s1 σ H1 _ I1 q1) fun u s2 ⟨x, H2, I2, r2, a, C, fI, ex, T, no, ea, q⟩ => ?_
  subst ex
  obtain rfl : u = Value.ref a := r2
  exact store_first T no I2 ea r1 fun d s' nd ne J => ⟨σ, _, J, q d nd ne⟩
end
end Xm
set_option Elab.async false
set_option linter.all false
set_option autoImplicit false
set_option maxRecDepth 100000
set_option maxHeartbeats 4000000
/-! Xr: such an error raised. -/
namespace Xr
open PySem PySem.Spec PyProof.Rows L2 Vb Wd Xe Xk Xi Xm
def tRaE (C : Addr) (f : Str) (ta : TA) : L2.St → Hp → XK → Prop := fun σ H Q => ta σ H fun vs H1 => ∃ y, vs = [y] ∧ ∀ d, H1 d = none → Q (.ref C) (some d) (upd H1 d (.xd [(f, y)]))
section
variable {X : Cx} {e : Expr} {ta : TA} {f : Str} {p pos : Pos}
theorem pmk_E {x : Str} {C fI : Addr} {k : Nat} {fd : FuncData} {ps : List Str} (T : EI X.K C fI) (no : PySem.W.findIn X.K (.ref C) f = some none) (F1 : FnG X.prog X.w X.K X.mg X.base k fI fd ps (spSet X.K C fI f)) (hc : Calm X.A) (hr : Room (k + 1) X.A) (hb : Binds X.K fd ps [])
    (hg : Gl X x) (hm : X.mg x = some (.ref C)) (ha : PA X [e] ta) (hdb : (x == ("__debug__" : Str)) = false := by decide) (he : starEach [e] X.env = (false, eval e X.env) :: starEach [] X.env := by rfl) (hpl : (backTo pos (starEach ([] : List Expr) X.env)).any (·.1) = false := by rfl) :
    L2.PMk X (.Call (.Name x p) [e] [] pos) (tRaE C f ta) := by
  intro pins s σ H Q I h
  obtain ⟨B, newId, initId, bmB, bm, FB, ini, O⟩ := T.mak
  refine wpAny_Call_Name_kw (ld_glob I hg hm ?_ hdb)
  refine PySem.W.callWith_K (h₀ := X.base) I.ok.mod.kin T.kC (thn (ha.run pos pins s σ H _ I h) fun us s1 ⟨vs, H1, I1, r1, y, ev, q1⟩ => ⟨I1.kIn, ?_⟩) he hpl
  subst ev
  show wpAny _ _ (call (.ref C) us) _ _ _
  obtain ⟨v, rfl, r2⟩ := vals1 r1
  obtain ⟨nm, N, qn, bs, bm', hdct, sn, sub, ab, col, dd, k0, k1, k2, k3, k5, hC, same⟩ := PySem.W.excInit_of I1.kIn ini
  have O' : Over bm' B := ⟨(same B).trans O.base, (same _).trans O.attr, (same _).trans O.name⟩
  obtain ⟨hp, g, dr, tk, os⟩ := s1
  have sz : hp.objs.size ≤ hp.objs.size + 1 := Nat.le_succ _
  have n1 : H1 (hp.objs.size + 1) = none := I1.hok.fresh sz
  have keeps : ∀ b o, hp.get? b = some o → ((hp.push (PySem.W.kdv_tup [v])).push (PX.excO C hp.objs.size)).get? b = some o := fun b o e => Heap.get?_push_of_some _ (Heap.get?_push_of_some _ e)
  have at_x : ((hp.push (PySem.W.kdv_tup [v])).push (PX.excO C hp.objs.size)).get? (hp.objs.size + 1) = some (PX.excO C hp.objs.size) := by heap_get
  have I2 : Inv X pins σ (upd H1 (hp.objs.size + 1) (exo (hp.objs.size + 1) C none)) ⟨(hp.push (PySem.W.kdv_tup [v])).push (PX.excO C hp.objs.size), g, dr, tk, os⟩ :=
    I1.laid (t' := tk) (a := hp.objs.size + 1) (h' := (hp.push (PySem.W.kdv_tup [v])).push (PX.excO C hp.objs.size)) keeps sz (exo_ok at_x)
  have r3 : Vals [V.ref (hp.objs.size + 1), y] ([Value.ref (hp.objs.size + 1), v]) := .cons rfl (.cons r2 .nil)
  have pr : spSet X.K C fI f [V.ref (hp.objs.size + 1), y] (upd H1 (hp.objs.size + 1) (exo (hp.objs.size + 1) C none))
      (fun z H2 => z = .non ∧ ∃ d, H2 = upd (upd H1 (hp.objs.size + 1) (exo (hp.objs.size + 1) C (some d))) d (exd d [(f, y)]) ∧ H1 d = none ∧ d ≠ hp.objs.size + 1) (fun _ _ _ => False) := by
    refine ⟨_, y, rfl, T, no, upd_same, fun d nd ne => ⟨rfl, d, by rw [upd_upd], ?_, ne⟩⟩
    rw [upd_ne ne] at nd
    exact nd
  have len : [Value.ref (hp.objs.size + 1), v].length = ps.length := F1.count _ _ _ _ pr
  refine wpAny_call (calls_own FB O' hC (PySem.W.looks_findIn I1.kIn T.iC) (fun self => PySem.W.bind_fn I1.kIn self T.tI) (by show 1 ≤ sizeLine; decide) ?_)
  refine codeAny_mono (F1.goes _ X.stack _ _ ⟨[Value.ref (hp.objs.size + 1), v], []⟩ [Value.ref (hp.objs.size + 1), v] _ _ (fun _ _ _ => False) hc (hr.make C [v] []) (I2.env0.make C [v] []) (by simpa using hb _ [Value.ref (hp.objs.size + 1), v] I2.kIn (by simpa using len)) r3 pr) fun r s' hq => ?_
  match r, hq with
  | .error er, hq => exact pass0 pins σ _ _ er s' I2 hq
  | .ok (.ret u), hq =>
    obtain ⟨z, H2, os2, bare2, un2, hok2, rz, ez, d, e2, nd, ne⟩ := hq
    subst ez
    have e0 : u = Value.none := rz
    subst e0
    have ea : H2 (hp.objs.size + 1) = some (exo (hp.objs.size + 1) C (some d)) := by rw [e2, upd_ne ne.symm, upd_same]
    have ed : H2 d = some (exd d [(f, y)]) := by rw [e2, upd_same]
    have eq : upd (L2.del H2 (hp.objs.size + 1)) d (.xd [(f, y)]) = upd H1 d (.xd [(f, y)]) := by
      funext b
      by_cases h1 : b = d
      · subst h1
        rw [upd_same, upd_same]
      · rw [upd_ne h1, upd_ne h1]
        by_cases h2 : b = hp.objs.size + 1
        · subst h2
          rw [L2.del_same, n1]
        · rw [L2.del_ne h2, e2, upd_ne h1, upd_ne h2]
    obtain ⟨h2, g2, d2, t2, os'⟩ := s'
    exact ⟨rfl, mk_end (raises_own T.sub T.ty) I1 sz keeps un2 hok2 os2 bare2 ea ed nd (eq ▸ q1 d nd)⟩
  | .ok .next, hq => exact hq.elim
  | .ok .brk, hq => exact hq.elim
  | .ok .cont, hq => exact hq.elim
end
end Xr
set_option Elab.async false
set_option linter.all false
set_option autoImplicit false
set_option maxRecDepth 100000
set_option maxHeartbeats 4000000
/-! Xt: try: .. except C1 as n1: .. except C2 as n2: .. -/
set_option Elab.async false
set_option linter.all false
set_option autoImplicit false
set_option maxRecDepth 100000
set_option maxHeartbeats 4000000
/-! Xp: defs that are asked of the error in hand, within an except suite. -/
set_option Elab.async false
set_option linter.all false
set_option autoImplicit false
set_option maxRecDepth 100000
set_option maxHeartbeats 4000000
/-! Xd: defs that may let an error out, entered in calm room. -/
namespace Xd
open PySem PySem.Spec PyProof.Rows L2 Vb
structure FnE (P : Program) (w : World) (K : PySem.W.Frag) (mg : Str → Option Value) (base : Heap) (k : Nat) (f : Addr) (fd : FuncData) (ps : List Str) (sp : Sp) : Prop where
  count : ∀ vs H Q E, sp vs H Q E → vs.length = ps.length
  goes : ∀ (A : Around) (outer : List Env) (s : Shared) (H : Hp) (args : Args) (us : List Value) (vs : List V) (Q : VK) (E : XK), Calm A → Room k A → Env0 P w K mg base A outer s H → BindsTo s fd args (ps.zip us) → Vals vs us → sp vs H Q E →
    codeAny (model P w) A (.call (.ref f) args) (CR (L2.CX P w) outer P w H s Q E) s
section
variable {P : Program} {w : World} {K : PySem.W.Frag} {mg : Str → Option Value} {base : Heap}
theorem FnE.mono {j k : Nat} {f : Addr} {fd : FuncData} {ps : List Str} {sp : Sp} (F : FnE P w K mg base j f fd ps sp) (h : j ≤ k) : FnE P w K mg base k f fd ps sp :=
  ⟨F.count, fun A outer s H args us vs Q E hc hr => F.goes A outer s H args us vs Q E hc (hr.mono h)⟩
theorem goes_exc {x qual : Str} {st : Stmt} {f : Addr} {fd : FuncData} {N ps : List Str} {k : Nat} {sp : Sp} (F : Fun K x qual st f fd) (S : FnScope N ps (defScope st)) (len : ∀ vs H Q E, sp vs H Q E → vs.length = ps.length)
    (body : ∀ (cdv : Value) (A : Around) (outer : List Env) (s : Shared) (H : Hp) (vs : List V) (Q : VK) (E : XK), Calm (A.deeper (envOfC qual (defScope st) s.heap.objs.size f cdv)) → Room k (A.deeper (envOfC qual (defScope st) s.heap.objs.size f cdv)) →
      Takes (cxOf (L2.CX P w) P w K mg base N qual (defScope st) f cdv A outer s H E) (fun cls d _ H' => E cls d H') → sp vs H Q E →
      ∃ t, PSs (cxOf (L2.CX P w) P w K mg base N qual (defScope st) f cdv A outer s H E) (defBody st) t ∧ t { nx := fun _ H' => Q .non H', rt := Q } (start N vs) H) : FnE P w K mg base (k + 1) f fd ps sp := by
  obtain ⟨oc, od, kV, doc, pm, an, cdv, ct, osl, rfl, lk, hcd⟩ := F.ex
  refine ⟨len, fun A outer s H args us vs Q E hc hr e0 hb r hsp => ?_⟩
  have hl := len _ _ _ _ hsp
  have KX : K.In s.heap := e0.mod.kin.keeps fun b o e => (e0.bs b o e).1
  have lim : s.heap.NoLimit := e0.mod.nolimit.keeps fun b o e => (e0.bs b o e).1
  have kinds : ∀ y ∈ ps.zip us, (defScope st).names.lookup y.1 = some .local ∨ ((defScope st).names.lookup y.1 = some .cell ∧ ((cellsFrom (s.heap.objs.size + 1) (defScope st).names []).lookup y.1).isSome = true) := by
    intro y hy
    obtain ⟨n, v⟩ := y
    exact (S.par n (List.of_mem_zip hy).1).imp id fun q => ⟨q, PySem.W.cellsFrom_some _ _ _ (Or.inl q)⟩
  refine codeAny_call_function hr.depth (KX _ _ lk) rfl S.co S.gen rfl (PySem.W.codeRec_of KX hcd) (hb _ _ _ _ ?_)
  refine wpAny_newFunctionEnv_cells S.kind kinds fun env he s1 x => ?_
  cases he
  refine ⟨lim.keeps x.toInCall.keep, codeAny_func ?_⟩
  obtain ⟨t, ht, hq⟩ := body cdv A outer s H vs Q E (hc.deep _) (hr.deeper _) (takes_of rfl rfl rfl rfl) hsp
  have I := inv_start (CX := L2.CX P w) (E := E) S hr.hd e0 hl r x
  refine wpAny_mono (ht.run [] s1 (start N vs) H _ I hq) (fun fl s' hs => ?_) (fun _ _ z => z)
  cases fl with
  | brk => exact hs.elim fun _ z => z.elim fun _ z => z.2.elim
  | cont => exact hs.elim fun _ z => z.elim fun _ z => z.2.elim
  | ret u =>
    obtain ⟨v, σ', H', J, rv, q⟩ := hs
    exact ⟨v, H', J.os, J.bare, J.base, J.hok, rv, q⟩
  | next =>
    obtain ⟨σ', H', J, q⟩ := hs
    exact ⟨V.non, H', J.os, J.bare, J.base, J.hok, rfl, q⟩
/-- what lets nothing out may be taken for what may -/
theorem FnE.of {k : Nat} {f : Addr} {fd : FuncData} {ps : List Str} {sp : Sp} (F : FnG P w K mg base k f fd ps sp) : FnE P w K mg base k f fd ps sp := by
  refine ⟨F.count, fun A outer s H args us vs Q E hc hr e0 hb r h => codeAny_mono (F.goes A outer s H args us vs Q E hc hr e0 hb r h) fun x s' hx => ?_⟩
  match x, hx with
  | .error e, hx => exact False.elim hx
  | .ok (.ret u), hx => exact hx
  | .ok .next, hx => exact hx
  | .ok .brk, hx => exact hx
  | .ok .cont, hx => exact hx
end
section
variable {X : Cx} {k : Nat} {f : Addr} {fd : FuncData} {ps : List Str} {sp : Sp} {W : WX} {E : XK} {x : Str} {p pos : Pos} {e : Expr} {es : List Expr} {t : TA}
theorem goes_inE {pins : List (Addr × Obj)} {σ : L2.St} {H : Hp} {s : Shared} {Q : VK} {us : List Value} {vs : List V} (F : FnE X.prog X.w X.K X.mg X.base k f fd ps sp) (hc : Calm X.A) (hr : Room k X.A) (hb : Binds X.K fd ps []) (tk : Takes X W) (hW : ∀ cls d σ H, E cls d H → W cls d σ H)
    (I : Inv X pins σ H s) (r : Vals vs us) (h : sp vs H Q E) : wpAny (model X.prog X.w) X.A (call (.ref f) us) (EP X pins σ Q) X.xe s := by
  have hl : us.length = ps.length := r.length ▸ F.count _ _ _ _ h
  have b := hb s us I.kIn (by rw [List.append_nil]; exact hl)
  rw [List.append_nil] at b
  refine wpAny_call (codeAny_mono (F.goes X.A X.stack s H ⟨us, []⟩ us vs Q E hc hr I.env0 b r h) fun y s' hq => ?_)
  match y, hq with
  | .error er, hq => exact passes_call tk hW pins σ H s er s' I hq
  | .ok (.ret u), hq => exact I.after hq
  | .ok .next, hq => exact hq.elim
  | .ok .brk, hq => exact hq.elim
  | .ok .cont, hq => exact hq.elim
/-- f(e, ..), what it lets out is taken -/
theorem pe_callE (F : FnE X.prog X.w X.K X.mg X.base k f fd ps sp) (hc : Calm X.A) (hr : Room k X.A) (hg : Gl X x) (hm : X.mg x = some (.ref f)) (hk : PySem.W.keepIn X.K (.ref f) = true) (hb : Binds X.K fd ps []) (tk : Takes X W) (hW : ∀ cls d σ H, E cls d H → W cls d σ H) (ha : PA X (e :: es) t)
    (hdb : (x == ("__debug__" : Str)) = false := by decide) (he : starEach (e :: es) X.env = (false, eval e X.env) :: starEach es X.env := by rfl) (hpl : (backTo pos (starEach es X.env)).any (·.1) = false := by rfl) :
    PE X (.Call (.Name x p) (e :: es) [] pos) (fun σ H Q => t σ H fun vs H1 => sp vs H1 Q E) :=
  ⟨fun pins s σ H Q I h => wpAny_Call_Name_kw (ld_glob I hg hm
    (PySem.W.callWith_K (h₀ := X.base) I.ok.mod.kin hk (thn (ha.run pos pins s σ H _ I h) fun us s1 ⟨vs, H1, I1, r, q⟩ => ⟨I1.kIn, goes_inE F hc hr hb tk hW I1 r q⟩) he hpl) hdb)⟩
end
end Xd
set_option Elab.async false
set_option linter.all false
set_option autoImplicit false
set_option maxRecDepth 100000
set_option maxHeartbeats 4000000
/-! Xo: objects of own classes in calm room: made, their methods called, their properties read. -/
namespace Xo
open PySem PySem.Spec PyProof.Rows L2 Vb Xd
section
variable {X : Cx} {k : Nat} {f C p g : Addr} {fd : FuncData} {ps : List Str} {sp : Sp} {W : WX} {E : XK} {x m : Str} {q pos apos : Pos} {o e : Expr} {es : List Expr} {ta : TE} {t : TA}
/-- C(e, ..) -/
def tMaE (C : Addr) (sp : Sp) (E : XK) (t : TA) : TE := fun σ H Q => t σ H fun vs H1 => ∀ x dx, H1 x = none → H1 dx = none → dx ≠ x → sp (.ref x :: vs) (upd (upd H1 dx (.own x)) x (.ins C dx [])) (fun v H2 => v = .non ∧ Q (.ref x) H2) E
theorem makes_inE {pins : List (Addr × Obj)} {σ : L2.St} {H : Hp} {s : Shared} {Q : VK} {us : List Value} {vs : List V} (M : L2.Mk X.K C f) (F : FnE X.prog X.w X.K X.mg X.base k f fd ps sp) (hc : Calm X.A) (hr : Room (k + 1) X.A) (hb : Binds X.K fd ps []) (tk : Takes X W) (hW : ∀ cls d σ H, E cls d H → W cls d σ H)
    (I : Inv X pins σ H s) (r : Vals vs us) (h : ∀ x dx, H x = none → H dx = none → dx ≠ x → sp (.ref x :: vs) (upd (upd H dx (.own x)) x (.ins C dx [])) (fun v H2 => v = .non ∧ Q (.ref x) H2) E) : wpAny (model X.prog X.w) X.A (call (.ref C) us) (EP X pins σ Q) X.xe s := by
  have hq := h (s.heap.objs.size + 1) s.heap.objs.size (I.hok.fresh (Nat.le_succ _)) (I.hok.fresh (Nat.le_refl _)) (Nat.ne_of_lt (Nat.lt_succ_self _))
  have I2 := Inv.made (C := C) I
  have r2 : Vals (V.ref (s.heap.objs.size + 1) :: vs) (Value.ref (s.heap.objs.size + 1) :: us) := .cons rfl r
  have hl : (Value.ref (s.heap.objs.size + 1) :: us).length = ps.length := r2.length ▸ F.count _ _ _ _ hq
  have b := hb _ (Value.ref (s.heap.objs.size + 1) :: us) I2.kIn (by rw [List.append_nil]; exact hl)
  rw [List.append_nil] at b
  refine wpAny_call (make_map (f := f) I.kIn M.makes M.init (beq_iff_eq.mp M.fn) (codeAny_mono (F.goes _ X.stack _ _ ⟨Value.ref (s.heap.objs.size + 1) :: us, []⟩ _ _ _ E hc (hr.make C us []) (I2.env0.make C us []) b r2 hq) fun y s' hq' => ?_))
  match y, hq' with
  | .error er, hq' => exact passes_call tk hW pins σ _ _ er s' I2 hq'
  | .ok (.ret u), hq' =>
    obtain ⟨v, H', I3, rv, ev, q3⟩ := I2.after hq'
    subst ev
    exact ⟨rv, ⟨V.ref (s.heap.objs.size + 1), H', I3, rfl, q3⟩⟩
  | .ok .next, hq' => exact hq'.elim
  | .ok .brk, hq' => exact hq'.elim
  | .ok .cont, hq' => exact hq'.elim
theorem pe_makeE (M : L2.Mk X.K C f) (F : FnE X.prog X.w X.K X.mg X.base k f fd ps sp) (hc : Calm X.A) (hr : Room (k + 1) X.A) (hg : Gl X x) (hm : X.mg x = some (.ref C)) (hb : Binds X.K fd ps []) (tk : Takes X W) (hW : ∀ cls d σ H, E cls d H → W cls d σ H) (ha : PA X (e :: es) t)
    (hdb : (x == ("__debug__" : Str)) = false := by decide) (he : starEach (e :: es) X.env = (false, eval e X.env) :: starEach es X.env := by rfl) (hpl : (backTo pos (starEach es X.env)).any (·.1) = false := by rfl) : PE X (.Call (.Name x q) (e :: es) [] pos) (tMaE C sp E t) :=
  ⟨fun pins s σ H Q I h => wpAny_Call_Name_kw (ld_glob I hg hm (PySem.W.callWith_K (h₀ := X.base) I.ok.mod.kin M.kp (thn (ha.run pos pins s σ H _ I h) fun us s1 ⟨vs, H1, I1, r, q⟩ => ⟨I1.kIn, makes_inE M F hc hr hb tk hW I1 r q⟩) he hpl) hdb)⟩
/-- e.f, a property whose getter lets nothing out -/
def tPrE (C : Addr) (sp : Sp) (ta : TE) : TE := fun σ H Q => ta σ H fun x H1 => ∃ a dx fs, x = .ref a ∧ H1 a = some (.ins C dx fs) ∧ sp [.ref a] H1 Q E0
theorem pe_propG {n : Str} (he : PE X e ta) (c : Cls X.K C) (hp : PropOf X.K C n p g) (F : FnG X.prog X.w X.K X.mg X.base k g fd ps sp) (hc : Calm X.A) (hr : Room (k + 1) X.A) (hb : Binds X.K fd ps []) (hab : attributeBase e n X.env (eval e X.env) = eval e X.env := by rfl) : PE X (.Attribute e n pos) (tPrE C sp ta) := by
  refine ⟨fun pins s σ H Q I h => attr_of hab (thn (he.run pins s σ H _ I h) fun u s1 ⟨x, H1, I1, rx, a, dx, fs, ex, ea, q⟩ => ?_)⟩
  subst ex
  obtain rfl : u = Value.ref a := rx
  obtain ⟨mA, O, _, _, _, _⟩ := ins_get I1.hok ea
  obtain ⟨od, J, _⟩ := O.look
  obtain ⟨rest, hrec⟩ := hp.rec_
  obtain ⟨cd, hcl, _⟩ := PySem.W.any_some c.hd
  have I2 := I1.tok (s1.toks + 1)
  have hl : [Value.ref a].length = ps.length := F.count _ _ _ _ q
  have b := hb { s1 with toks := s1.toks + 1 } [.ref a] I2.kIn (by rw [List.append_nil]; exact hl)
  rw [List.append_nil] at b
  refine PySem.W.get_bind I1.kIn J (PySem.W.plainGet_of (c.get n)).1 (PySem.W.findObj_data (by rw [hcl]; rfl) hp.at_ hp.get hp.tak) (PySem.W.plainGet_of (c.get n)).2 (wpAny_call (PySem.W.prop_get (s := { s1 with toks := s1.toks + 1 }) I1.kIn hrec ?_))
  refine codeAny_mono (F.goes X.A.in1 X.stack { s1 with toks := s1.toks + 1 } H1 ⟨[.ref a], []⟩ [.ref a] [.ref a] Q E0 hc hr.in1 I2.env0.in1 b (.cons rfl .nil) q) fun y s' hq => ?_
  match y, hq with
  | .error er, hq => exact False.elim hq
  | .ok (.ret u), hq =>
    obtain ⟨v, H', I3, rv, q3⟩ := I2.after hq
    show wpAny _ _ (handedOut u) _ _ _
    rw [PySem.W.handedOut_of (handed_of rv)]
    exact wpAny_pure ⟨v, H', I3, rv, q3⟩
  | .ok .next, hq => exact hq.elim
  | .ok .brk, hq => exact hq.elim
  | .ok .cont, hq => exact hq.elim
end
end Xo
set_option Elab.async false
set_option linter.all false
set_option autoImplicit false
set_option maxRecDepth 100000
set_option maxHeartbeats 4000000
namespace K11
open PySem PySem.Spec PyProof.Rows L2 Vb Wd Xd Xo
/-- the i-th statement of a class -/
def inB (st : Stmt) (i : Nat) : Stmt := match st with
  | .ClassDef _ _ _ b _ _ _ _ _ _ _ => b.getD i (.Pass ⟨0, 0, 0, 0⟩)
  | _ => .Pass ⟨0, 0, 0, 0⟩
abbrev s_init : Stmt := inB (topS 24) 0
theorem sc_init : FnScope ["self", "called", "sort", "children"] ["self", "called", "sort", "children"] (defScope s_init) := ⟨rfl, rfl, rfl, by decide +kernel, rfl, by decide +kernel, by decide +kernel⟩
abbrev s_called : Stmt := inB (topS 24) 2
theorem sc_called : FnScope ["self"] ["self"] (defScope s_called) := ⟨rfl, rfl, rfl, by decide +kernel, rfl, by decide +kernel, by decide +kernel⟩
abbrev s_sort_name : Stmt := inB (topS 24) 3
theorem sc_sort_name : FnScope ["self"] ["self"] (defScope s_sort_name) := ⟨rfl, rfl, rfl, by decide +kernel, rfl, by decide +kernel, by decide +kernel⟩
abbrev s_children : Stmt := inB (topS 24) 4
theorem sc_children : FnScope ["self"] ["self"] (defScope s_children) := ⟨rfl, rfl, rfl, by decide +kernel, rfl, by decide +kernel, by decide +kernel⟩
def flds (n so : Str) (ch : Addr) : List (Str × V) := [("_called", .str n), ("_sort_name", .str so), ("_children", .ref ch)]
/-- what the written part tells of the class Form -/
structure FormC (K : PySem.W.Frag) (C : Addr) : Prop where
  c : Cls K C
  n1 : NoAttr K C "_called"
  n2 : NoAttr K C "_sort_name"
  n3 : NoAttr K C "_children"
def spInit (K : PySem.W.Frag) (C : Addr) : Sp := fun vs H Q _ => ∃ (a dx ch : Addr) (n so : Str) (ts : List Addr) (cs : List (Str × Int)), vs = [.ref a, .str n, .str so, .ref ch] ∧ H a = some (.ins C dx []) ∧ (isNam (.str n) = true ∧ n.length ≤ 1000 ∧ Asc n) ∧ (isNam (.str so) = true ∧ so.length ≤ 1000 ∧ Asc so) ∧ Kids H ch ts cs ∧
  ∀ H', Same H H' → Q .non (upd H' a (.ins C dx (flds n so ch)))
/-- a form -/
structure FormAt (H : Hp) (C a ch : Addr) (n so : Str) (ts : List Addr) (cs : List (Str × Int)) : Prop where
  at_ : ∃ dx, H a = some (.ins C dx (flds n so ch))
  kids : Kids H ch ts cs
def spGet (C : Addr) (f : Str) : Sp := fun vs H Q _ => ∃ (a ch dx : Addr) (n so : Str) (v : V), vs = [.ref a] ∧ H a = some (.ins C dx (flds n so ch)) ∧ (flds n so ch).lookup f = some v ∧ Q v H
section
variable {P : Program} {w : World} {K : PySem.W.Frag} {mg : Str → Option Value} {base : Heap} {C : Addr}
theorem ok_init {f : Addr} {fd : FuncData} (F : Fun K "__init__" "Form.__init__" s_init f fd) (T : FormC K C) (G_is_name : Cg P w K mg base 1 "is_name" (spOf isNam)) (G_is_children : Cg P w K mg base 5 "_is_children" spChildren) : FnG P w K mg base 6 f fd ["self", "called", "sort", "children"] (spInit K C) := by
  refine goes_by F sc_init (fun vs H Q E h => ?_) (fun cdv A outer s H vs Q E hc hr h => ?_)
  · obtain ⟨a, dx, ch, n, so, ts, cs, rfl, _⟩ := h
    rfl
  · obtain ⟨a, dx, ch, n, so, ts, cs, rfl, ha, ⟨e1, p1⟩, ⟨e2, p2⟩, k, q⟩ := h
    refine ⟨_, (pss_cons (ps_if (pt_not (pt_val (pe_cg G_is_name hc hr (by rfl) (pa_cons (pv 1) pa_nil)))) pss_never pss_nil)
      (pss_cons (ps_if (pt_not (pt_val (pe_cg G_is_name hc hr (by rfl) (pa_cons (pv 2) pa_nil)))) pss_never pss_nil)
      (pss_cons (ps_if (pt_not (pt_val (pe_cg G_is_children hc hr (by rfl) (pa_cons (pv 3) pa_nil)))) pss_never pss_nil)
      (pss_cons (ps_fld (f := "_called") (pv 0) (pv 1) (by rfl))
      (pss_cons (ps_fld (f := "_sort_name") (pv 0) (pv 2) (by rfl))
      (pss_one (ps_fld (f := "_children") (pv 0) (pv 3) (by rfl)))))))), ?_⟩
    refine ⟨_, rfl, .str n, rfl, p1, fun H1 s1 => ⟨_, rfl, ?_⟩⟩
    rw [e1]
    refine iteF ⟨_, rfl, .str so, rfl, p2, fun H2 s2 => ⟨_, rfl, ?_⟩⟩
    rw [e2]
    refine iteF ⟨_, rfl, ch, ts, cs, rfl, k.same (s1.trans s2), fun H3 s3 => ⟨_, rfl, iteF ?_⟩⟩
    have s13 := (s1.trans s2).trans s3
    refine ⟨_, rfl, _, rfl, a, C, dx, _, rfl, s13 _ _ ha, T.c, T.n1, by decide, _, rfl, _, rfl, a, C, dx, _, rfl, upd_same, T.c, T.n2, by show 1 < 1000; decide, _, rfl, _, rfl, a, C, dx, _, rfl, upd_same, T.c, T.n3, by show 2 < 1000; decide, ?_⟩
    rw [upd_upd, upd_upd]
    exact q H3 s13
theorem ok_called {f : Addr} {fd : FuncData} (F : Fun K "called" "Form.called" s_called f fd) (T : FormC K C) : FnG P w K mg base 1 f fd ["self"] (spGet C "_called") := by
  refine goes_by F sc_called (fun vs H Q E h => ?_) (fun cdv A outer s H vs Q E hc hr h => ?_)
  · obtain ⟨a, ch, dx, n, so, v, rfl, _⟩ := h
    rfl
  · obtain ⟨a, ch, dx, n, so, v, rfl, ha, l, q⟩ := h
    exact ⟨_, pss_one (ps_ret (pe_fld (f := "_called") (pv 0) (by rfl))), _, rfl, a, C, dx, _, v, rfl, ha, T.c, T.n1, l, q⟩
theorem ok_sort_name {f : Addr} {fd : FuncData} (F : Fun K "sort_name" "Form.sort_name" s_sort_name f fd) (T : FormC K C) : FnG P w K mg base 1 f fd ["self"] (spGet C "_sort_name") := by
  refine goes_by F sc_sort_name (fun vs H Q E h => ?_) (fun cdv A outer s H vs Q E hc hr h => ?_)
  · obtain ⟨a, ch, dx, n, so, v, rfl, _⟩ := h
    rfl
  · obtain ⟨a, ch, dx, n, so, v, rfl, ha, l, q⟩ := h
    exact ⟨_, pss_one (ps_ret (pe_fld (f := "_sort_name") (pv 0) (by rfl))), _, rfl, a, C, dx, _, v, rfl, ha, T.c, T.n2, l, q⟩
theorem ok_children {f : Addr} {fd : FuncData} (F : Fun K "children" "Form.children" s_children f fd) (T : FormC K C) : FnG P w K mg base 1 f fd ["self"] (spGet C "_children") := by
  refine goes_by F sc_children (fun vs H Q E h => ?_) (fun cdv A outer s H vs Q E hc hr h => ?_)
  · obtain ⟨a, ch, dx, n, so, v, rfl, _⟩ := h
    rfl
  · obtain ⟨a, ch, dx, n, so, v, rfl, ha, l, q⟩ := h
    exact ⟨_, pss_one (ps_ret (pe_fld (f := "_children") (pv 0) (by rfl))), _, rfl, a, C, dx, _, v, rfl, ha, T.c, T.n3, l, q⟩
end
end K11
set_option Elab.async false
set_option linter.all false
set_option autoImplicit false
set_option maxRecDepth 100000
set_option maxHeartbeats 4000000
/-! Pc: pictures as data: their signs, how deep they are, how a text is cut at its top. -/
namespace Pc
open PySem SX
/-- a picture: a hole, or a name with its parts -/
inductive Pic where
  | hole
  | node (n : List Nat) (ps : List Pic)
theorem Pic.ind {P : Pic → Prop} (h0 : P .hole) (h1 : ∀ n ps, (∀ p ∈ ps, P p) → P (.node n ps)) : ∀ p, P p
  | .hole => h0
  | .node n ps => h1 n ps fun p hp => Pic.ind h0 h1 p
mutual
/-- the signs of a picture -/
def Pic.cs : Pic → List Nat
  | .hole => [46]
  | .node n ps => n ++ 40 :: (csJ ps ++ [41])
def csJ : List Pic → List Nat
  | [] => []
  | p :: ps => p.cs ++ csT ps
def csT : List Pic → List Nat
  | [] => []
  | p :: ps => 32 :: (p.cs ++ csT ps)
end
mutual
def Pic.holes : Pic → Nat
  | .hole => 1
  | .node _ ps => holesL ps
def holesL : List Pic → Nat
  | [] => 0
  | p :: ps => p.holes + holesL ps
end
mutual
def Pic.lev : Pic → Nat
  | .hole => 0
  | .node _ ps => 1 + levL ps
def levL : List Pic → Nat
  | [] => 0
  | p :: ps => max p.lev (levL ps)
end
mutual
def Pic.nms : Pic → List (List Nat)
  | .hole => []
  | .node n ps => n :: nmsL ps
def nmsL : List Pic → List (List Nat)
  | [] => []
  | p :: ps => p.nms ++ nmsL ps
end
def Pic.parts : Pic → List Pic
  | .hole => []
  | .node _ ps => ps
/-- small letters, one to eight -/
def word (n : List Nat) : Prop := 1 ≤ n.length ∧ n.length ≤ 8 ∧ ∀ c ∈ n, 97 ≤ c ∧ c ≤ 122
mutual
def Pic.Ok : Pic → Prop
  | .hole => True
  | .node n ps => word n ∧ 2 ≤ ps.length ∧ ps.length ≤ 4 ∧ OkL ps
def OkL : List Pic → Prop
  | [] => True
  | p :: ps => p.Ok ∧ OkL ps
end
theorem okL_iff : ∀ {ps : List Pic}, OkL ps ↔ ∀ p ∈ ps, p.Ok
  | [] => ⟨fun _ p hp => (nomatch hp), fun _ => trivial⟩
  | p :: ps => by
    constructor
    · intro h q hq
      obtain ⟨h1, h2⟩ : p.Ok ∧ OkL ps := h
      rcases List.mem_cons.mp hq with e | e
      · exact e ▸ h1
      · exact okL_iff.mp h2 q e
    · intro h
      exact (⟨h p (List.mem_cons_self ..), okL_iff.mpr fun q hq => h q (List.mem_cons_of_mem _ hq)⟩ : p.Ok ∧ OkL ps)
theorem ok_node {n : List Nat} {ps : List Pic} (h : Pic.Ok (.node n ps)) : word n ∧ 2 ≤ ps.length ∧ ps.length ≤ 4 ∧ ∀ p ∈ ps, p.Ok := by
  obtain ⟨a, b, c, d⟩ : word n ∧ 2 ≤ ps.length ∧ ps.length ≤ 4 ∧ OkL ps := h
  exact ⟨a, b, c, okL_iff.mp d⟩
theorem ok_mk {n : List Nat} {ps : List Pic} (a : word n) (b : 2 ≤ ps.length) (c : ps.length ≤ 4) (d : ∀ p ∈ ps, p.Ok) : Pic.Ok (.node n ps) :=
  (⟨a, b, c, okL_iff.mpr d⟩ : word n ∧ 2 ≤ ps.length ∧ ps.length ≤ 4 ∧ OkL ps)
theorem ok_part {p q : Pic} (h : p.Ok) (hq : q ∈ p.parts) : q.Ok := by
  cases p with
  | hole => cases hq
  | node n ps => exact (ok_node h).2.2.2 q hq
theorem lev_le : ∀ {ps : List Pic} {p : Pic}, p ∈ ps → p.lev ≤ levL ps
  | [], _, h => nomatch h
  | q :: ps, p, h => by
    show p.lev ≤ max q.lev (levL ps)
    rcases List.mem_cons.mp h with e | e
    · rw [e]; omega
    · have := lev_le e; omega
theorem lev_part {p q : Pic} (hq : q ∈ p.parts) : q.lev < p.lev := by
  cases p with
  | hole => cases hq
  | node n ps =>
    have := lev_le (show q ∈ ps from hq)
    show q.lev < 1 + levL ps
    omega
theorem holes_sum : ∀ ps : List Pic, holesL ps = (ps.map Pic.holes).sum
  | [] => rfl
  | p :: ps => by
    show p.holes + holesL ps = _
    rw [holes_sum ps]
    simp
theorem nms_flat : ∀ ps : List Pic, nmsL ps = ps.flatMap Pic.nms
  | [] => rfl
  | p :: ps => by
    show p.nms ++ nmsL ps = _
    rw [nms_flat ps]
    simp
theorem csJ_join : ∀ ps : List Pic, csJ ps = TL.joinL [32] (ps.map Pic.cs)
  | [] => rfl
  | [p] => by simp [csJ, csT, TL.joinL]
  | p :: q :: ps => by
    have e := csJ_join (q :: ps)
    have e2 : csJ (q :: ps) = q.cs ++ csT ps := rfl
    show p.cs ++ 32 :: (q.cs ++ csT ps) = _
    rw [← e2, e]
    simp [TL.joinL]
/-! ### how deep a text is -/
def dstep (s : Int × Int) (c : Nat) : Int × Int := if c = 40 then (s.1 + 1, max s.2 (s.1 + 1)) else if c = 41 then (s.1 - 1, s.2) else s
def dep (cs : List Nat) : Int := (cs.foldl dstep (0, 0)).2
theorem dstep_plain {s : Int × Int} {c : Nat} (h1 : c ≠ 40) (h2 : c ≠ 41) : dstep s c = s := by
  unfold dstep
  rw [if_neg h1, if_neg h2]
theorem dfold_word : ∀ {n : List Nat} {s : Int × Int}, (∀ c ∈ n, 97 ≤ c ∧ c ≤ 122) → n.foldl dstep s = s
  | [], _, _ => rfl
  | c :: n, s, h => by
    have hc := h c (List.mem_cons_self ..)
    rw [List.foldl_cons, dstep_plain (by omega) (by omega)]
    exact dfold_word fun x hx => h x (List.mem_cons_of_mem _ hx)
theorem dfold_T {d : Int} : ∀ {ps : List Pic} {m : Int}, d ≤ m → (∀ p ∈ ps, ∀ m, d ≤ m → p.cs.foldl dstep (d, m) = (d, max m (d + p.lev))) → (csT ps).foldl dstep (d, m) = (d, max m (d + levL ps))
  | [], m, hm, _ => by
    show (d, m) = (d, max m (d + (0 : Nat)))
    have : max m (d + ((0 : Nat) : Int)) = m := by omega
    rw [this]
  | p :: ps, m, hm, h => by
    show ((32 :: (p.cs ++ csT ps)).foldl dstep (d, m)) = _
    rw [List.foldl_cons, dstep_plain (by decide) (by decide), List.foldl_append, h p (List.mem_cons_self ..) m hm, dfold_T (by omega) fun q hq => h q (List.mem_cons_of_mem _ hq)]
    show (d, _) = (d, max m (d + ((max p.lev (levL ps) : Nat) : Int)))
    congr 1
    omega
theorem dfold_pic (p : Pic) : p.Ok → ∀ d m : Int, d ≤ m → p.cs.foldl dstep (d, m) = (d, max m (d + p.lev)) := by
  refine Pic.ind (P := fun p => p.Ok → ∀ d m : Int, d ≤ m → p.cs.foldl dstep (d, m) = (d, max m (d + p.lev))) (fun _ d m hm => ?_) (fun n ps ih ok d m hm => ?_) p
  · show ([46] : List Nat).foldl dstep (d, m) = (d, max m (d + (0 : Nat)))
    rw [List.foldl_cons, dstep_plain (by decide) (by decide)]
    show (d, m) = _
    congr 1
    omega
  · obtain ⟨w, l2, l4, oks⟩ := ok_node ok
    show (n ++ 40 :: (csJ ps ++ [41])).foldl dstep (d, m) = _
    rw [List.foldl_append, dfold_word w.2.2, List.foldl_cons]
    have e1 : dstep (d, m) 40 = (d + 1, max m (d + 1)) := rfl
    rw [e1, List.foldl_append]
    have e2 : (csJ ps).foldl dstep (d + 1, max m (d + 1)) = (d + 1, max (max m (d + 1)) (d + 1 + levL ps)) := by
      cases ps with
      | nil => simp at l2
      | cons p ps =>
        show (p.cs ++ csT ps).foldl dstep _ = _
        rw [List.foldl_append, ih p (List.mem_cons_self ..) (oks p (List.mem_cons_self ..)) _ _ (by omega), dfold_T (by omega) fun q hq m hm => ih q (List.mem_cons_of_mem _ hq) (oks q (List.mem_cons_of_mem _ hq)) _ _ hm]
        show (d + 1, _) = (d + 1, max _ (d + 1 + ((max p.lev (levL ps) : Nat) : Int)))
        congr 1
        omega
    rw [e2]
    show dstep (d + 1, _) 41 = _
    have e3 : ∀ x : Int, dstep (d + 1, x) 41 = (d + 1 - 1, x) := fun x => rfl
    rw [e3]
    show (d + 1 - 1, _) = (d, max m (d + ((1 + levL ps : Nat) : Int)))
    congr 1 <;> omega
theorem dep_pic {p : Pic} (h : p.Ok) : dep p.cs = p.lev := by
  unfold dep
  rw [dfold_pic p h 0 0 (Int.le_refl 0)]
  show max 0 (0 + (p.lev : Int)) = _
  omega
/-! ### cut at blanks outside of brackets -/
def spl : List Nat → Int → List Nat → List (List Nat) → Option (List (List Nat))
  | [], d, w, ts => if d = 0 then some (ts ++ [w]) else none
  | c :: r, d, w, ts =>
    if c = 40 then spl r (d + 1) (w ++ [c]) ts
    else if c = 41 then (if d - 1 < 0 then none else spl r (d - 1) (w ++ [c]) ts)
    else if c = 32 ∧ d = 0 then spl r d [] (ts ++ [w])
    else spl r d (w ++ [c]) ts
theorem spl_word : ∀ {n : List Nat} {r : List Nat} {d : Int} {w : List Nat} {ts : List (List Nat)}, (∀ c ∈ n, 97 ≤ c ∧ c ≤ 122) → spl (n ++ r) d w ts = spl r d (w ++ n) ts
  | [], r, d, w, ts, _ => by simp
  | c :: n, r, d, w, ts, h => by
    have hc := h c (List.mem_cons_self ..)
    show spl (c :: (n ++ r)) d w ts = _
    rw [spl, if_neg (by omega), if_neg (by omega), if_neg (by omega), spl_word fun x hx => h x (List.mem_cons_of_mem _ hx)]
    simp
theorem spl_T {d : Int} (hd : 0 < d) : ∀ {ps : List Pic} {r w : List Nat} {ts : List (List Nat)}, (∀ p ∈ ps, ∀ r w ts, spl (p.cs ++ r) d w ts = spl r d (w ++ p.cs) ts) → spl (csT ps ++ r) d w ts = spl r d (w ++ csT ps) ts
  | [], r, w, ts, _ => by simp [csT]
  | p :: ps, r, w, ts, h => by
    show spl (32 :: ((p.cs ++ csT ps) ++ r)) d w ts = spl r d (w ++ 32 :: (p.cs ++ csT ps)) ts
    rw [spl, if_neg (by decide), if_neg (by decide), if_neg (by omega), List.append_assoc, h p (List.mem_cons_self ..), spl_T hd fun q hq => h q (List.mem_cons_of_mem _ hq)]
    simp
theorem spl_pic (p : Pic) : p.Ok → ∀ (d : Int), 0 ≤ d → ∀ r w ts, spl (p.cs ++ r) d w ts = spl r d (w ++ p.cs) ts := by
  refine Pic.ind (P := fun p => p.Ok → ∀ (d : Int), 0 ≤ d → ∀ r w ts, spl (p.cs ++ r) d w ts = spl r d (w ++ p.cs) ts) (fun _ d hd r w ts => ?_) (fun n ps ih ok d hd r w ts => ?_) p
  · show spl (46 :: r) d w ts = _
    rw [spl, if_neg (by decide), if_neg (by decide), if_neg (by omega)]
    rfl
  · obtain ⟨wn, l2, l4, oks⟩ := ok_node ok
    have e0 : (Pic.node n ps).cs = n ++ 40 :: (csJ ps ++ [41]) := rfl
    rw [e0]
    have e1 : n ++ 40 :: (csJ ps ++ [41]) ++ r = n ++ (40 :: (csJ ps ++ (41 :: r))) := by simp
    rw [e1, spl_word wn.2.2, spl, if_pos rfl]
    have e2 : spl (csJ ps ++ (41 :: r)) (d + 1) (w ++ n ++ [40]) ts = spl (41 :: r) (d + 1) (w ++ n ++ [40] ++ csJ ps) ts := by
      cases ps with
      | nil => simp at l2
      | cons p ps =>
        show spl ((p.cs ++ csT ps) ++ (41 :: r)) _ _ _ = _
        rw [List.append_assoc, ih p (List.mem_cons_self ..) (oks p (List.mem_cons_self ..)) _ (by omega), spl_T (by omega) fun q hq r w ts => ih q (List.mem_cons_of_mem _ hq) (oks q (List.mem_cons_of_mem _ hq)) _ (by omega) r w ts]
        congr 1
        show _ = w ++ n ++ [40] ++ (p.cs ++ csT ps)
        simp
    rw [e2, spl, if_neg (by decide), if_pos rfl, if_neg (by omega)]
    have e3 : d + 1 - 1 = d := by omega
    rw [e3]
    congr 1
    simp
theorem spl_tops : ∀ {ps : List Pic} {p : Pic} {ts : List (List Nat)}, p.Ok → (∀ q ∈ ps, q.Ok) → spl (p.cs ++ csT ps) 0 [] ts = some (ts ++ p.cs :: ps.map Pic.cs)
  | [], p, ts, h, _ => by
    show spl (p.cs ++ []) 0 [] ts = _
    rw [spl_pic p h 0 (Int.le_refl 0)]
    show (if (0 : Int) = 0 then some (ts ++ [[] ++ p.cs]) else none) = _
    rw [if_pos rfl]
    rfl
  | q :: ps, p, ts, h, hs => by
    show spl (p.cs ++ (32 :: (q.cs ++ csT ps))) 0 [] ts = _
    rw [spl_pic p h 0 (Int.le_refl 0), spl, if_neg (by decide), if_neg (by decide), if_pos ⟨rfl, rfl⟩, spl_tops (hs q (List.mem_cons_self ..)) fun x hx => hs x (List.mem_cons_of_mem _ hx)]
    simp
theorem spl_parts {ps : List Pic} (l : 2 ≤ ps.length) (h : ∀ q ∈ ps, q.Ok) : spl (csJ ps) 0 [] [] = some (ps.map Pic.cs) := by
  cases ps with
  | nil => simp at l
  | cons p ps =>
    show spl (p.cs ++ csT ps) 0 [] [] = _
    rw [spl_tops (h p (List.mem_cons_self ..)) fun q hq => h q (List.mem_cons_of_mem _ hq)]
    rfl
/-! ### lengths and signs -/
theorem csJ_len {b : Nat} : ∀ {ps : List Pic}, (∀ p ∈ ps, p.cs.length ≤ b) → (csT ps).length ≤ ps.length * (b + 1)
  | [], _ => by simp [csT]
  | p :: ps, h => by
    have h1 := h p (List.mem_cons_self ..)
    have h2 := csJ_len fun q hq => h q (List.mem_cons_of_mem _ hq)
    show (32 :: (p.cs ++ csT ps)).length ≤ _
    rw [List.length_cons, List.length_append, List.length_cons, Nat.succ_mul]
    omega
def lenB : Nat → Nat
  | 0 => 1
  | k + 1 => 14 + 4 * lenB k
theorem lenB_mono {a b : Nat} (h : a ≤ b) : lenB a ≤ lenB b := by
  induction h with
  | refl => exact Nat.le_refl _
  | step _ ih =>
    show _ ≤ 14 + 4 * lenB _
    omega
theorem cs_len (p : Pic) : p.Ok → p.cs.length ≤ lenB p.lev := by
  refine Pic.ind (P := fun p => p.Ok → p.cs.length ≤ lenB p.lev) (fun _ => Nat.le_refl 1) (fun n ps ih ok => ?_) p
  obtain ⟨w, l2, l4, oks⟩ := ok_node ok
  have hb : ∀ p ∈ ps, p.cs.length ≤ lenB (levL ps) := fun p hp => Nat.le_trans (ih p hp (oks p hp)) (lenB_mono (lev_le hp))
  show (n ++ 40 :: (csJ ps ++ [41])).length ≤ lenB (1 + levL ps)
  rw [Nat.add_comm 1]
  show _ ≤ 14 + 4 * lenB (levL ps)
  cases ps with
  | nil => simp at l2
  | cons p ps =>
    have h1 := hb p (List.mem_cons_self ..)
    have h2 := csJ_len fun q hq => hb q (List.mem_cons_of_mem _ hq)
    have l4' : ps.length ≤ 3 := by simpa using l4
    have h3 : ps.length * (lenB (levL (p :: ps)) + 1) ≤ 3 * (lenB (levL (p :: ps)) + 1) := Nat.mul_le_mul_right _ l4'
    have := w.2.1
    show (n ++ 40 :: ((p.cs ++ csT ps) ++ [41])).length ≤ _
    simp only [List.length_append, List.length_cons, List.length_nil]
    omega
end Pc
set_option Elab.async false
set_option linter.all false
set_option autoImplicit false
set_option maxRecDepth 100000
set_option maxHeartbeats 4000000
/-! Ze: enumerate of a tuple. -/
namespace Ze
open PySem
open AutoSeq1 (wpAny_loadPart')
end Ze
namespace Ze
open PySem PySem.Spec PyProof.Rows L2
/-! ### walks in comprehensions with two fors: body is what a turn goes on to, behind it stands Nx -/
theorem walk_tup {K : PySem.W.Frag} {a : Addr} {xs : List V} {g : TG} {tt : TT} {body : L2.St → Hp → (Hp → Prop) → Prop} {vs : List Nat} {σ : L2.St} {H0 : Hp} {Qd : Hp → Prop} (Pv : Nat → Hp → Prop) (h0 : Pv 0 H0) (hl : ∀ i H, i ≤ xs.length → Pv i H → SqT K H a xs)
    (hs : ∀ i x H, xs[i]? = some x → Pv i H → g x (wipe σ vs) H fun σ2 H2 => wipe σ2 vs = wipe σ vs ∧ tt σ2 H2 fun b H3 => if b = true then body σ2 H3 (Pv (i + 1)) else Pv (i + 1) H3) (hd : ∀ H, Pv xs.length H → Qd H) :
    ∃ W : Nat → Nat → Hp → Prop, (∃ m, W 0 m H0) ∧ ∀ i m H, W i m H →
      ((Itt K a).stop i H ∧ Qd H) ∨ ((Itt K a).go i H ∧ ∃ Nx : Hp → Prop, (∀ H', Nx H' → ∃ m', m' < m ∧ W (i + 1) m' H') ∧ ∀ x H', (Itt K a).yld i H x H' → g x (wipe σ vs) H' fun σ2 H2 => wipe σ2 vs = wipe σ vs ∧ tt σ2 H2 fun b H3 => if b = true then body σ2 H3 Nx else Nx H3) := by
  refine ⟨fun i m H => m = xs.length - i ∧ i ≤ xs.length ∧ Pv i H, ⟨xs.length, by simp, Nat.zero_le _, h0⟩, ?_⟩
  rintro i m H ⟨rfl, hi, p⟩
  have q := hl i H hi p
  by_cases hlt : i < xs.length
  · refine .inr ⟨⟨xs, xs[i], q, by simp [hlt]⟩, Pv (i + 1), fun H' p' => ⟨xs.length - (i + 1), by omega, rfl, hlt, p'⟩, fun x H' y => ?_⟩
    obtain ⟨e, y⟩ := y
    subst e
    exact hs i x _ (y xs q) p
  · have e : i = xs.length := by omega
    subst e
    exact .inl ⟨⟨xs, q, Nat.le_refl _⟩, hd H p⟩
end Ze
set_option Elab.async false
set_option linter.all false
set_option autoImplicit false
set_option maxRecDepth 100000
set_option maxHeartbeats 4000000
/-! Zc: enumerate of a text. -/
namespace Zc
open PySem PySem.Spec PyProof.Rows L2
/-- the text, each sign in a new pair -/
def Ius (x : Str) : It :=
  ⟨fun i _ => i < x.cps.size, fun i H v H' => ∃ T c, v = .ref T ∧ H T = none ∧ H' = upd H T (.tup [.int (i : Nat), .str ⟨#[c]⟩]) ∧ x.cps[i]? = some c, fun i _ => x.cps.size = i⟩
theorem turn_enumS {P : Program} {w : World} {K : PySem.W.Frag} {elts : List Expr} {kk : Nat} {tpos : Pos} (e it : Addr) (x : Str) (t : Tok) (ty : String) (hty : ty = "str_ascii_iterator" ∨ ty = "str_iterator") :
    Turn P w K (.Tuple elts kk tpos) (Ius x) [e, it] e (fun i h => (∃ old, IsEnum h e it ((i : Nat) : Int) old) ∧ h.IsStrIter it ty x t i ∧ e ≠ it) where
  mem := by simp
  obj := fun i h st b hb => by
    obtain ⟨⟨old, he⟩, ⟨o, ho, hc, hd⟩, _⟩ := st
    have e' : b = e ∨ b = it := by simpa using hb
    rcases e' with z | z
    · rw [z]; exact ⟨_, he, fun v q => nomatch q⟩
    · rw [z]; exact ⟨o, ho, fun v q => by rw [hd] at q; cases q⟩
  keep := fun i h h' st k => let ⟨⟨old, he⟩, hi, hne⟩ := st; ⟨⟨old, k e (by simp) _ he⟩, (by obtain ⟨o, ho, r⟩ := hi; exact ⟨o, k it (by simp) o ho, r⟩), hne⟩
  item := by
    intro X hP hw hK hc i pins s σ H E I hf st hg
    subst hP hw hK
    obtain ⟨⟨old, he⟩, hit, hne⟩ := st
    have hel : e < s.heap.objs.size := Heap.lt_size he
    have hil : it < s.heap.objs.size := by obtain ⟨_, q, _⟩ := hit; exact Heap.lt_size q
    have D : Draws X.prog X.w X.A.in1 it [it] x.cps.size (fun i v => ∃ c u, x.cps[i]? = some c ∧ v = .str ⟨#[c]⟩ u) (fun i h => h.IsStrIter it ty x t i) := by
      rcases hty with z | z
      · rw [z]; exact Draws.strAscii (A := X.A.in1) (I.ok.hd hc) it x t
      · rw [z]; exact Draws.strWide (A := X.A.in1) (I.ok.hd hc) it x t
    refine wpAny_pyNext_enum_itemD D he hit hg hne (by simp [hne]) fun u' h' tk hP ho hit' hT hsz hk => ?_
    obtain ⟨c, u, hcx, rfl⟩ := hP
    refine ⟨_, rfl, wpAny_letOwnedTupleGo_enum (s := { s with heap := h', toks := tk + 1 }) ho fun h'' he' sb => ?_⟩
    have hT2 : h''.get? s.heap.objs.size = some { cls := .type "tuple", data := .seq #[.int i tk, .str ⟨#[c]⟩ u] } := (sb.2 _ (Nat.ne_of_gt hel)).trans hT
    have new : ObjOk X.prog X.w (upd H s.heap.objs.size (.tup [.int (i : Nat), .str ⟨#[c]⟩])) h'' s.heap.objs.size (.tup [.int (i : Nat), .str ⟨#[c]⟩]) :=
      ⟨by show 2 ≤ sizeLine; decide, [.int i tk, .str ⟨#[c]⟩ u], .cons ⟨_, rfl⟩ (.cons ⟨_, rfl⟩ .nil), ⟨_, hT2, rfl, _, rfl⟩⟩
    have I1 : Inv X pins σ (upd H s.heap.objs.size (.tup [.int (i : Nat), .str ⟨#[c]⟩])) { s with heap := h'', toks := tk + 1 } :=
      I.turnedNew (ch := [e, it]) (fun b ob hb q => (sb.2 b (fun z => hb (by simp [z]))).trans (hk b ob (fun z => hb (by simp [z])) (fun z => hb (by simp [z])) q)) hf (Nat.le_refl _) new
    refine ⟨.ref s.heap.objs.size, _, I1, rfl, ⟨_, c, rfl, I.hok.fresh (Nat.le_refl _), rfl, hcx⟩, ⟨⟨.str ⟨#[c]⟩ u, ?_⟩, (by obtain ⟨o, ho', r⟩ := hit'; exact ⟨o, (sb.2 it (Ne.symm hne)).trans ho', r⟩), hne⟩, fun b hb => ?_⟩
    · have e1 : ((i + 1 : Nat) : Int) = (i : Int) + 1 := by omega
      rw [e1]; exact he'
    · have hb' : b < s.heap.objs.size := by
        have e' : b = e ∨ b = it := by simpa using hb
        rcases e' with z | z
        · rw [z]; exact hel
        · rw [z]; exact hil
      rw [upd_ne (Nat.ne_of_lt hb')]
      exact (hf b hb).1
  done := by
    intro X hP hw hK hc i pins s σ H E I hf st hg
    subst hP hw hK
    obtain ⟨⟨old, he⟩, hit, hne⟩ := st
    obtain ⟨f0, f1, f2, f3, f4, f5⟩ := hf it (by simp)
    have D : Draws X.prog X.w X.A.in1 it [it] x.cps.size (fun i v => ∃ c u, x.cps[i]? = some c ∧ v = .str ⟨#[c]⟩ u) (fun i h => h.IsStrIter it ty x t i) := by
      rcases hty with z | z
      · rw [z]; exact Draws.strAscii (A := X.A.in1) (I.ok.hd hc) it x t
      · rw [z]; exact Draws.strWide (A := X.A.in1) (I.ok.hd hc) it x t
    have hg' : x.cps.size = i := hg
    rw [← hg'] at hit
    exact wpAny_pyNext_enum_endD D he hit fun h' eb => ⟨rfl, I.turned (t' := s.toks) (fun b o hb q => eb b o hb q) f0 f1 f3 f4 f5⟩
  self := fun A i s Q E st h => let ⟨⟨_, he⟩, _⟩ := st; wpAny_pyIter_enum he h
def iEnumS (ta : TA) : TI := fun σ H R => ta σ H fun vs H1 => ∃ x, vs = [.str x] ∧ R (Ius x) H1
theorem pi_enumS {X : Cx} {e : Expr} {ta : TA} {p pos tpos : Pos} {elts : List Expr} {kk : Nat} (hg : Gl X "enumerate") (hm : X.mg "enumerate" = none) (ha : PA X [e] ta) (hs : starEach [e] X.env = [(false, eval e X.env)] := by rfl) :
    PI X (.Tuple elts kk tpos) (.Call (.Name "enumerate" p) [e] [] pos) (iEnumS ta) := by
  refine ⟨fun pins s σ H R I h => ?_⟩
  refine Call_ (ld_blt I hg hm boot_enumerate (PyProof.Rows.callWith_type1 (thn (ha.run pos pins s σ H _ I h) fun us s1 ⟨vs, H1, I1, r1, q1⟩ => ?_) hs rfl))
  obtain ⟨x, ex, q⟩ := q1
  subst ex
  cases r1 with
  | cons r rr =>
    cases rr
    obtain ⟨t, rfl⟩ := r
    refine call_enumerate_str fun h' he hit hsz hk => wpAny_pyIter_enum he ?_
    have I2 : Inv X pins σ H1 { s1 with heap := h' } := I1.kept (t' := s1.toks) hk
    have hty : strIterType x = "str_ascii_iterator" ∨ strIterType x = "str_iterator" := by
      unfold strIterType
      cases x.cps.all (· < 128)
      · exact .inr rfl
      · exact .inl rfl
    refine ⟨s1.heap.objs.size + 1, [s1.heap.objs.size + 1, s1.heap.objs.size], _, _, H1, rfl, I2, turn_enumS (s1.heap.objs.size + 1) s1.heap.objs.size x t _ hty, ⟨⟨.none, he⟩, hit, Nat.succ_ne_self _⟩, fun b hb => ?_, q⟩
    have e' : b = s1.heap.objs.size + 1 ∨ b = s1.heap.objs.size := by simpa using hb
    have hle : s1.heap.objs.size ≤ b := by
      rcases e' with z | z
      · rw [z]; exact Nat.le_add_right _ _
      · rw [z]; exact Nat.le_refl _
    exact I1.fpOk hle (I1.hok.fresh hle)
theorem walk_enumS {x : Str} : Walk (Ius x) x.cps.size (fun _ => True) (fun i H v H' => ∃ T c, v = .ref T ∧ H T = none ∧ H' = upd H T (.tup [.int (i : Nat), .str ⟨#[c]⟩]) ∧ x.cps[i]? = some c) :=
  ⟨fun _ _ hi _ => hi, fun _ _ => rfl, fun _ _ _ _ _ _ y => y⟩
end Zc
set_option Elab.async false
set_option linter.all false
set_option autoImplicit false
set_option maxRecDepth 100000
set_option maxHeartbeats 4000000
namespace K11
open PySem PySem.Spec PyProof.Rows L2 Vb Wd Xd Xo SX Pc Zc
abbrev s_depth : Stmt := topS 40
theorem sc_depth : FnScope ["text", "depth", "deepest", "sign"] ["text"] (defScope s_depth) := ⟨rfl, rfl, rfl, by decide +kernel, rfl, by decide +kernel, by decide +kernel⟩
abbrev s_split_blanks : Stmt := topS 39
theorem sc_split_blanks : FnScope ["text", "texts", "depth", "begin", "at", "sign"] ["text"] (defScope s_split_blanks) := ⟨rfl, rfl, rfl, by decide +kernel, rfl, by decide +kernel, by decide +kernel⟩
abbrev s_split_text : Stmt := topS 38
theorem sc_split_text : FnScope ["text", "called", "_", "rest", "texts"] ["text"] (defScope s_split_text) := ⟨rfl, rfl, rfl, by decide +kernel, rfl, by decide +kernel, by decide +kernel⟩
theorem one_open (c : Nat) : ((⟨#[c]⟩ : Str) = ("(" : Str)) ↔ c = 40 := by
  have e : ("(" : Str) = ⟨#[40]⟩ := by decide +kernel
  rw [e]
  simp
theorem one_close (c : Nat) : ((⟨#[c]⟩ : Str) = (")" : Str)) ↔ c = 41 := by
  have e : (")" : Str) = ⟨#[41]⟩ := by decide +kernel
  rw [e]
  simp
theorem one_blank (c : Nat) : ((⟨#[c]⟩ : Str) = (" " : Str)) ↔ c = 32 := by
  have e : (" " : Str) = ⟨#[32]⟩ := by decide +kernel
  rw [e]
  simp
theorem openD (c : Nat) : decide (V.str ⟨#[c]⟩ = V.str "(") = decide (c = 40) := by
  exact decide_eq_decide.mpr (by rw [V.str.injEq]; exact one_open c)
theorem closeD (c : Nat) : decide (V.str ⟨#[c]⟩ = V.str ")") = decide (c = 41) := by
  exact decide_eq_decide.mpr (by rw [V.str.injEq]; exact one_close c)
theorem blankD (c : Nat) : decide (V.str ⟨#[c]⟩ = V.str " ") = decide (c = 32) := by
  exact decide_eq_decide.mpr (by rw [V.str.injEq]; exact one_blank c)
def spDepth : Sp := fun vs H Q _ => ∃ cs : List Nat, vs = [.str (S cs)] ∧ Q (.int (dep cs)) H
section
variable {P : Program} {w : World} {K : PySem.W.Frag} {mg : Str → Option Value} {base : Heap}
theorem ok_depth (D : Df K mg "_depth" s_depth ["text"]) (z_max : mg "max" = none) : Cg P w K mg base 1 "_depth" spDepth := by
  refine D.ok sc_depth (fun vs H Q E h => ?_) (fun cdv A outer s H vs Q E f0 hc hr h => ?_)
  · obtain ⟨cs, rfl, _⟩ := h
    rfl
  · obtain ⟨cs, rfl, q⟩ := h
    refine ⟨_, (pss_cons (ps_set (i := 1) sc_depth.nd rfl (Or.inl rfl) pe_int)
      (pss_cons (ps_set (i := 2) sc_depth.nd rfl (Or.inl rfl) pe_int)
      (pss_cons (ps_for PassesOwn.never rfl (pi_str (pv 0)) (pg_name (i := 3) sc_depth.nd rfl (Or.inl rfl))
      (pss_one (ps_if (pt_cmpR op_eq (pv 3) pe_str (nomark _))
      (pss_cons (ps_aug (i := 1) sc_depth.nd rfl (Or.inl rfl) pe_int ip_add)
      (pss_one (ps_set (i := 2) sc_depth.nd rfl (Or.inl rfl) (pe_callB (call_max2 rfl) (by rfl) z_max (by decide +kernel) (pa_cons (pv 2) (pa_cons (pv 1) pa_nil))))))
      (pss_one (ps_if (pt_cmpR op_eq (pv 3) pe_str (nomark _))
      (pss_one (ps_aug (i := 1) sc_depth.nd rfl (Or.inl rfl) pe_int ip_sub))
      pss_nil)))))
      (pss_one (ps_ret (pv 2)))))), ?_⟩
    refine ⟨_, rfl, S cs, rfl, for_it (walk_str (z := S cs)) (fun i σ H' => H' = H ∧ ∃ o3, σ = [some (.str (S cs)), some (.int ((cs.take i).foldl dstep (0, 0)).1), some (.int ((cs.take i).foldl dstep (0, 0)).2), o3])
      ⟨rfl, none, rfl⟩ (fun _ _ _ _ _ => trivial) (fun i x σ H' H2 hi h y => ?_) (fun σ H' h => ?_)⟩
    · obtain ⟨rfl, o3, rfl⟩ := h
      obtain ⟨rfl, c, hc', rfl⟩ := y
      have hc2 : cs[i]? = some c := by simpa using hc'
      have e : (cs.take (i + 1)).foldl dstep (0, 0) = dstep ((cs.take i).foldl dstep (0, 0)) c := by
        rw [List.take_add_one, hc2, List.foldl_append]
        rfl
      rw [e]
      generalize (cs.take i).foldl dstep (0, 0) = p
      obtain ⟨d, m⟩ := p
      refine ⟨_, rfl, rfl, _, rfl, ?_⟩
      rw [openD]
      by_cases h1 : c = 40
      · have e2 : dstep (d, m) c = (d + 1, max m (d + 1)) := by
          unfold dstep
          rw [if_pos h1]
        rw [decide_eq_true h1, e2]
        refine iteT ⟨.int d, rfl, d, 1, rfl, rfl, _, rfl, _, rfl, m, d + 1, rfl, ?_⟩
        have e3 : (if d + 1 > m then d + 1 else m) = max m (d + 1) := by
          split <;> omega
        rw [e3]
        exact ⟨rfl, some (.str ⟨#[c]⟩), rfl⟩
      · rw [decide_eq_false h1]
        refine iteF ⟨_, rfl, rfl, _, rfl, ?_⟩
        rw [closeD]
        by_cases h2 : c = 41
        · have e2 : dstep (d, m) c = (d - 1, m) := by
            unfold dstep
            rw [if_neg h1, if_pos h2]
          rw [decide_eq_true h2, e2]
          exact iteT ⟨.int d, rfl, d, 1, rfl, rfl, rfl, some (.str ⟨#[c]⟩), rfl⟩
        · rw [decide_eq_false h2, dstep_plain h1 h2]
          exact iteF ⟨rfl, some (.str ⟨#[c]⟩), rfl⟩
    · obtain ⟨rfl, o3, rfl⟩ := h
      refine ⟨_, rfl, ?_⟩
      have e : (S cs).cps.size = cs.length := by simp
      rw [e, List.take_of_length_le (Nat.le_refl _)]
      exact q
theorem cut_mid {cs : List Nat} {b i : Nat} (h2 : i ≤ cs.length) (h1 : b ≤ i) : cutS (S cs) (some (b : Int)) (some (i : Int)) = S ((cs.drop b).take (i - b)) := by
  unfold cutS
  have e : (S cs).length = cs.length := S_len cs
  rw [HT.sIx_nat, HT.sIx_nat, e, Nat.min_eq_left h2, Nat.min_eq_left (Nat.le_trans h1 h2)]
theorem cut_end {cs : List Nat} {b : Nat} (h1 : b ≤ cs.length) : cutS (S cs) (some (b : Int)) none = S (cs.drop b) := by
  unfold cutS
  have e : (S cs).length = cs.length := S_len cs
  rw [HT.sIx_nat, HT.sIx_none, e, Nat.min_eq_left h1]
  have e2 : (cs.drop b).take (cs.length - b) = cs.drop b := List.take_of_length_le (by rw [List.length_drop]; exact Nat.le_refl _)
  show S ((cs.drop b).take (cs.length - b)) = _
  rw [e2]
theorem take_word {cs : List Nat} {b i c : Nat} (hb : b ≤ i) (hc : cs[i]? = some c) : (cs.drop b).take (i + 1 - b) = (cs.drop b).take (i - b) ++ [c] := by
  have e : i + 1 - b = (i - b) + 1 := by omega
  rw [e, List.take_add_one, List.getElem?_drop]
  have e2 : b + (i - b) = i := by omega
  rw [e2, hc]
  rfl
theorem lt_no {d : Int} (h : ¬ d < 0) : V.bl (decide (d < 0)) = V.bl false := by rw [decide_eq_false h]
theorem lt_yes {d : Int} (h : d < 0) : V.bl (decide (d < 0)) = V.bl true := by rw [decide_eq_true h]
def txts (ts : List (List Nat)) : List V := ts.map fun t => V.str (S t)
theorem txts_snoc (ts : List (List Nat)) (w : List Nat) : txts (ts ++ [w]) = txts ts ++ [.str (S w)] := by simp [txts]
theorem txts_len (ts : List (List Nat)) : (txts ts).length = ts.length := by simp [txts]
def spBlanks : Sp := fun vs H Q _ => ∃ cs : List Nat, vs = [.str (S cs)] ∧ cs.length ≤ 5000 ∧ (spl cs 0 [] [] = none → ∀ H', Same H H' → Q .non H') ∧
  (∀ ts, spl cs 0 [] [] = some ts → ∀ l H', Same H H' → H l = none → H' l = some (.lst (txts ts)) → ts.length ≤ 5001 → Q (.ref l) H')
theorem ok_split_blanks (D : Df K mg "_split_blanks" s_split_blanks ["text"]) (z_enumerate : mg "enumerate" = none) : Cg P w K mg base 1 "_split_blanks" spBlanks := by
  refine D.ok sc_split_blanks (fun vs H Q E h => ?_) (fun cdv A outer s H vs Q E f0 hc hr h => ?_)
  · obtain ⟨cs, rfl, _⟩ := h
    rfl
  · obtain ⟨cs, rfl, hl, q1, q2⟩ := h
    refine ⟨_, (pss_cons (ps_set (i := 1) sc_split_blanks.nd rfl (Or.inl rfl) (pe_lst pa_nil))
      (pss_cons (ps_set (i := 2) sc_split_blanks.nd rfl (Or.inl rfl) pe_int)
      (pss_cons (ps_set (i := 3) sc_split_blanks.nd rfl (Or.inl rfl) pe_int)
      (pss_cons (ps_for PassesOwn.never rfl (pi_enumS (by rfl) z_enumerate (pa_cons (pv 0) pa_nil)) (pg_tup (by rfl) (pgs_cons (pg_name (i := 4) sc_split_blanks.nd rfl (Or.inl rfl)) (pgs_cons (pg_name (i := 5) sc_split_blanks.nd rfl (Or.inl rfl)) pgs_nil)))
      (pss_cons (ps_if (pt_cmpR op_eq (pv 5) pe_str (nomark _))
      (pss_one (ps_aug (i := 2) sc_split_blanks.nd rfl (Or.inl rfl) pe_int ip_add))
      (pss_one (ps_if (pt_cmpR op_eq (pv 5) pe_str (nomark _))
      (pss_one (ps_aug (i := 2) sc_split_blanks.nd rfl (Or.inl rfl) pe_int ip_sub))
      (pss_one (ps_if (PW.pt (pw_and (pt_cmpR op_eq (pv 5) pe_str (nomark _)) (pw_and1 (pt_cmpR op_eq (pv 2) pe_int (nomark _)))))
      (pss_cons (ps_expr (pe_bm PySem.F.plainAttrs_list PySem.F.slot_list_append PySem.F.type_list_append mt_append (pv 1) (pa_cons (pe_slice sl_str (pv 0) (po_some (pv 3)) (po_some (pv 4))) pa_nil)))
      (pss_one (ps_set (i := 3) sc_split_blanks.nd rfl (Or.inl rfl) (pe_op op_add (pv 4) pe_int))))
      pss_nil)))))
      (pss_one (ps_if (pt_cmpR op_lt (pv 2) pe_int (nomark _))
      (pss_one (ps_ret pe_non))
      pss_nil))))
      (pss_cons (ps_expr (pe_bm PySem.F.plainAttrs_list PySem.F.slot_list_append PySem.F.type_list_append mt_append (pv 1) (pa_cons (pe_slice sl_str (pv 0) (po_some (pv 3)) po_none) pa_nil)))
      (pss_one (ps_ret (pe_ifExp (pt_cmpR op_eq (pv 2) pe_int (nomark _)) (pv 1) pe_non)))))))), ?_⟩
    refine ⟨by show 0 ≤ sizeLine; decide, fun l nl => ?_⟩
    have szC : (S cs).cps.size = cs.length := by simp
    refine ⟨_, rfl, S cs, rfl, for_it (walk_enumS (x := S cs)) (fun i σ H' => ∃ (d : Int) (b : Nat) (ts : List (List Nat)) (o4 o5 : Option V), σ = [some (.str (S cs)), some (.ref l), some (.int d), some (.int b), o4, o5] ∧ 0 ≤ d ∧ b ≤ i ∧ ts.length ≤ i ∧ Same H H' ∧ H' l = some (.lst (txts ts)) ∧
        spl cs 0 [] [] = spl (cs.drop i) d ((cs.drop b).take (i - b)) ts)
      ⟨0, 0, [], none, none, rfl, Int.le_refl 0, Nat.le_refl 0, Nat.le_refl 0, same_new nl, upd_same, rfl⟩ (fun _ _ _ _ _ => trivial) (fun i x σ H1 H2 hi h y => ?_) (fun σ H' h => ?_)⟩
    · obtain ⟨d, b, ts, o4, o5, rfl, d0, bi, tl, s1, el, es⟩ := h
      obtain ⟨T, c, rfl, nT, rfl, hc'⟩ := y
      have hc2 : cs[i]? = some c := by simpa using hc'
      have il : i < cs.length := by rw [← szC]; exact hi
      have ed : cs.drop i = c :: cs.drop (i + 1) := by
        rw [List.drop_eq_getElem_cons il]
        have := List.getElem?_eq_getElem il
        rw [hc2] at this
        rw [← Option.some.inj this]
      rw [ed, spl] at es
      have sT : Same H1 (upd H1 T (.tup [.int (i : Nat), .str ⟨#[c]⟩])) := same_new nT
      have lT : l ≠ T := ne_of_none el nT
      refine ⟨T, _, rfl, .inl (.inl upd_same), rfl, _, _, rfl, _, _, rfl, rfl, ?_⟩
      have s2 := s1.trans sT
      have el2 : (upd H1 T (.tup [.int (i : Nat), .str ⟨#[c]⟩])) l = some (.lst (txts ts)) := by
        rw [upd_ne lT]
        exact el
      generalize upd H1 T (.tup [.int (i : Nat), .str ⟨#[c]⟩]) = H2 at s2 el2 ⊢
      have wd : (cs.drop b).take (i + 1 - b) = (cs.drop b).take (i - b) ++ [c] := take_word bi hc2
      refine ⟨_, rfl, rfl, _, rfl, ?_⟩
      rw [openD]
      by_cases h1 : c = 40
      · rw [decide_eq_true h1]
        rw [if_pos h1] at es
        exact iteT ⟨.int d, rfl, d, 1, rfl, rfl, _, rfl, _, _, rfl, rfl, false, lt_no (d := d + 1) (by omega), iteF ⟨d + 1, b, ts, _, _, rfl, by omega, by omega, by omega, s2, el2, by rw [es, wd]⟩⟩
      · rw [decide_eq_false h1]
        rw [if_neg h1] at es
        refine iteF ⟨_, rfl, rfl, _, rfl, ?_⟩
        rw [closeD]
        by_cases h2 : c = 41
        · rw [decide_eq_true h2]
          rw [if_pos h2] at es
          by_cases h3 : d - 1 < 0
          · rw [if_pos h3] at es
            exact iteT ⟨.int d, rfl, d, 1, rfl, rfl, _, rfl, _, _, rfl, rfl, true, lt_yes (d := d - 1) h3, iteT (q1 es _ s2)⟩
          · rw [if_neg h3] at es
            exact iteT ⟨.int d, rfl, d, 1, rfl, rfl, _, rfl, _, _, rfl, rfl, false, lt_no (d := d - 1) h3, iteF ⟨d - 1, b, ts, _, _, rfl, by omega, by omega, by omega, s2, el2, by rw [es, wd]⟩⟩
        · rw [decide_eq_false h2]
          rw [if_neg h2] at es
          refine iteF ⟨_, rfl, rfl, _, rfl, ?_⟩
          rw [blankD]
          by_cases h3 : c = 32
          · rw [decide_eq_true h3]
            refine iteT ?_
            by_cases h4 : d = 0
            · rw [if_pos ⟨h3, h4⟩] at es
              refine ⟨_, rfl, rfl, true, by rw [decide_eq_true (by rw [h4])], iteT ?_⟩
              have szl : (S cs).length ≤ sizeLine := by
                rw [S_len]
                exact Nat.le_trans hl (by decide)
              refine ⟨.ref l, rfl, .inl ⟨rfl, _, .inl (.inl el2)⟩, _, rfl, _, rfl, b, rfl, _, rfl, i, rfl, S cs, rfl, szl, l, _, _, rfl, rfl, el2, by rw [txts_len]; exact Nat.lt_of_le_of_lt (show ts.length ≤ 5000 by omega) (by decide), ?_⟩
              rw [cut_mid (by omega) bi, ← txts_snoc]
              refine ⟨_, rfl, _, _, rfl, rfl, ?_⟩
              exact ⟨_, rfl, _, _, rfl, rfl, false, lt_no (d := d) (by omega), iteF ⟨d, i + 1, _, _, _, rfl, d0, by omega, by rw [List.length_append]; simp; omega, same_put nl s2, upd_same, by rw [es]; simp⟩⟩
            · rw [if_neg fun z => h4 z.2] at es
              refine ⟨_, rfl, rfl, false, by rw [decide_eq_false (by intro z; exact h4 (V.int.inj z))], iteF ⟨_, rfl, _, _, rfl, rfl, false, lt_no (d := d) (by omega), iteF ⟨d, b, ts, _, _, rfl, by omega, by omega, by omega, s2, el2, by rw [es, wd]⟩⟩⟩
          · rw [if_neg fun z => h3 z.1] at es
            rw [decide_eq_false h3]
            exact iteF (iteF ⟨_, rfl, _, _, rfl, rfl, false, lt_no (d := d) (by omega), iteF ⟨d, b, ts, _, _, rfl, by omega, by omega, by omega, s2, el2, by rw [es, wd]⟩⟩)
    · obtain ⟨d, b, ts, o4, o5, rfl, d0, bi, tl, s1, el, es⟩ := h
      rw [szC] at bi tl es
      rw [List.drop_of_length_le (Nat.le_refl _), spl] at es
      have szl : (S cs).length ≤ sizeLine := by
        rw [S_len]
        exact Nat.le_trans hl (by decide)
      refine ⟨.ref l, rfl, .inl ⟨rfl, _, .inl (.inl el)⟩, _, rfl, _, rfl, b, rfl, S cs, rfl, szl, l, _, _, rfl, rfl, el, by rw [txts_len]; exact Nat.lt_of_le_of_lt (show ts.length ≤ 5000 by omega) (by decide), ?_⟩
      rw [cut_end bi, ← txts_snoc]
      have ew : (cs.drop b).take (cs.length - b) = cs.drop b := List.take_of_length_le (by rw [List.length_drop]; exact Nat.le_refl _)
      rw [ew] at es
      by_cases h4 : d = 0
      · rw [if_pos h4] at es
        exact ⟨_, rfl, rfl, true, by rw [decide_eq_true (by rw [h4])], iteT ⟨_, rfl, q2 _ es l _ (same_put nl s1) nl upd_same (by rw [List.length_append]; simp; omega)⟩⟩
      · rw [if_neg h4] at es
        exact ⟨_, rfl, rfl, false, by rw [decide_eq_false (by intro z; exact h4 (V.int.inj z))], iteF (q1 es _ (same_put nl s1))⟩
end
end K11
set_option Elab.async false
set_option linter.all false
set_option autoImplicit false
set_option maxRecDepth 100000
set_option maxHeartbeats 4000000
namespace K11
open PySem PySem.Spec PyProof.Rows L2 Vb Wd Xd Xo Xi Xm Xr
abbrev s_len : Stmt := inB (topS 24) 5
theorem sc_len : FnScope ["self"] ["self"] (defScope s_len) := ⟨rfl, rfl, rfl, by decide +kernel, rfl, by decide +kernel, by decide +kernel⟩
def spLenF (C : Addr) : Sp := fun vs H Q _ => ∃ (a ch : Addr) (n so : Str) (ts : List Addr) (cs : List (Str × Int)), vs = [.ref a] ∧ FormAt H C a ch n so ts cs ∧ Q (.int ts.length) H
section
variable {P : Program} {w : World} {K : PySem.W.Frag} {mg : Str → Option Value} {base : Heap} {C CN : Addr}
theorem ok_len {f : Addr} {fd : FuncData} (F : Fun K "__len__" "Form.__len__" s_len f fd) (T : FormC K C) (z_len : mg "len" = none) : FnG P w K mg base 1 f fd ["self"] (spLenF C) := by
  refine goes_by F sc_len (fun vs H Q E h => ?_) (fun cdv A outer s H vs Q E hc hr h => ?_)
  · obtain ⟨a, ch, n, so, ts, cs, rfl, _⟩ := h
    rfl
  · obtain ⟨a, ch, n, so, ts, cs, rfl, ⟨⟨dx, ha⟩, k⟩, q⟩ := h
    refine ⟨_, pss_one (ps_ret (pe_callB call_len_seq (by rfl) z_len PySem.boot_len (pa_cons (pe_fld (f := "_children") (pv 0) (by rfl)) pa_nil))), ?_⟩
    refine ⟨_, rfl, a, C, dx, _, .ref ch, rfl, ha, T.c, T.n3, by rfl, ch, _, rfl, .inr (.inl (.inl k.at_)), ?_⟩
    rw [List.length_map]
    exact q
end
end K11
set_option Elab.async false
set_option linter.all false
set_option autoImplicit false
set_option maxRecDepth 100000
set_option maxHeartbeats 4000000
/-! Gd: expressions that yield data: none, bools, ints, texts, lists, tuples of such. -/
namespace Gd
open PySem PySem.Spec PyProof.Rows L2 Vb Wd
variable {K : PySem.W.Frag}
theorem seqL_same {H H' : Hp} {a : Addr} {xs : List V} (s : Same H H') (h : SqL K H a xs) : SqL K H' a xs := s.seq h
theorem seqT_same {H H' : Hp} {a : Addr} {xs : List V} (s : Same H H') (h : SqT K H a xs) : SqT K H' a xs := by
  rcases h with (h | h) | h
  · exact .inl (.inl (s _ _ h))
  · obtain ⟨o, e⟩ := h
    exact .inl (.inr ⟨o, s _ _ e⟩)
  · exact .inr h
mutual
theorem Dp.same {H H' : Hp} (s : Same H H') : ∀ (d : PyData) (v : V), Dp K H v d → Dp K H' v d
  | .none, _, h => by cases h; exact .non
  | .bool b, _, h => by cases h; exact .bl b
  | .int i, _, h => by cases h; exact .int i
  | .str x, _, h => by cases h; exact .str x
  | .list ds, _, h => by
    cases h with
    | lst a b => exact .lst (seqL_same s a) (Dp.sameAll s ds _ b)
  | .tuple ds, _, h => by
    cases h with
    | tup a b => exact .tup (seqT_same s a) (Dp.sameAll s ds _ b)
  | .dict kvs, _, h => by cases h
theorem Dp.sameAll {H H' : Hp} (s : Same H H') : ∀ (ds : List PyData) (vs : List V), DpAll K H vs ds → DpAll K H' vs ds
  | [], _, h => by cases h; exact .nil
  | d :: ds, _, h => by
    cases h with
    | cons a b => exact .cons (Dp.same s d _ a) (Dp.sameAll s ds _ b)
end
/-- the expression yields data that reads d, now and later; all that is tracked stays -/
def GivesD (K : PySem.W.Frag) (t : TE) (σ : L2.St) (H : Hp) (d : PyData) : Prop := ∀ H1 Q, Same H H1 → (∀ v H', Same H1 H' → Dp K H' v d → Q v H') → t σ H1 Q
/-- .. a new list -/
def GivesN (K : PySem.W.Frag) (t : TE) (σ : L2.St) (H : Hp) (ds : List PyData) : Prop := ∀ H1 Q, Same H H1 → (∀ p Hb xs, Same H1 Hb → Hb p = none → DpAll K Hb xs ds → Q (.ref p) (upd Hb p (.lst xs))) → t σ H1 Q
section
variable {σ : L2.St} {H : Hp}
theorem GivesD.mono {t : TE} {d : PyData} {H0 : Hp} (g : GivesD K t σ H0 d) (s : Same H0 H) : GivesD K t σ H d := fun H1 Q s1 k => g H1 Q (s.trans s1) k
theorem GivesN.data {t : TE} {ds : List PyData} (g : GivesN K t σ H ds) : GivesD K t σ H (.list ds) := fun H1 Q s k =>
  g H1 _ s fun p Hb xs s2 np h => k (.ref p) _ (s2.trans (same_new np)) (.lst (.inl (.inl upd_same)) (Dp.sameAll (same_new np) ds xs h))
end
end Gd
set_option Elab.async false
set_option linter.all false
set_option autoImplicit false
set_option maxRecDepth 100000
set_option maxHeartbeats 4000000
namespace K11
open Gd PySem PySem.Spec PyProof.Rows L2 Vb Wd Xd Xo
abbrev s_eq : Stmt := inB (topS 24) 8
theorem sc_eq : FnScope ["self", "other"] ["self", "other"] (defScope s_eq) := ⟨rfl, rfl, rfl, by decide +kernel, rfl, by decide +kernel, by decide +kernel⟩
def kidD (c : Str × Int) : PyData := .tuple [.str c.1, .int c.2]
theorem Kids.dpAll {K : PySem.W.Frag} {H : Hp} : ∀ (ts : List Addr) (cs : List (Str × Int)), ts.length = cs.length → (∀ (i : Nat) (t : Addr) (c : Str × Int), ts[i]? = some t → cs[i]? = some c → Kid H t c.1 c.2) → DpAll K H (ts.map V.ref) (cs.map kidD)
  | [], [], _, _ => .nil
  | t :: ts, c :: cs, l, h => .cons (.tup (.inl (.inl (h 0 t c rfl rfl).at_)) (.cons (.str _) (.cons (.int _) .nil))) (Kids.dpAll ts cs (by simpa using l) fun i t' c' h1 h2 => h (i + 1) t' c' h1 h2)
theorem Kids.dp {K : PySem.W.Frag} {H : Hp} {a : Addr} {ts : List Addr} {cs : List (Str × Int)} (k : Kids H a ts cs) : Dp K H (.ref a) (.tuple (cs.map kidD)) := .tup (.inl (.inl k.at_)) (Kids.dpAll ts cs k.len k.kid)
theorem eqv_kids : ∀ cs ds : List (Str × Int), PyData.eqvAll (cs.map kidD) (ds.map kidD) = decide (cs = ds)
  | [], [] => rfl
  | [], d :: ds => by simp [PyData.eqvAll]
  | c :: cs, [] => by simp [PyData.eqvAll]
  | (n, s) :: cs, (m, t) :: ds => by
    show (PyData.eqv (.tuple [.str n, .int s]) (.tuple [.str m, .int t]) && PyData.eqvAll (cs.map kidD) (ds.map kidD)) = _
    rw [eqv_kids cs ds]
    by_cases e1 : n = m <;> by_cases e2 : s = t <;> by_cases e3 : cs = ds <;> simp [PyData.eqv, PyData.eqvAll, e1, e2, e3]
theorem kids_shaped {H : Hp} {a : Addr} {ts : List Addr} {cs : List (Str × Int)} (k : Kids H a ts cs) : SeqAt.shaped (.tuple (cs.map kidD)) = true := by
  have all : ∀ c ∈ cs, Asc c.1 := fun c hc => by
    obtain ⟨i, hi, e⟩ := List.mem_iff_getElem.mp hc
    have ti : i < ts.length := by rw [k.len]; exact hi
    exact (k.kid i ts[i] c (List.getElem?_eq_getElem ti) (by rw [List.getElem?_eq_getElem hi, e])).plain.2
  have go : ∀ l : List (Str × Int), (∀ c ∈ l, Asc c.1) → PyData.canLayAll0 (l.map kidD) = true ∧ PyData.depthAll (l.map kidD) ≤ 1 := fun l => by
    induction l with
    | nil => exact fun _ => ⟨rfl, Nat.zero_le _⟩
    | cons c l ih =>
      intro h
      obtain ⟨h1, h2⟩ := ih fun z hz => h z (List.mem_cons_of_mem _ hz)
      constructor
      · show (PyData.canLay0 (kidD c) && PyData.canLayAll0 (l.map kidD)) = true
        rw [h1, Bool.and_true]
        show (PyData.canLay0 (.str c.1) && (true && true)) = true
        rw [show PyData.canLay0 (.str c.1) = true from by
          show c.1.cps.all (· < 0x110000) = true
          rw [← Array.all_toList, List.all_eq_true]
          exact fun x hx => decide_eq_true (Nat.lt_trans (h c List.mem_cons_self x hx) (by decide))]
        rfl
      · show max (PyData.depth (kidD c)) (PyData.depthAll (l.map kidD)) ≤ 1
        have e : PyData.depth (kidD c) = 1 := rfl
        omega
  obtain ⟨h1, h2⟩ := go cs all
  show (PyData.canLay0 (.tuple (cs.map kidD)) && decide (PyData.depth (.tuple (cs.map kidD)) ≤ 64)) = true
  rw [show PyData.canLay0 (.tuple (cs.map kidD)) = true from h1, Bool.true_and]
  exact decide_eq_true (by show PyData.depthAll _ + 1 ≤ 64; omega)
/-- what of the class isinstance asks -/
structure FormI (K : PySem.W.Frag) (C : Addr) : Prop where
  ca : PySem.W.findIn K (.ref C) "__class__" = some (some (.builtin "object.__class__"))
  sp : PySem.W.specialIn K (.builtin "object.__class__") "__get__" = some (some (.builtin "getset_descriptor.__get__"))
  tk : PySem.W.takesIn K (.builtin "object.__class__") = some true
  mo : PySem.W.mroIn K C (.type "object") = some true
  yes : PySem.W.kitOne K (.ref C) (.ref C) = some true
  no : ∀ t ∈ ["str", "tuple", "list", "NoneType"], PySem.W.kitOne K (.type t) (.ref C) = some false
/-- the properties -/
structure FormP (P : Program) (w : World) (K : PySem.W.Frag) (mg : Str → Option Value) (base : Heap) (C : Addr) : Prop where
  get : ∀ x ∈ [(("called" : Str), ("_called" : Str)), ("sort_name", "_sort_name"), ("children", "_children")], ∃ (p g : Addr) (fd : FuncData), PropOf K C x.1 p g ∧ FnG P w K mg base 1 g fd ["self"] (spGet C x.2) ∧ Binds K fd ["self"] []
/-- self == other -/
def spEq (K : PySem.W.Frag) (C : Addr) : Sp := fun vs H Q _ => ∃ (a ch : Addr) (n so : Str) (ts : List Addr) (cs : List (Str × Int)) (v : V), vs = [.ref a, v] ∧ FormAt H C a ch n so ts cs ∧
  ((∃ t, t ∈ ["str", "tuple", "list", "NoneType"] ∧ TyX K H v (.type t) ∧ Q (.bl false) H) ∨
    ∃ (b ch' : Addr) (n' so' : Str) (ts' : List Addr) (cs' : List (Str × Int)), v = .ref b ∧ FormAt H C b ch' n' so' ts' cs' ∧ Q (.bl (decide (n = n') && (decide (so = so') && decide (cs = cs')))) H)
section
variable {P : Program} {w : World} {K : PySem.W.Frag} {mg : Str → Option Value} {base : Heap} {C : Addr}
theorem ok_eq {f : Addr} {fd : FuncData} (F : Fun K "__eq__" "Form.__eq__" s_eq f fd) (T : FormC K C) (TI : FormI K C) (TP : FormP P w K mg base C) (gF : mg "Form" = some (.ref C)) (z_isinstance : mg "isinstance" = none) : FnG P w K mg base 3 f fd ["self", "other"] (spEq K C) := by
  obtain ⟨p1, g1, fd1, o1, G1, b1⟩ := TP.get _ (List.mem_cons_self)
  obtain ⟨p2, g2, fd2, o2, G2, b2⟩ := TP.get ("sort_name", "_sort_name") (by simp)
  obtain ⟨p3, g3, fd3, o3, G3, b3⟩ := TP.get ("children", "_children") (by simp)
  refine goes_by F sc_eq (fun vs H Q E h => ?_) (fun cdv A outer s H vs Q E hc hr h => ?_)
  · obtain ⟨a, ch, n, so, ts, cs, v, rfl, _⟩ := h
    rfl
  · obtain ⟨a, ch, n, so, ts, cs, v, rfl, ⟨⟨dx, ha⟩, k⟩, q⟩ := h
    refine ⟨_, pss_one (ps_ret (pe_and (pe_callB call_isi (by rfl) z_isinstance (by decide +kernel) (pa_cons (pv 1) (pa_cons (pe_glob (v := .ref C) (by rfl) gF rfl) pa_nil)))
      (pe_and (pe_cmpR op_eq (pe_propG (n := "called") (pv 0) T.c o1 G1 hc hr b1) (pe_propG (n := "called") (pv 1) T.c o1 G1 hc hr b1) (nomark _))
      (pe_and (pe_cmpR op_eq (pe_propG (n := "sort_name") (pv 0) T.c o2 G2 hc hr b2) (pe_propG (n := "sort_name") (pv 1) T.c o2 G2 hc hr b2) (nomark _))
      (pe_one (pe_cmpR (op_eqD hr.units) (pe_propG (n := "children") (pv 0) T.c o3 G3 hc hr b3) (pe_propG (n := "children") (pv 1) T.c o3 G3 hc hr b3) (nomark _))))))), ?_⟩
    have le1 : ∀ {x y : Str}, decide (V.str x = V.str y) = decide (x = y) := fun {x y} => by
      by_cases e : x = y
      · rw [e, decide_eq_true rfl, decide_eq_true rfl]
      · rw [decide_eq_false e, decide_eq_false fun z => e (V.str.inj z)]
    rcases q with ⟨t, ht, ty, q⟩ | ⟨b, ch', n', so', ts', cs', rfl, ⟨⟨dx', hb⟩, k'⟩, q⟩
    · exact ⟨_, rfl, _, _, _, _, false, rfl, .own C, ty, TI.no t ht, _, rfl, iteF q⟩
    · refine ⟨_, rfl, _, _, _, _, true, rfl, .own C, .base (.ins hb T.c TI.ca TI.sp TI.tk TI.mo), TI.yes, _, rfl, iteT ?_⟩
      refine ⟨_, rfl, a, dx, _, rfl, ha, a, ch, dx, n, so, .str n, rfl, ha, by rfl, _, rfl, b, dx', _, rfl, hb, b, ch', dx', n', so', .str n', rfl, hb, by rfl, rfl, _, rfl, ?_⟩
      rw [le1]
      cases e1 : decide (n = n') with
      | false =>
        rw [e1, Bool.false_and] at q
        exact iteF q
      | true =>
        rw [e1, Bool.true_and] at q
        refine iteT ⟨_, rfl, a, dx, _, rfl, ha, a, ch, dx, n, so, .str so, rfl, ha, by rfl, _, rfl, b, dx', _, rfl, hb, b, ch', dx', n', so', .str so', rfl, hb, by rfl, rfl, _, rfl, ?_⟩
        rw [le1]
        cases e2 : decide (so = so') with
        | false =>
          rw [e2, Bool.false_and] at q
          exact iteF q
        | true =>
          rw [e2, Bool.true_and] at q
          refine iteT ⟨_, rfl, a, dx, _, rfl, ha, a, ch, dx, n, so, .ref ch, rfl, ha, by rfl, _, rfl, b, dx', _, rfl, hb, b, ch', dx', n', so', .ref ch', rfl, hb, by rfl, _, _, k.dp, k'.dp, kids_shaped k, kids_shaped k', ?_⟩
          have e3 : PyData.eqv (.tuple (cs.map kidD)) (.tuple (cs'.map kidD)) = decide (cs = cs') := by rw [← eqv_kids]; simp [PyData.eqv]
          rw [e3]
          exact q
end
end K11
set_option Elab.async false
set_option linter.all false
set_option autoImplicit false
set_option maxRecDepth 100000
set_option maxHeartbeats 4000000
namespace K11
open PySem PySem.Spec PyProof.Rows L2 Vb Wd
def rTup (K : PySem.W.Frag) : List V → Hp → VK → Prop := fun xs H Q => ∃ p ys, xs = [.ref p] ∧ ((SqL K H p ys ∧ ∀ l, H l = none → Q (.ref l) (upd H l (.tup ys))) ∨ (SqT K H p ys ∧ Q (.ref p) H))
theorem cr_tuple {X : Cx} : CallR X (.type "tuple") (rTup X.K) := call_tuple_of
end K11
set_option Elab.async false
set_option linter.all false
set_option autoImplicit false
set_option maxRecDepth 100000
set_option maxHeartbeats 4000000
namespace K11
open PySem PySem.Spec PyProof.Rows L2 Vb Wd
theorem nam_len {z : Str} (h : isNam (.str z) = true) : 1 ≤ z.length ∧ z.length ≤ 8 ∧ z.cps.toList.all low = true := by
  rw [isNam_str] at h
  simp only [Bool.and_eq_true, decide_eq_true_eq] at h
  exact ⟨h.1.1, h.1.2, h.2⟩
end K11
set_option Elab.async false
set_option linter.all false
set_option autoImplicit false
set_option maxRecDepth 100000
set_option maxHeartbeats 4000000
namespace K11
open PySem PySem.Spec PyProof.Rows L2 Vb Wd Xd Xo SX Pc Zc
abbrev s_top_of : Stmt := topS 41
theorem sc_top_of : FnScope ["text", "top"] ["text"] (defScope s_top_of) := ⟨rfl, rfl, rfl, by decide +kernel, rfl, by decide +kernel, by decide +kernel⟩
theorem low_iff (c : Nat) : low c = true ↔ 97 ≤ c ∧ c ≤ 122 := by
  unfold low
  simp
theorem word_nam {n : List Nat} (h : word n) : isNam (.str (S n)) = true := by
  rw [isNam_str, S_len]
  simp only [Bool.and_eq_true, decide_eq_true_eq]
  exact ⟨⟨h.1, h.2.1⟩, List.all_eq_true.mpr fun c hc => (low_iff c).mpr (h.2.2 c hc)⟩
theorem nam_word {n : List Nat} (h : isNam (.str (S n)) = true) : word n := by
  obtain ⟨a, b, c⟩ := nam_len h
  rw [S_len] at a b
  exact ⟨a, b, fun x hx => (low_iff x).mp (List.all_eq_true.mp c x hx)⟩
theorem word_asc {n : List Nat} (h : word n) : (S n).length ≤ 1000 ∧ Asc (S n) :=
  ⟨by rw [S_len]; have := h.2.1; omega, fun c hc => by have := h.2.2 c hc; omega⟩
theorem open_S : ("(" : Str) = S [40] := by decide +kernel
theorem close_S : (")" : Str) = S [41] := by decide +kernel
theorem ends_close (a : List Nat) : Txt.endswith (S (a ++ [41])) ")" = true := by
  rw [close_S]
  unfold Txt.endswith
  rw [Bool.and_eq_true, decide_eq_true_eq]
  have l1 : (S [41]).length = 1 := rfl
  have l2 : (S (a ++ [41])).length = a.length + 1 := by rw [S_len]; simp
  rw [l1, l2]
  refine ⟨by omega, ?_⟩
  refine ((StrLaws.subAt_one _ 41 _).mpr ?_).2
  show (a ++ [41])[a.length + 1 - 1]? = some 41
  simp
theorem part_node {n ps} (w : word n) : Txt.partition (S (Pic.node n ps).cs) ("(" : Str) = (S n, ("(" : Str), S (csJ ps ++ [41])) := by
  rw [open_S]
  refine partition_some (by simp) ?_
  have := par_head (c := 40) (sep := []) (p := n) (csJ ps ++ [41]) (fun h => by have := w.2.2 40 h; omega)
  exact this
theorem but_close (a : List Nat) : cutS (S (a ++ [41])) none (some (-1)) = S a := by
  rw [C8.cutS_slice]
  exact butlast_snoc a 41
def spSplit : Sp := fun vs H Q _ => ∃ (n : List Nat) (ps : List Pic), vs = [.str (S (Pic.node n ps).cs)] ∧ (Pic.node n ps).Ok ∧ (Pic.node n ps).cs.length ≤ 5000 ∧
  ∀ t l H', Same H H' → H' t = some (.tup [.str (S n), .ref l]) → H' l = some (.lst (txts (ps.map Pic.cs))) → Q (.ref t) H'
def calledV : Pic → V
  | .hole => .non
  | .node n _ => .str (S n)
def spTop : Sp := fun vs H Q _ => ∃ p : Pic, vs = [.str (S p.cs)] ∧ p.Ok ∧ p.cs.length ≤ 5000 ∧
  ∀ t l H', Same H H' → H' t = some (.tup [calledV p, .ref l]) → H' l = some (.lst (txts (p.parts.map Pic.cs))) → Q (.ref t) H'
section
variable {P : Program} {w : World} {K : PySem.W.Frag} {mg : Str → Option Value} {base : Heap}
theorem ok_split_text (D : Df K mg "split_text" s_split_text ["text"]) (G_split_blanks : Cg P w K mg base 1 "_split_blanks" spBlanks) : Cg P w K mg base 2 "split_text" spSplit := by
  refine D.ok sc_split_text (fun vs H Q E h => ?_) (fun cdv A outer s H vs Q E f0 hc hr h => ?_)
  · obtain ⟨n, ps, rfl, _⟩ := h
    rfl
  · obtain ⟨n, ps, rfl, ok, hl, q⟩ := h
    obtain ⟨wn, l2, l4, oks⟩ := ok_node ok
    refine ⟨_, (pss_cons (ps_asg (pe_partition (pv 0) pe_str) (pg_tup (by rfl) (pgs_cons (pg_name (i := 1) sc_split_text.nd rfl (Or.inl rfl)) (pgs_cons (pg_name (i := 2) sc_split_text.nd rfl (Or.inl rfl)) (pgs_cons (pg_name (i := 3) sc_split_text.nd rfl (Or.inl rfl)) pgs_nil)))))
      (pss_cons (ps_if (pt_not (pt_val (pe_m1 PySem.F.slot_str_endswith PySem.F.type_str_endswith mt_endswith (pv 3) pe_str)))
      (pss_one (ps_ret pe_non))
      pss_nil)
      (pss_cons (ps_set (i := 4) sc_split_text.nd rfl (Or.inl rfl) (pe_cg G_split_blanks hc hr (by rfl) (pa_cons (pe_slice sl_str (pv 3) po_none (po_some (pe_un un_neg pe_int))) pa_nil)))
      (pss_one (ps_ret (pe_ifExp (pt_cmpR op_isN (pv 4) pe_non (nomark _)) pe_non (pe_tup (pa_cons (pv 1) (pa_cons (pv 4) pa_nil))))))))), ?_⟩
    have szl : (S (Pic.node n ps).cs).length ≤ sizeLine := by
      rw [S_len]
      exact Nat.le_trans hl (by decide)
    refine ⟨_, rfl, ⟨_, rfl⟩, _, _, rfl, rfl, by decide +kernel, szl, fun p np => ?_⟩
    rw [part_node wn]
    refine ⟨p, _, rfl, .inl (.inl upd_same), rfl, _, _, rfl, _, _, rfl, _, _, rfl, rfl, ?_⟩
    refine ⟨_, rfl, ⟨_, rfl⟩, _, _, rfl, rfl, true, by rw [ends_close], iteF ?_⟩
    have s1 : Same H (upd H p (.tup [.str (S n), .str "(", .str (S (csJ ps ++ [41]))])) := same_new np
    generalize upd H p (.tup [.str (S n), .str "(", .str (S (csJ ps ++ [41]))]) = H1 at s1 ⊢
    have lq : (csJ ps).length ≤ 5000 := by
      have : (Pic.node n ps).cs = n ++ 40 :: (csJ ps ++ [41]) := rfl
      rw [this] at hl
      simp only [List.length_append, List.length_cons] at hl
      omega
    refine ⟨_, rfl, 1, rfl, _, rfl, S (csJ ps ++ [41]), rfl, by rw [S_len]; exact Nat.le_trans (show _ ≤ 5001 by rw [List.length_append]; simp; omega) (by decide), csJ ps, ?_⟩
    rw [but_close]
    refine ⟨rfl, lq, fun z => ?_, fun ts ets l H2 s2 nl el tl => ?_⟩
    · rw [spl_parts l2 oks] at z
      cases z
    rw [spl_parts l2 oks] at ets
    cases ets
    refine ⟨_, rfl, rfl, false, rfl, iteF ⟨_, rfl, _, rfl, by show 2 ≤ sizeLine; decide, fun t nt => ?_⟩⟩
    have s3 := same_new (o := .tup [.str (S n), .ref l]) nt
    exact q t l _ ((s1.trans s2).trans s3) upd_same (s3 _ _ el)
theorem ok_top_of {t1 t2 : Tok} (D : Df K mg "_top_of" s_top_of ["text"]) (G_split_text : Cg P w K mg base 2 "split_text" spSplit) (G_is_name : Cg P w K mg base 1 "is_name" (spOf isNam)) (c_HOLE : mg "HOLE" = some (.str "." t1)) (c_MAX_CHILDREN : mg "MAX_CHILDREN" = some (.int 4 t2)) (z_len : mg "len" = none) : Cg P w K mg base 3 "_top_of" spTop := by
  refine D.ok sc_top_of (fun vs H Q E h => ?_) (fun cdv A outer s H vs Q E f0 hc hr h => ?_)
  · obtain ⟨p, rfl, _⟩ := h
    rfl
  · obtain ⟨p, rfl, ok, hl, q⟩ := h
    refine ⟨_, (pss_cons (ps_if (pt_cmpR op_eq (pv 0) (pe_glob (v := .str ".") rfl c_HOLE ⟨_, rfl⟩) (nomark _))
      (pss_one (ps_ret (pe_tup (pa_cons pe_non (pa_cons (pe_lst pa_nil) pa_nil)))))
      pss_nil)
      (pss_cons (ps_set (i := 1) sc_top_of.nd rfl (Or.inl rfl) (pe_cg G_split_text hc hr (by rfl) (pa_cons (pv 0) pa_nil)))
      (pss_cons (ps_if (PW.pt (pw_or (pt_cmpR op_isN (pv 1) pe_non (nomark _)) (pw_or (pt_not (pt_val (pe_cg G_is_name hc hr (by rfl) (pa_cons (pe_ix (ix_tup : IxR _ (rIxT K)) (pv 1) pe_int (fun _ _ => rfl)) pa_nil)))) (pw_or1 (pt_not (pt_chain op_le op_le pe_int (pe_callB call_len_seq (by rfl) z_len PySem.boot_len (pa_cons (pe_ix (ix_tup : IxR _ (rIxT K)) (pv 1) pe_int (fun _ _ => rfl)) pa_nil)) (pe_glob (v := .int 4) rfl c_MAX_CHILDREN ⟨_, rfl⟩)))))))
      pss_never
      pss_nil)
      (pss_one (ps_ret (pv 1)))))), ?_⟩
    refine ⟨_, rfl, rfl, _, rfl, ?_⟩
    cases p with
    | hole =>
      rw [show decide (V.str (S Pic.hole.cs) = V.str ".") = true from by decide +kernel]
      refine iteT ⟨by show 0 ≤ sizeLine; decide, fun l nl => ⟨by show 2 ≤ sizeLine; decide, fun t nt => ?_⟩⟩
      have s1 := same_new (o := .lst []) nl
      have s2 := same_new (o := .tup [.non, .ref l]) nt
      exact q t l _ (s1.trans s2) upd_same (s2 _ _ upd_same)
    | node n ps =>
      obtain ⟨wn, l2, l4, oks⟩ := ok_node ok
      rw [show decide (V.str (S (Pic.node n ps).cs) = V.str ".") = false from decide_eq_false (fun z => by
        have e := V.str.inj z
        have e2 : ("." : Str) = S [46] := by decide +kernel
        rw [e2] at e
        have e3 := congrArg List.length (S_inj e)
        have e4 : (Pic.node n ps).cs = n ++ 40 :: (csJ ps ++ [41]) := rfl
        rw [e4] at e3
        simp only [List.length_append, List.length_cons, List.length_nil] at e3
        omega)]
      refine iteF ⟨_, rfl, n, ps, rfl, ok, hl, fun t l H1 s1 et el => ?_⟩
      refine ⟨_, rfl, rfl, false, rfl, iteF ⟨_, rfl, t, _, 0, _, rfl, rfl, .inl (.inl et), rfl, .str (S n), rfl, word_asc wn, fun H2 s2 => ⟨_, rfl, ?_⟩⟩⟩
      rw [word_nam wn]
      have le : (txts (ps.map Pic.cs)).length = ps.length := by rw [txts_len, List.length_map]
      refine iteF ⟨_, rfl, t, _, 1, _, rfl, rfl, .inl (.inl (s2 _ _ et)), rfl, l, _, rfl, .inl (.inl (.inl (s2 _ _ el))), 2, _, rfl, rfl, true, ?_, iteT ⟨_, _, rfl, rfl, true, ?_, iteF ⟨_, rfl, q t l _ (s1.trans s2) (s2 _ _ et) (s2 _ _ el)⟩⟩⟩
      · rw [le]
        show V.bl (decide ((2 : Int) ≤ (ps.length : Int))) = _
        rw [decide_eq_true (by omega)]
      · rw [le]
        show V.bl (decide ((ps.length : Int) ≤ 4)) = _
        rw [decide_eq_true (by omega)]
end
end K11
set_option Elab.async false
set_option linter.all false
set_option autoImplicit false
set_option maxRecDepth 100000
set_option maxHeartbeats 4000000
namespace K11
open PySem PySem.Spec PyProof.Rows L2 Vb Wd Xd Xo
/-- what the written part tells of the class Scheme -/
structure SchemeC (K : PySem.W.Frag) (C : Addr) : Prop where
  c : Cls K C
  n : ∀ f ∈ ["_bare", "_tops", "_by_name", "_names", "_forms", "_sorts"], NoAttr K C f
/-- a getter: the field f -/
def spFld (C : Addr) (f : Str) : Sp := fun vs H Q _ => ∃ (a dx : Addr) (fs : List (Str × V)) (v : V), vs = [.ref a] ∧ H a = some (.ins C dx fs) ∧ fs.lookup f = some v ∧ Q v H
abbrev s_S_bare : Stmt := inB (topS 25) 2
theorem sc_S_bare : FnScope ["self"] ["self"] (defScope s_S_bare) := ⟨rfl, rfl, rfl, by decide +kernel, rfl, by decide +kernel, by decide +kernel⟩
abbrev s_S_tops : Stmt := inB (topS 25) 3
theorem sc_S_tops : FnScope ["self"] ["self"] (defScope s_S_tops) := ⟨rfl, rfl, rfl, by decide +kernel, rfl, by decide +kernel, by decide +kernel⟩
abbrev s_S_forms : Stmt := inB (topS 25) 4
theorem sc_S_forms : FnScope ["self"] ["self"] (defScope s_S_forms) := ⟨rfl, rfl, rfl, by decide +kernel, rfl, by decide +kernel, by decide +kernel⟩
abbrev s_S_names : Stmt := inB (topS 25) 5
theorem sc_S_names : FnScope ["self"] ["self"] (defScope s_S_names) := ⟨rfl, rfl, rfl, by decide +kernel, rfl, by decide +kernel, by decide +kernel⟩
abbrev s_S_sorts : Stmt := inB (topS 25) 6
theorem sc_S_sorts : FnScope ["self"] ["self"] (defScope s_S_sorts) := ⟨rfl, rfl, rfl, by decide +kernel, rfl, by decide +kernel, by decide +kernel⟩
section
variable {P : Program} {w : World} {K : PySem.W.Frag} {mg : Str → Option Value} {base : Heap} {C : Addr}
theorem ok_S_bare {f : Addr} {fd : FuncData} (F : Fun K "bare" "Scheme.bare" s_S_bare f fd) (T : SchemeC K C) : FnG P w K mg base 1 f fd ["self"] (spFld C "_bare") := by
  refine goes_by F sc_S_bare (fun vs H Q E h => ?_) (fun cdv A outer s H vs Q E hc hr h => ?_)
  · obtain ⟨a, dx, fs, v, rfl, _⟩ := h
    rfl
  · obtain ⟨a, dx, fs, v, rfl, ha, hv, q⟩ := h
    exact ⟨_, pss_one (ps_ret (pe_fld (f := "_bare") (pv 0) (by rfl))), _, rfl, a, C, dx, fs, v, rfl, ha, T.c, T.n _ (by simp), hv, q⟩
theorem ok_S_tops {f : Addr} {fd : FuncData} (F : Fun K "tops" "Scheme.tops" s_S_tops f fd) (T : SchemeC K C) : FnG P w K mg base 1 f fd ["self"] (spFld C "_tops") := by
  refine goes_by F sc_S_tops (fun vs H Q E h => ?_) (fun cdv A outer s H vs Q E hc hr h => ?_)
  · obtain ⟨a, dx, fs, v, rfl, _⟩ := h
    rfl
  · obtain ⟨a, dx, fs, v, rfl, ha, hv, q⟩ := h
    exact ⟨_, pss_one (ps_ret (pe_fld (f := "_tops") (pv 0) (by rfl))), _, rfl, a, C, dx, fs, v, rfl, ha, T.c, T.n _ (by simp), hv, q⟩
theorem ok_S_forms {f : Addr} {fd : FuncData} (F : Fun K "forms" "Scheme.forms" s_S_forms f fd) (T : SchemeC K C) : FnG P w K mg base 1 f fd ["self"] (spFld C "_forms") := by
  refine goes_by F sc_S_forms (fun vs H Q E h => ?_) (fun cdv A outer s H vs Q E hc hr h => ?_)
  · obtain ⟨a, dx, fs, v, rfl, _⟩ := h
    rfl
  · obtain ⟨a, dx, fs, v, rfl, ha, hv, q⟩ := h
    exact ⟨_, pss_one (ps_ret (pe_fld (f := "_forms") (pv 0) (by rfl))), _, rfl, a, C, dx, fs, v, rfl, ha, T.c, T.n _ (by simp), hv, q⟩
theorem ok_S_names {f : Addr} {fd : FuncData} (F : Fun K "names" "Scheme.names" s_S_names f fd) (T : SchemeC K C) : FnG P w K mg base 1 f fd ["self"] (spFld C "_names") := by
  refine goes_by F sc_S_names (fun vs H Q E h => ?_) (fun cdv A outer s H vs Q E hc hr h => ?_)
  · obtain ⟨a, dx, fs, v, rfl, _⟩ := h
    rfl
  · obtain ⟨a, dx, fs, v, rfl, ha, hv, q⟩ := h
    exact ⟨_, pss_one (ps_ret (pe_fld (f := "_names") (pv 0) (by rfl))), _, rfl, a, C, dx, fs, v, rfl, ha, T.c, T.n _ (by simp), hv, q⟩
theorem ok_S_sorts {f : Addr} {fd : FuncData} (F : Fun K "sorts" "Scheme.sorts" s_S_sorts f fd) (T : SchemeC K C) : FnG P w K mg base 1 f fd ["self"] (spFld C "_sorts") := by
  refine goes_by F sc_S_sorts (fun vs H Q E h => ?_) (fun cdv A outer s H vs Q E hc hr h => ?_)
  · obtain ⟨a, dx, fs, v, rfl, _⟩ := h
    rfl
  · obtain ⟨a, dx, fs, v, rfl, ha, hv, q⟩ := h
    exact ⟨_, pss_one (ps_ret (pe_fld (f := "_sorts") (pv 0) (by rfl))), _, rfl, a, C, dx, fs, v, rfl, ha, T.c, T.n _ (by simp), hv, q⟩
end
end K11
set_option Elab.async false
set_option linter.all false
set_option autoImplicit false
set_option maxRecDepth 100000
set_option maxHeartbeats 4000000
namespace K11
open PySem PySem.Spec PyProof.Rows L2 Vb Wd Xd Xo StX
theorem empty_app (x : Str) : Str.empty ++ x = x := by
  apply PySem.Str.ext'
  show (#[] : Array Nat) ++ x.cps = x.cps
  simp
theorem Kids.get {H : Hp} {a : Addr} {ts : List Addr} {cs : List (Str × Int)} (k : Kids H a ts cs) {i : Nat} {t : Addr} (h : ts[i]? = some t) : ∃ c, cs[i]? = some c ∧ Kid H t c.1 c.2 := by
  have il : i < cs.length := by rw [← k.len]; exact (List.getElem?_eq_some_iff.mp h).1
  exact ⟨cs[i], List.getElem?_eq_getElem il, k.kid i t cs[i] h (List.getElem?_eq_getElem il)⟩
theorem words_sum : ∀ (l : List Str) (m : Nat), (∀ y ∈ l, y.length ≤ m) → (l.map (·.length)).sum ≤ l.length * m
  | [], m, _ => Nat.zero_le _
  | y :: l, m, h => by
    have h1 := words_sum l m fun z hz => h z (List.mem_cons_of_mem _ hz)
    have h2 := h y List.mem_cons_self
    rw [List.map_cons, List.sum_cons, List.length_cons, Nat.succ_mul]
    omega
end K11
set_option Elab.async false
set_option linter.all false
set_option autoImplicit false
set_option maxRecDepth 100000
set_option maxHeartbeats 4000000
/-! Ts: sets of texts that are made of a list or a tuple, and sorted at once. -/
namespace Ts
open PySem PySem.Spec PyProof.Rows L2 Vb
section
variable {P : Program} {w : World}
/-- two members are unlike -/
def Unlike (P : Program) (w : World) (e e' : Int × Value) : Prop := ∀ k, (PySem.strKind P w).is k e.2 = true → (PySem.strKind P w).is k e'.2 = false
theorem Unlike.symm {e e' : Int × Value} (h : Unlike P w e e') : Unlike P w e' e := fun k hk => by
  cases q : (PySem.strKind P w).is k e.2 with
  | false => rfl
  | true => rw [h k q] at hk; cases hk
/-- a table whose members are just the texts of S, each once, and that can be walked -/
structure Good (P : Program) (w : World) (S : Str → Bool) (es : Array (Int × Value)) (t : SetTable) : Prop where
  el : ElemsOf (PySem.strKind P w) es.toList
  ap : es.toList.Pairwise (Unlike P w)
  mem : ∀ k, S k = true ↔ ∃ e ∈ es.toList, (PySem.strKind P w).is k e.2 = true
  few : es.size < scanBound
  fit : t.fits es.size = true
  ris : Ris t.place.toList
  led : w.params.followText "set-order" = true ∨ t.led = true
theorem size_perm {es es' : Array (Int × Value)} (p : es'.toList.Perm es.toList) : es'.size = es.size := by
  have := p.length_eq
  simpa using this
theorem Good.perm {S : Str → Bool} {es es' : Array (Int × Value)} {t t' : SetTable} (G : Good P w S es t) (p : es'.toList.Perm es.toList) (f : t'.fits es'.size = true) (r : Ris t'.place.toList) (l : t'.led = t.led) : Good P w S es' t' where
  el := G.el.perm p
  ap := (p.pairwise_iff fun h => h.symm).mpr G.ap
  mem := fun k => (G.mem k).trans ⟨fun ⟨e, he, q⟩ => ⟨e, p.mem_iff.mpr he, q⟩, fun ⟨e, he, q⟩ => ⟨e, p.mem_iff.mp he, q⟩⟩
  few := size_perm p ▸ G.few
  fit := f
  ris := r
  led := l ▸ G.led
theorem Good.relay {S : Str → Bool} {es : Array (Int × Value)} {t : SetTable} (G : Good P w S es t) (m : Nat) : Good P w S (relayAll t es m).1 (relayAll t es m).2.1 ∧ (relayAll t es m).1.size = es.size :=
  ⟨G.perm (relayAll_perm t es m) (relayAll_fits t es m) (relayAll_ris t es m) (relayAll_led t es m), size_perm (relayAll_perm t es m)⟩
theorem Good.plain {S : Str → Bool} {es : Array (Int × Value)} {t : SetTable} (G : Good P w S es t) : Good P w S es { t with plain := false } := ⟨G.el, G.ap, G.mem, G.few, SetTable.fits_plain_off G.fit, G.ris, G.led⟩
theorem Good.lay {S : Str → Bool} {es : Array (Int × Value)} {t : SetTable} (G : Good P w S es t) (k : Str) (tk : Tok) (new : ∀ e ∈ es.toList, (PySem.strKind P w).is k e.2 = false) (room : es.size + 1 < scanBound) :
    Good P w (fun j => S j || decide (j = k)) (layNew t es ((PySem.strKind P w).hash k) (.str k tk)).1 (layNew t es ((PySem.strKind P w).hash k) (.str k tk)).2.1 ∧ (layNew t es ((PySem.strKind P w).hash k) (.str k tk)).1.size = es.size + 1 := by
  have isk : (PySem.strKind P w).is k (.str k tk) = true := by simp [PySem.strKind, Value.isStrOf]
  have p := layNew_perm t es ((PySem.strKind P w).hash k) (.str k tk)
  rw [Array.toList_push] at p
  have sz : (layNew t es ((PySem.strKind P w).hash k) (.str k tk)).1.size = es.size + 1 := by
    have := p.length_eq
    simpa using this
  refine ⟨⟨(G.el.push isk rfl).perm p, (p.pairwise_iff fun h => h.symm).mpr (List.pairwise_append.mpr ⟨G.ap, List.pairwise_singleton _ _, fun e he e' he' j hj => ?_⟩), fun j => mem_push_iff isk G.mem p j, by rw [sz]; exact room, layNew_fits _ _ _ _, layNew_ris _ _ _ _ G.ris, G.led.imp id fun z => (layNew_led _ _ _ _).trans z⟩, sz⟩
  rw [List.mem_singleton.mp he']
  cases q : (PySem.strKind P w).is j (Value.str k tk) with
  | false => rfl
  | true =>
    have : j = k := (PySem.strKind P w).inj _ j k q isk
    subst this
    rw [new e he] at hj
    cases hj
/-- the set at a -/
def TxtSet (P : Program) (w : World) (h : Heap) (a : Addr) (S : Str → Bool) (n : Nat) : Prop := ∃ o es ep t, h.get? a = some o ∧ o.ExactSet ∧ o.data = .set es ep t ∧ Good P w S es t ∧ es.size = n
theorem TxtSet.at {h h' : Heap} {a : Addr} {S : Str → Bool} {n : Nat} (T : TxtSet P w h a S n) (k : ∀ o, h.get? a = some o → h'.get? a = some o) : TxtSet P w h' a S n := by
  obtain ⟨o, es, ep, t, e, r⟩ := T
  exact ⟨o, es, ep, t, k o e, r⟩
variable {A : Around} {E : Value → Shared → Prop} {s : Shared} {a : Addr} {S : Str → Bool} {n : Nat}
theorem put_tail {g : Bool → Sem Unit} (hg : ∀ (b : Bool) (s₁ : Shared) (Q' : Unit → Shared → Prop), Q' () s₁ → wpAny (model P w) A (g b) Q' E s₁) {o : Obj} {es es1 : Array (Int × Value)} {ep : Nat} {t t1 : SetTable} (ho : s.heap.get? a = some o) (ex : o.ExactSet)
    (hd : o.data = .set es ep t) (G : Good P w S es1 t1) {was : Bool} {R : Option Bool → Shared → Prop} (hR : ∀ h', Heap.SameBut a s.heap h' → TxtSet P w h' a S es1.size → R (some true) { s with heap := h' }) :
    wpAny (model P w) A (do
        storeSet a es1 t1
        if (!was && t1.tooFull) = true then do
            g (relayAll t1 es1 (SetTable.grown es1.size)).2.2
            storeSet a (relayAll t1 es1 (SetTable.grown es1.size)).1 (relayAll t1 es1 (SetTable.grown es1.size)).2.1
            pure (some true)
          else pure (some true)) R E s := by
  have st1 := store_at (es' := es1) (t' := t1) ho hd
  have sb := Heap.SameBut.update s.heap a (Obj.putSet es1 t1)
  refine wpAny_bind (wpAny_storeSet_of ho hd ?_ (fits_of_scanBound G.few))
  by_cases c : (!was && t1.tooFull) = true
  · rw [if_pos c]
    obtain ⟨G2, z⟩ := G.relay (SetTable.grown es1.size)
    refine wpAny_bind (hg _ _ _ (wpAny_bind (wpAny_storeSet_of st1 rfl ?_ (fits_of_scanBound G2.few))))
    exact wpAny_pure (hR _ (sb.trans (Heap.SameBut.update _ a _)) ⟨_, _, _, _, store_at st1 rfl, ex, rfl, G2, z⟩)
  · rw [if_neg c]
    exact wpAny_pure (hR _ sb ⟨_, _, _, _, st1, ex, rfl, G, rfl⟩)
/-- one text more -/
theorem put_text {k : Str} {tk : Tok} {Q : Bool → Shared → Prop} (T : TxtSet P w s.heap a S n) (room : n + 1 < scanBound)
    (hQ : ∀ (b : Bool) h', Heap.SameBut a s.heap h' → TxtSet P w h' a (fun j => S j || decide (j = k)) (if S k = true then n else n + 1) → Q b { s with heap := h' }) : wpAny (model P w) A (setAddHashed a (.str k tk) ((PySem.strKind P w).hash k)) Q E s := by
  obtain ⟨o, es, ep, t, ho, ex, hd, G, hn⟩ := T
  have isk : (PySem.strKind P w).is k (.str k tk) = true := by simp [PySem.strKind, Value.isStrOf]
  have sc : (Value.str k tk).scannable = true := rfl
  unfold setAddHashed setAddHashedIn
  refine wpAny_holding (wpAny_bind (wpAny_setState_of ho hd G.fit ?_))
  dsimp only
  rw [byScan_of sc G.few G.el]
  simp only [↓reduceIte]
  unfold setAddByScan
  refine wpAny_bind (wpAny_bind (wpAny_rule (wpAny_bind (wpAny_setScan_of isk ho hd G.fit G.el ?_))))
  cases f : List.findIdx? (fun e => (PySem.strKind P w).is k e.2) es.toList with
  | some j =>
    obtain ⟨hj, pj, _⟩ := List.findIdx?_eq_some_iff_getElem.mp f
    have there : S k = true := (G.mem k).mpr ⟨_, List.getElem_mem hj, pj⟩
    have same : (fun j => S j || decide (j = k)) = S := funext fun i => by
      by_cases e : i = k
      · rw [e, there]; rfl
      · rw [decide_eq_false e, Bool.or_false]
    have q := hQ false s.heap (Heap.SameBut.refl a s.heap) ⟨o, es, ep, t, ho, ex, hd, same.symm ▸ G, by rw [if_pos there]; exact hn⟩
    exact wpAny_pure (wpAny_pure q)
  | none =>
    have new : ∀ e ∈ es.toList, (PySem.strKind P w).is k e.2 = false := fun e he => by simpa using List.findIdx?_eq_none_iff.mp f e he
    have gone : ¬ S k = true := fun z => by
      obtain ⟨e, he, q⟩ := (G.mem k).mp z
      rw [new e he] at q
      cases q
    have way : ∀ (b : Bool) (s₁ : Shared) (Q' : Unit → Shared → Prop), Q' () s₁ → wpAny (model P w) A (match b with | true => rule "set.scan.the-table-gave-way" | false => pure ()) Q' E s₁ := fun b s₁ Q' q => by
      cases b
      · exact wpAny_pure q
      · exact wpAny_rule q
    obtain ⟨G1, z1⟩ := G.lay k tk new (by omega)
    generalize layNew t es ((PySem.strKind P w).hash k) (.str k tk) = Z at G1 z1
    obtain ⟨es1, t1, was, gave⟩ := Z
    have last : ∀ h', Heap.SameBut a s.heap h' → TxtSet P w h' a (fun j => S j || decide (j = k)) es1.size → Q true { s with heap := h' } := fun h' sb r => by
      refine hQ true h' sb ?_
      rw [if_neg gone, ← hn]
      have z : es1.size = es.size + 1 := z1
      rw [z] at r
      exact r
    dsimp only
    refine wpAny_bind (way _ _ _ ?_)
    split
    · refine wpAny_bind ?_
      rw [hashByValue_scannable 8 sc]
      refine wpAny_pure ?_
      refine put_tail way ho ex hd (t1 := _) ?_ (fun h' sb r => wpAny_pure (last h' sb r))
      first | exact G1 | exact G1.plain | (split <;> first | exact G1 | exact G1.plain)
    · refine wpAny_bind (wpAny_pure ?_)
      simp only [↓reduceIte]
      exact put_tail way ho ex hd G1 (fun h' sb r => wpAny_pure (last h' sb r))
/-- what one gets of texts, one behind the other -/
def among (xs : List Str) (i : Nat) : Str → Bool := fun k => decide (k ∈ xs.take i)
theorem among_step {xs : List Str} {i : Nat} {x : Str} (h : xs[i]? = some x) : (fun j => among xs i j || decide (j = x)) = among xs (i + 1) := funext fun j => by
  unfold among
  rw [List.take_add_one, h]
  by_cases a : j ∈ xs.take i
  · simp [a]
  · simp [a]
theorem empty_set {h : Heap} {b : Addr} (ho : h.get? b = some { cls := .type "set", dict := none, data := .set #[] 0 (.fresh 0 0 (!w.params.followText "set-order")) }) : TxtSet P w h b (fun _ => false) 0 := by
  refine ⟨_, _, _, _, ho, ⟨rfl, rfl, rfl⟩, rfl, ⟨fun e he => by simp at he, by simp, fun k => by simp, by decide, rfl, List.Pairwise.nil, ?_⟩, rfl⟩
  cases q : w.params.followText "set-order"
  · exact .inr rfl
  · exact .inl rfl
/-- the loop that puts all items in -/
theorem fill {I : Addr} {fp wr : List Addr} {G : Array GenState → Array GenState → Prop} {n : Nat} {Pv : Nat → Value → Prop} {St : Nat → Shared → Prop} {R : Result → Shared → Prop} (W : WalksS P w A.in1 I fp wr G n Pv St) (D : Addr) (hD : D ∉ fp) (xs : List Str)
    (hn : xs.length = n) (few : n + 1 < scanBound) (val : ∀ i v, Pv i v → ∃ x t, xs[i]? = some x ∧ v = .str x t) : ∀ (left i c : Nat) (s : Shared), n - i = left → i ≤ n → c ≤ i → St i s → TxtSet P w s.heap D (among xs i) c →
      (∀ s' c', Moved (D :: wr) G s s' → TxtSet P w s'.heap D (among xs n) c' → c' ≤ n → R (.ok (.ret .none)) s') → codeAny (model P w) A (.builtin "set.update.loop" ⟨[.ref D, .ref I], []⟩) R s := by
  have hDw : D ∉ wr := fun h => hD (W.sub _ h)
  have up : ∀ b ∈ wr, b ∈ D :: wr := fun b hb => List.mem_cons_of_mem _ hb
  intro left
  induction left with
  | zero =>
    intro i c s hl hi hc hst T hR
    obtain rfl : i = n := by omega
    refine codeAny_builtin PyProof.Rows.F.entry_set_update_loop ?_
    rw [Around.under_plainId PyProof.Rows.F.plain_set_update_loop _]
    show wpAny _ A.in1 (pyNext (.ref I) >>= _) _ _ s
    refine wpAny_bind (W.done s _ _ hst fun s' hm => ?_)
    show wpAny _ A.in1 (ret Value.none) _ _ s'
    exact wpAny_pure (hR s' c (hm.mono up) (T.at fun o e => hm.heap D o hDw e) hc)
  | succ left ih =>
    intro i c s hl hi hc hst T hR
    have lt : i < n := by omega
    refine codeAny_builtin PyProof.Rows.F.entry_set_update_loop ?_
    rw [Around.under_plainId PyProof.Rows.F.plain_set_update_loop _]
    show wpAny _ A.in1 (pyNext (.ref I) >>= _) _ _ s
    refine wpAny_bind (W.item i s _ _ lt hst fun v s' hP hst' hm => ?_)
    obtain ⟨x, t, hx, rfl⟩ := val i v hP
    have T' : TxtSet P w s'.heap D (among xs i) c := T.at fun o e => hm.heap D o hDw e
    show wpAny _ A.in1 (holding [Value.str x t] (setAdd D (.str x t)) >>= _) _ _ s'
    refine wpAny_bind (wpAny_holding ?_)
    unfold setAdd
    have isx : (PySem.strKind P w).is x (.str x t) = true := by simp [PySem.strKind, Value.isStrOf]
    refine wpAny_holding (wpAny_bind ((PySem.strKind P w).pyHash isx ?_))
    refine put_text (s := { s' with toks := s'.toks + 1 }) T' (by omega) fun b h' sb T2 => ?_
    rw [among_step hx] at T2
    have c2 : (if among xs i x = true then c else c + 1) ≤ i + 1 := by split <;> omega
    refine wpAny_pure ⟨plainId_quiet PyProof.Rows.F.plain_set_update_loop _, ih (i + 1) _ _ (by omega) lt c2 (W.frame _ s' _ _ hst' (Nat.le_succ _) fun b hb o e => ?_) T2 fun s'' c'' hm'' T'' hc'' => ?_⟩
    · rw [sb.2 b fun z : b = D => hD (z ▸ hb)]
      exact e
    · refine hR s'' c'' (Moved.trans W.gtrans ((hm.mono up).then_heap (Nat.le_succ _) fun b o hb e => ?_) hm'') T'' hc''
      rw [sb.2 b fun z : b = D => hb (z ▸ List.mem_cons_self)]
      exact e
theorem strs_get : ∀ {us : List Value} {xs : List Str}, StrsAre us xs → ∀ (i : Nat) (v : Value), us[i]? = some v → ∃ x t, xs[i]? = some x ∧ v = .str x t
  | _, _, .nil, _, _, h => by simp at h
  | _, _, .cons x t _, 0, v, h => ⟨x, t, rfl, by simpa using h.symm⟩
  | _, _, .cons _ _ r, i + 1, v, h => strs_get r i v (by simpa using h)
set_option maxHeartbeats 8000000 in
/-- set(list) -/
theorem set_of_list {l : Addr} {items : Array Value} {xs : List Str} {Q : Value → Shared → Prop} (hh : A.handled = none) (hl : s.heap.IsList l items) (hi : StrsAre items.toList xs) (few : xs.length + 1 < scanBound)
    (hQ : ∀ (h' : Heap) (tk c : Nat), TxtSet P w h' s.heap.objs.size (among xs xs.length) c → c ≤ xs.length → (∀ b o, s.heap.get? b = some o → h'.get? b = some o) → Q (.ref s.heap.objs.size) { s with heap := h', toks := tk }) :
    wpAny (model P w) A (call (.type "set") [.ref l]) Q E s := by
  have hz : xs.length = items.size := by rw [← StrsAre.len_eq hi, Array.length_toList]
  obtain ⟨c, tl, hmro⟩ := PySem.F.called_set.mro
  have made := PySem.F.called_set.made
  have subs := PySem.F.called_set.sub
  refine wpAny_call (codeAny_of_tree ?_)
  show wpAny _ _ (callAny (.type "set") _) _ _ _
  refine wpAny_pure ⟨Code.quiet_builtin _ (by decide +kernel), codeAny_builtin PySem.F.entry_type_call ?_⟩
  rw [Around.under_plain (weight_type_call_type "set" [.ref l] []) rfl]
  have k1 := PySem.F.called_set.notType
  have k2 := PySem.F.called_set.canCreate
  have k3 := PySem.F.typeCall_set_1 (.ref l)
  repeat (any_goals (first | assumption | wp_step))
  refine codeAny_mono (code_set_led1 (.ref l) (E := E) (Q₁ := fun obj s₁ => obj = .ref s.heap.objs.size ∧ s₁ = { s with heap := s.heap.push { cls := .type "set", dict := none, data := .set #[] 0 (.fresh 0 0 (!w.params.followText "set-order")) } }) ⟨rfl, rfl⟩) fun r s₁ hr => ?_
  match r, hr with
  | .error _, hr => exact hr
  | .ok .next, hr => exact hr.elim
  | .ok .brk, hr => exact hr.elim
  | .ok .cont, hr => exact hr.elim
  | .ok (.ret obj), hr =>
    obtain ⟨rfl, rfl⟩ := hr
    have hS : (s.heap.push { cls := .type "set", dict := none, data := .set #[] 0 (.fresh 0 0 (!w.params.followText "set-order")) }).get? s.heap.objs.size = some { cls := .type "set", dict := none, data := .set #[] 0 (.fresh 0 0 (!w.params.followText "set-order")) } := Heap.get?_push_size _ rfl
    have hT : Shared.TypeIs { s with heap := s.heap.push { cls := .type "set", dict := none, data := .set #[] 0 (.fresh 0 0 (!w.params.followText "set-order")) } } (.ref s.heap.objs.size) "set" := ⟨_, hS, rfl⟩
    have k4 := PySem.F.called_set.init.lookup
    have k5 := PySem.F.called_set.init.bind (.ref s.heap.objs.size)
    repeat (any_goals (first | assumption | wp_step))
    refine codeAny_mono (codeAny_call_builtin (R := wants (fun r s₂ => r = .none ∧ ∃ h' tk c, s₂ = { s with heap := h', toks := tk } ∧ TxtSet P w h' s.heap.objs.size (among xs xs.length) c ∧ c ≤ xs.length ∧ (∀ b o, s.heap.get? b = some o → h'.get? b = some o)) E)
      PySem.F.called_set.init.plain PySem.F.entry_set_init (check_set_init_1 hT ?_)) fun r₂ s₂ hr₂ => ?_
    · obtain ⟨⟨ocls, odict, odata, oslots⟩, hol, hcl, nl, hdl⟩ := hl
      simp only at hcl hdl
      subst hcl
      subst hdl
      have hol' : (s.heap.push { cls := .type "set", dict := none, data := .set #[] 0 (.fresh 0 0 (!w.params.followText "set-order")) }).get? l = some { cls := .type "list", dict := odict, data := .seq items nl, slots := oslots } := Heap.get?_push_of_some _ hol
      have k6 := PySem.F.sub_list_set
      have k7 := PySem.F.sub_list_frozenset
      have k8 : (Value.type "list" == Value.type "dict") = false := by decide
      have hl1 : (s.heap.push { cls := .type "set", dict := none, data := .set #[] 0 (.fresh 0 0 (!w.params.followText "set-order")) }).IsList l items := ⟨_, hol', rfl, nl, rfl⟩
      unfold Builtin.«set.__init__» noKeywords Builtin.Frozenset.updateFrom
      generalize hPI : pyIter = PI
      wp_walk
      subst hPI
      refine wpAny_pyIter_list hl1 (wpAny_bind (wpAny_runValue ?_))
      have lS : l < s.heap.objs.size := Heap.lt_size hol
      have lI : l ≠ (s.heap.push { cls := .type "set", dict := none, data := .set #[] 0 (.fresh 0 0 (!w.params.followText "set-order")) }).objs.size := by
        rw [Heap.size_push]
        exact Nat.ne_of_lt (Nat.lt_succ_of_lt lS)
      have nS : s.heap.objs.size ∉ [(s.heap.push { cls := .type "set", dict := none, data := .set #[] 0 (.fresh 0 0 (!w.params.followText "set-order")) }).objs.size, l] := by
        rw [Heap.size_push]
        simp only [List.mem_cons, List.not_mem_nil, or_false, not_or]
        exact ⟨Nat.ne_of_lt (Nat.lt_succ_self _), Nat.ne_of_gt lS⟩
      refine fill ((Walks.list (by simp [hh]) _ l lI items).toS) s.heap.objs.size nS xs hz (by omega) (fun i v hv => strs_get hi i v (by rw [Array.getElem?_toList]; exact hv)) (items.size - 0) 0 0 _ rfl (Nat.zero_le _) (Nat.le_refl _) ⟨⟨_, Heap.get?_push_size _ rfl, rfl, rfl⟩, (hl1.push _)⟩ ?e0 ?e1
      case e0 =>
        have e : among xs 0 = fun _ => false := funext fun k => by simp [among]
        rw [e]
        exact empty_set (Heap.get?_push_of_some _ hS)
      case e1 =>
        intro s' c' hm T hc
        obtain ⟨h', g2, d', tk', os'⟩ := s'
        have eg : g2 = s.gens := hm.gens
        have ed : d' = s.drawn := hm.drawn
        have eo : os' = s.os := hm.os
        subst eg
        subst ed
        subst eo
        show wpAny _ _ _ _ _ _
        refine wpAny_pure ?_
        show wpAny _ _ (ret Value.none) _ _ _
        rw [← hz] at T hc
        refine wpAny_pure ⟨rfl, h', tk', c', rfl, T, hc, fun b o e => hm.heap b o ?_ (Heap.get?_push_of_some _ (Heap.get?_push_of_some _ e))⟩
        have lb : b < s.heap.objs.size := Heap.lt_size e
        rw [Heap.size_push]
        simp only [List.mem_cons, List.not_mem_nil, or_false, not_or]
        exact ⟨Nat.ne_of_lt lb, Nat.ne_of_lt (Nat.lt_succ_of_lt lb)⟩
    · match r₂, hr₂ with
      | .error _, hr₂ => exact hr₂
      | .ok .next, hr₂ => exact hr₂.elim
      | .ok .brk, hr₂ => exact hr₂.elim
      | .ok .cont, hr₂ => exact hr₂.elim
      | .ok (.ret r), hr₂ =>
        obtain ⟨rfl, h', tk, c', rfl, T, hc, hk⟩ := hr₂
        repeat (any_goals (first | assumption | wp_step))
        exact hQ _ _ _ T hc hk
set_option maxHeartbeats 8000000 in
/-- set(tuple) -/
theorem set_of_tuple {l : Addr} {items : Array Value} {xs : List Str} {Q : Value → Shared → Prop} (hh : A.handled = none) (hl : s.heap.IsTuple l items) (hi : StrsAre items.toList xs) (few : xs.length + 1 < scanBound)
    (hQ : ∀ (h' : Heap) (tk c : Nat), TxtSet P w h' s.heap.objs.size (among xs xs.length) c → c ≤ xs.length → (∀ b o, s.heap.get? b = some o → h'.get? b = some o) → Q (.ref s.heap.objs.size) { s with heap := h', toks := tk }) :
    wpAny (model P w) A (call (.type "set") [.ref l]) Q E s := by
  have hz : xs.length = items.size := by rw [← StrsAre.len_eq hi, Array.length_toList]
  obtain ⟨c, tl, hmro⟩ := PySem.F.called_set.mro
  have made := PySem.F.called_set.made
  have subs := PySem.F.called_set.sub
  refine wpAny_call (codeAny_of_tree ?_)
  show wpAny _ _ (callAny (.type "set") _) _ _ _
  refine wpAny_pure ⟨Code.quiet_builtin _ (by decide +kernel), codeAny_builtin PySem.F.entry_type_call ?_⟩
  rw [Around.under_plain (weight_type_call_type "set" [.ref l] []) rfl]
  have k1 := PySem.F.called_set.notType
  have k2 := PySem.F.called_set.canCreate
  have k3 := PySem.F.typeCall_set_1 (.ref l)
  repeat (any_goals (first | assumption | wp_step))
  refine codeAny_mono (code_set_led1 (.ref l) (E := E) (Q₁ := fun obj s₁ => obj = .ref s.heap.objs.size ∧ s₁ = { s with heap := s.heap.push { cls := .type "set", dict := none, data := .set #[] 0 (.fresh 0 0 (!w.params.followText "set-order")) } }) ⟨rfl, rfl⟩) fun r s₁ hr => ?_
  match r, hr with
  | .error _, hr => exact hr
  | .ok .next, hr => exact hr.elim
  | .ok .brk, hr => exact hr.elim
  | .ok .cont, hr => exact hr.elim
  | .ok (.ret obj), hr =>
    obtain ⟨rfl, rfl⟩ := hr
    have hS : (s.heap.push { cls := .type "set", dict := none, data := .set #[] 0 (.fresh 0 0 (!w.params.followText "set-order")) }).get? s.heap.objs.size = some { cls := .type "set", dict := none, data := .set #[] 0 (.fresh 0 0 (!w.params.followText "set-order")) } := Heap.get?_push_size _ rfl
    have hT : Shared.TypeIs { s with heap := s.heap.push { cls := .type "set", dict := none, data := .set #[] 0 (.fresh 0 0 (!w.params.followText "set-order")) } } (.ref s.heap.objs.size) "set" := ⟨_, hS, rfl⟩
    have k4 := PySem.F.called_set.init.lookup
    have k5 := PySem.F.called_set.init.bind (.ref s.heap.objs.size)
    repeat (any_goals (first | assumption | wp_step))
    refine codeAny_mono (codeAny_call_builtin (R := wants (fun r s₂ => r = .none ∧ ∃ h' tk c, s₂ = { s with heap := h', toks := tk } ∧ TxtSet P w h' s.heap.objs.size (among xs xs.length) c ∧ c ≤ xs.length ∧ (∀ b o, s.heap.get? b = some o → h'.get? b = some o)) E)
      PySem.F.called_set.init.plain PySem.F.entry_set_init (check_set_init_1 hT ?_)) fun r₂ s₂ hr₂ => ?_
    · obtain ⟨⟨ocls, odict, odata, oslots⟩, hol, hcl, nl, hdl⟩ := hl
      simp only at hcl hdl
      subst hcl
      subst hdl
      have hol' : (s.heap.push { cls := .type "set", dict := none, data := .set #[] 0 (.fresh 0 0 (!w.params.followText "set-order")) }).get? l = some { cls := .type "tuple", dict := odict, data := .seq items nl, slots := oslots } := Heap.get?_push_of_some _ hol
      have k6 := PySem.F.sub_tuple_set
      have k7 := PySem.F.sub_tuple_frozenset
      have k8 : (Value.type "tuple" == Value.type "dict") = false := by decide
      have hl1 : (s.heap.push { cls := .type "set", dict := none, data := .set #[] 0 (.fresh 0 0 (!w.params.followText "set-order")) }).IsTuple l items := ⟨_, hol', rfl, nl, rfl⟩
      unfold Builtin.«set.__init__» noKeywords Builtin.Frozenset.updateFrom
      generalize hPI : pyIter = PI
      wp_walk
      subst hPI
      refine wpAny_pyIter_tuple hl1 (wpAny_bind (wpAny_runValue ?_))
      have lS : l < s.heap.objs.size := Heap.lt_size hol
      have lI : l ≠ (s.heap.push { cls := .type "set", dict := none, data := .set #[] 0 (.fresh 0 0 (!w.params.followText "set-order")) }).objs.size := by
        rw [Heap.size_push]
        exact Nat.ne_of_lt (Nat.lt_succ_of_lt lS)
      have nS : s.heap.objs.size ∉ [(s.heap.push { cls := .type "set", dict := none, data := .set #[] 0 (.fresh 0 0 (!w.params.followText "set-order")) }).objs.size, l] := by
        rw [Heap.size_push]
        simp only [List.mem_cons, List.not_mem_nil, or_false, not_or]
        exact ⟨Nat.ne_of_lt (Nat.lt_succ_self _), Nat.ne_of_gt lS⟩
      refine fill ((Walks.tuple (by simp [hh]) _ l lI items).toS) s.heap.objs.size nS xs hz (by omega) (fun i v hv => strs_get hi i v (by rw [Array.getElem?_toList]; exact hv)) (items.size - 0) 0 0 _ rfl (Nat.zero_le _) (Nat.le_refl _) ⟨⟨_, Heap.get?_push_size _ rfl, rfl, rfl⟩, (hl1.push _)⟩ ?e0 ?e1
      case e0 =>
        have e : among xs 0 = fun _ => false := funext fun k => by simp [among]
        rw [e]
        exact empty_set (Heap.get?_push_of_some _ hS)
      case e1 =>
        intro s' c' hm T hc
        obtain ⟨h', g2, d', tk', os'⟩ := s'
        have eg : g2 = s.gens := hm.gens
        have ed : d' = s.drawn := hm.drawn
        have eo : os' = s.os := hm.os
        subst eg
        subst ed
        subst eo
        show wpAny _ _ _ _ _ _
        refine wpAny_pure ?_
        show wpAny _ _ (ret Value.none) _ _ _
        rw [← hz] at T hc
        refine wpAny_pure ⟨rfl, h', tk', c', rfl, T, hc, fun b o e => hm.heap b o ?_ (Heap.get?_push_of_some _ (Heap.get?_push_of_some _ e))⟩
        have lb : b < s.heap.objs.size := Heap.lt_size e
        rw [Heap.size_push]
        simp only [List.mem_cons, List.not_mem_nil, or_false, not_or]
        exact ⟨Nat.ne_of_lt lb, Nat.ne_of_lt (Nat.lt_succ_of_lt lb)⟩
    · match r₂, hr₂ with
      | .error _, hr₂ => exact hr₂
      | .ok .next, hr₂ => exact hr₂.elim
      | .ok .brk, hr₂ => exact hr₂.elim
      | .ok .cont, hr₂ => exact hr₂.elim
      | .ok (.ret r), hr₂ =>
        obtain ⟨rfl, h', tk, c', rfl, T, hc, hk⟩ := hr₂
        repeat (any_goals (first | assumption | wp_step))
        exact hQ _ _ _ T hc hk
end
end Ts
set_option Elab.async false
set_option linter.all false
set_option autoImplicit false
set_option maxRecDepth 100000
set_option maxHeartbeats 4000000
namespace Ts
open PySem PySem.Spec PyProof.Rows L2 Vb
section
variable {P : Program} {w : World} {A : Around} {E : Value → Shared → Prop} {s : Shared} {a : Addr} {S : Str → Bool} {n : Nat}
theorem is_str {k : Str} {v : Value} : (PySem.strKind P w).is k v = true ↔ ∃ t, v = .str k t := by
  constructor
  · intro h
    exact Value.isStrOf_shape h
  · rintro ⟨t, rfl⟩
    simp [PySem.strKind, Value.isStrOf]
/-- the members as texts -/
theorem Good.texts {es : Array (Int × Value)} {t : SetTable} (G : Good P w S es t) {out : List Value} (pm : out.Perm (es.toList.map (·.2))) : StrsAre out (out.map PyProof.Rows.strOf) ∧ (out.map PyProof.Rows.strOf).Nodup ∧ ∀ k, k ∈ out.map PyProof.Rows.strOf ↔ S k = true := by
  have all : ∀ v ∈ out, ∃ x t, v = Value.str x t := fun v hv => by
    obtain ⟨e, he, rfl⟩ := List.mem_map.mp (pm.mem_iff.mp hv)
    obtain ⟨⟨k, hk, _⟩, _⟩ := G.el e he
    obtain ⟨t, q⟩ := is_str.mp hk
    exact ⟨k, t, q⟩
  refine ⟨strsAre_map out all, ?_, fun k => ?_⟩
  · have nd : ((es.toList.map (·.2)).map PyProof.Rows.strOf).Nodup := by
      rw [List.map_map]
      refine List.pairwise_map.mpr (G.ap.imp_of_mem fun {e e'} he he' h q => ?_)
      obtain ⟨⟨k, hk, _⟩, _⟩ := G.el e he
      obtain ⟨⟨k', hk', _⟩, _⟩ := G.el e' he'
      obtain ⟨t, q1⟩ := is_str.mp hk
      obtain ⟨t', q2⟩ := is_str.mp hk'
      have e1 : k = k' := by
        have q' : PyProof.Rows.strOf e.2 = PyProof.Rows.strOf e'.2 := q
        rw [q1, q2] at q'
        exact q'
      have := h k hk
      rw [e1, hk'] at this
      cases this
    exact (pm.map PyProof.Rows.strOf).nodup_iff.mpr nd
  · rw [(pm.map PyProof.Rows.strOf).mem_iff, G.mem k]
    constructor
    · intro h
      obtain ⟨v, hv, q⟩ := List.mem_map.mp h
      obtain ⟨e, he, rfl⟩ := List.mem_map.mp hv
      obtain ⟨⟨k', hk', _⟩, _⟩ := G.el e he
      obtain ⟨t', q2⟩ := is_str.mp hk'
      rw [q2] at q
      have q' : k' = k := q
      subst q'
      exact ⟨e, he, hk'⟩
    · rintro ⟨e, he, hk⟩
      obtain ⟨t, q⟩ := is_str.mp hk
      exact List.mem_map.mpr ⟨e.2, List.mem_map.mpr ⟨e, he, rfl⟩, by rw [q]; rfl⟩
theorem sorted_texts {Q : Value → Shared → Prop} (T : TxtSet P w s.heap a S n) (hh : A.handled = none) (h64 : n < 64)
    (hQ : ∀ s' p (out : Array Value) (c : Nat) (ks : List Str), (∀ b o, s.heap.get? b = some o → s'.heap.get? b = some o) → s'.gens = s.gens → s'.os = s.os → s.heap.objs.size ≤ p → s'.heap.get? p = some (seqObj "list" out c) → StrsAre out.toList ks →
      sortedS ks = true → ks.Nodup → (∀ k, k ∈ ks ↔ S k = true) → ks.length = n → Q (.ref p) s') : wpAny (model P w) A (call (.builtin "sorted") [.ref a]) Q E s := by
  obtain ⟨o, es, ep, t, ho, ex, hd, G, hn⟩ := T
  refine Calls.call_function_entry kind_sorted plain_sorted entry_sorted (args_sorted1 _) ?_
  unfold Builtin.«sorted»
  refine wpAny_bind (m := checkCount "sorted" 1 1 _) (wpAny_pure ?_)
  refine wpAny_bind (collect_set (A := A.in1) hh ⟨o, ho, ex.1, hd⟩ G.fit G.few G.ris G.led fun s1 vs k1 hz g1 o1 pm => ?_)
  obtain ⟨hS, nd, mem⟩ := G.texts pm
  have hvl : vs.length = n := by
    have : vs.length = es.size := by simpa using pm.length_eq
    rw [this, hn]
  refine wpAny_bind (wpAny_newList ?_ (by rw [hvl, sizeLine_eq]; omega))
  have hoL : (s1.heap.push (seqObj "list" vs.toArray 0)).get? s1.heap.objs.size = some (seqObj "list" vs.toArray 0) := Heap.get?_push_size _ rfl
  refine wpAny_bind (wpAny_holding (wpAny_call_entry slot_list_sort ⟨_, hoL, rfl⟩ entry_list_sort
    (list_sort_treeK strKind_oneLt hoL hS.keysOf (fun v₁ v₂ rest e => keyKind_strs (by rw [← e]; exact hS)) (by rw [hvl]; exact h64) fun st' hp hs => ⟨_, rfl, ?_⟩) (args_list_sort _)))
  obtain ⟨ks, q1, q2, q3⟩ := sorted_out_str hS hp hs
  obtain ⟨c, hc⟩ := sortedHeap_at (vs := vs) (out := (arrOf st').map (·.2)) hoL
  refine wpAny_pure ⟨_, rfl, hQ _ s1.heap.objs.size _ c ks (fun b u e => ?_) g1 o1 hz hc q1 q3 (q2.nodup_iff.mpr nd) (fun k => q2.mem_iff.trans (mem k)) ?_⟩
  · have lt := Heap.lt_size (k1 b u e)
    have old := sortedHeap_old (h := s1.heap.push (seqObj "list" vs.toArray 0)) (a := s1.heap.objs.size) (vs := vs) (out := (arrOf st').map (·.2)) (b := b) (Nat.ne_of_lt lt) (by rw [Heap.size_push]; exact Nat.lt_succ_of_lt lt)
    exact old.trans (Heap.get?_push_of_some _ (k1 b u e))
  · have := q2.length_eq
    rw [List.length_map] at this
    omega
end
/-- a set of texts, as what stands at a -/
def TsO (P : Program) (w : World) (a : Addr) (S : Str → Bool) (n : Nat) : HO := .ext fun h => TxtSet P w h a S n
section
variable {X : Cx}
def rSetTexts (K : PySem.W.Frag) (P : Program) (w : World) : List V → Hp → VK → Prop := fun xs H Q => ∃ (l : Addr) (ys : List Str), xs = [.ref l] ∧ (SqL K H l (ys.map V.str) ∨ SqT K H l (ys.map V.str)) ∧ ys.length ≤ 1000 ∧
  ∀ a c, H a = none → c ≤ ys.length → Q (.ref a) (upd H a (TsO P w a (among ys ys.length) c))
theorem cr_setTexts (hc : X.calm = true) : CallR X (.type "set") (rSetTexts X.K X.prog X.w) := by
  intro pins s σ H xs us Q I r h
  obtain ⟨l, ys, rfl, hs, hl, q⟩ := h
  rw [Vals.ref1 r]
  have few : ys.length + 1 < scanBound := Nat.lt_of_le_of_lt (Nat.succ_le_succ hl) (by decide)
  have fin : ∀ (h' : Heap) (tk c : Nat), TxtSet X.prog X.w h' s.heap.objs.size (among ys ys.length) c → c ≤ ys.length → (∀ b o, s.heap.get? b = some o → h'.get? b = some o) → EP X pins σ Q (.ref s.heap.objs.size) { s with heap := h', toks := tk } := fun h' tk c T hc k =>
    ⟨.ref s.heap.objs.size, upd H s.heap.objs.size (TsO X.prog X.w s.heap.objs.size (among ys ys.length) c), I.laid (t' := tk) k (Nat.le_refl _) ⟨T, (let ⟨o, _, _, _, e, _⟩ := T; ⟨o, e⟩), fun h1 h2 t k => t.at k⟩, rfl, q _ c (I.hok.fresh (Nat.le_refl _)) hc⟩
  rcases hs with hs | hs
  · obtain ⟨its, rv, pl, _⟩ := I.list hs
    exact set_of_list (P := X.prog) (w := X.w) (I.ok.hd hc) pl.isList (by simpa using rv.strs) few fin
  · obtain ⟨its, rv, pl, _⟩ := I.tuple hs
    exact set_of_tuple (P := X.prog) (w := X.w) (I.ok.hd hc) pl (by simpa using rv.strs) few fin
def rSortTexts (P : Program) (w : World) : List V → Hp → VK → Prop := fun vs H Q => ∃ (a : Addr) (ys : List Str) (c : Nat), vs = [.ref a] ∧ H a = some (TsO P w a (among ys ys.length) c) ∧ c < 64 ∧
  ∀ (zs : List Str) (p : Addr), (∀ k, k ∈ zs ↔ k ∈ ys) → sortedS zs = true → zs.Nodup → zs.length = c → H p = none → Q (.ref p) (upd H p (.lst (zs.map V.str)))
theorem cr_sortTexts (hc : X.calm = true) : CallR X (.builtin "sorted") (rSortTexts X.prog X.w) := by
  intro pins s σ H vs us Q I r h
  obtain ⟨a, ys, c, rfl, ha, h64, q⟩ := h
  have T : TxtSet X.prog X.w s.heap a (among ys ys.length) c := (I.hok a _ ha).1
  rw [Vals.ref1 r]
  refine sorted_texts T (I.ok.hd hc) h64 fun s' p out cc zs k g o hp hg hS hs nd mem hl => ?_
  have new : H p = none := I.hok.fresh hp
  have len : (zs.map V.str).length ≤ sizeLine := by
    rw [List.length_map, hl]
    exact Nat.le_trans (Nat.le_of_lt h64) (by decide)
  have J : Inv X pins σ (upd H p (.lst (zs.map V.str))) { s with heap := s'.heap, gens := s'.gens, drawn := s'.drawn, toks := s'.toks } :=
    I.call (ch := []) (Un.laid k hp new) (I.hok.laid k hp ⟨len, out.toList, cc, vals_of_strs hS, hg⟩) (by rw [g]; exact I.bare) (fun _ z => nomatch z)
  have e : s' = { s with heap := s'.heap, gens := s'.gens, drawn := s'.drawn, toks := s'.toks } := by
    cases s'
    cases s
    cases o
    rfl
  rw [e]
  refine ⟨.ref p, _, J, rfl, q zs p (fun k => ?_) hs nd hl new⟩
  rw [mem k]
  show decide (k ∈ ys.take ys.length) = true ↔ _
  rw [List.take_length]
  exact decide_eq_true_iff
end
end Ts
set_option Elab.async false
set_option linter.all false
set_option autoImplicit false
set_option maxRecDepth 100000
set_option maxHeartbeats 4000000
namespace K01
open PySem PySem.Spec PyProof.Rows L2 Vb Wd
/-! ### the order of texts -/
abbrev Lt (a b : Str) : Prop := a.cps.toList < b.cps.toList
theorem lt_tr {a b c : Str} (h : Lt a b) (k : Lt b c) : Lt a c := List.lt_trans h k
theorem lt_ir (a : Str) : ¬ Lt a a := List.lt_irrefl _
theorem lt_tri {a b : Str} (h : ¬ Lt a b) (k : ¬ Lt b a) : a = b := by
  have e : a.cps.toList = b.cps.toList := List.le_antisymm (List.not_lt.mp k) (List.not_lt.mp h)
  obtain ⟨x⟩ := a
  obtain ⟨y⟩ := b
  obtain ⟨x⟩ := x
  obtain ⟨y⟩ := y
  cases (show x = y from e)
  rfl
/-- each is less than the next -/
def asc : List Str → Bool
  | x :: y :: r => decide (Lt x y) && asc (y :: r)
  | _ => true
theorem asc_pair : ∀ {l : List Str}, asc l = true → l.Pairwise Lt
  | [], _ => .nil
  | [x], _ => List.pairwise_singleton _ _
  | x :: y :: r, h => by
    obtain ⟨h1, h2⟩ := Bool.and_eq_true_iff.mp (show (decide (Lt x y) && asc (y :: r)) = true from h)
    have ih := asc_pair (l := y :: r) h2
    refine List.pairwise_cons.mpr ⟨fun z hz => ?_, ih⟩
    rcases List.mem_cons.mp hz with rfl | hz
    · exact of_decide_eq_true h1
    · exact lt_tr (of_decide_eq_true h1) ((List.pairwise_cons.mp ih).1 z hz)
theorem pair_asc : ∀ {l : List Str}, l.Pairwise Lt → asc l = true
  | [], _ => rfl
  | [x], _ => rfl
  | x :: y :: r, h => by
    obtain ⟨h1, h2⟩ := List.pairwise_cons.mp h
    show (decide (Lt x y) && asc (y :: r)) = true
    rw [pair_asc h2, decide_eq_true (h1 y List.mem_cons_self)]
    rfl
theorem rising_pair : ∀ {l : List Str} {p : Str}, risingS p l = true → (p :: l).Nodup → (p :: l).Pairwise Lt
  | [], p, _, _ => List.pairwise_singleton _ _
  | x :: r, p, h, nd => by
    obtain ⟨h1, h2⟩ := Bool.and_eq_true_iff.mp (show (!ltCps x.cps.toList p.cps.toList && risingS x r) = true from h)
    obtain ⟨n1, n2⟩ := List.nodup_cons.mp nd
    have ih := rising_pair h2 n2
    have px : Lt p x := by
      rw [ltCps_eq] at h1
      have nx : ¬ Lt x p := by simpa using h1
      refine Classical.byContradiction fun np => ?_
      exact n1 (lt_tri np nx ▸ List.mem_cons_self)
    refine List.pairwise_cons.mpr ⟨fun z hz => ?_, ih⟩
    rcases List.mem_cons.mp hz with rfl | hz
    · exact px
    · exact lt_tr px ((List.pairwise_cons.mp ih).1 z hz)
theorem sorted_pair {l : List Str} (h : sortedS l = true) (nd : l.Nodup) : l.Pairwise Lt := by
  cases l with
  | nil => exact .nil
  | cons x r => exact rising_pair h nd
theorem pair_uniq : ∀ {l m : List Str}, l.Pairwise Lt → m.Pairwise Lt → (∀ k, k ∈ l ↔ k ∈ m) → l = m
  | [], [], _, _, _ => rfl
  | [], y :: _, _, _, h => nomatch (h y).mpr List.mem_cons_self
  | x :: _, [], _, _, h => nomatch (h x).mp List.mem_cons_self
  | x :: l, y :: m, pl, pm, h => by
    obtain ⟨l1, l2⟩ := List.pairwise_cons.mp pl
    obtain ⟨m1, m2⟩ := List.pairwise_cons.mp pm
    have xy : x = y := by
      rcases List.mem_cons.mp ((h x).mp List.mem_cons_self) with e | hx
      · exact e
      · rcases List.mem_cons.mp ((h y).mpr List.mem_cons_self) with e | hy
        · exact e.symm
        · exact absurd (lt_tr (l1 y hy) (m1 x hx)) (lt_ir x)
    subst xy
    have rest : l = m := pair_uniq l2 m2 fun k => by
      constructor
      · intro hk
        rcases List.mem_cons.mp ((h k).mp (List.mem_cons_of_mem _ hk)) with e | hk'
        · exact absurd (e ▸ l1 k hk) (lt_ir x)
        · exact hk'
      · intro hk
        rcases List.mem_cons.mp ((h k).mpr (List.mem_cons_of_mem _ hk)) with e | hk'
        · exact absurd (e ▸ m1 k hk) (lt_ir x)
        · exact hk'
    rw [rest]
/-- a list is its members in order just if each is less than the next -/
theorem eq_sorted {ys zs : List Str} (mem : ∀ k, k ∈ zs ↔ k ∈ ys) (srt : sortedS zs = true) (nd : zs.Nodup) : decide (ys = zs) = asc ys := by
  have pz := sorted_pair srt nd
  cases h : asc ys with
  | true => exact decide_eq_true (pair_uniq (asc_pair h) pz fun k => (mem k).symm)
  | false =>
    refine decide_eq_false fun e => ?_
    rw [e, pair_asc pz] at h
    cases h
theorem eqv_strs : ∀ ys zs : List Str, PyData.eqvAll (ys.map PyData.str) (zs.map PyData.str) = decide (ys = zs)
  | [], [] => rfl
  | [], z :: zs => by simp [PyData.eqvAll]
  | y :: ys, [] => by simp [PyData.eqvAll]
  | y :: ys, z :: zs => by
    show (PyData.eqv (.str y) (.str z) && PyData.eqvAll (ys.map PyData.str) (zs.map PyData.str)) = _
    rw [eqv_strs ys zs]
    by_cases e : y = z
    · subst e
      by_cases e2 : ys = zs
      · subst e2; simp [PyData.eqv]
      · simp [PyData.eqv, e2]
    · simp [PyData.eqv, e]
theorem eqv_list (ys zs : List Str) : PyData.eqv (.list (ys.map PyData.str)) (.list (zs.map PyData.str)) = decide (ys = zs) := by
  rw [← eqv_strs]
  simp [PyData.eqv]
/-! ### the first unlike sign decides -/
/-! ### the small letters by their places -/
end K01
set_option Elab.async false
set_option linter.all false
set_option autoImplicit false
set_option maxRecDepth 100000
set_option maxHeartbeats 4000000
namespace K11
open PySem PySem.Spec PyProof.Rows L2 Vb Wd Ts K01
abbrev s_is_names : Stmt := topS 8
theorem sc_is_names : FnScope ["value", "word"] ["value"] (defScope s_is_names) := ⟨rfl, rfl, rfl, by decide +kernel, rfl, by decide +kernel, by decide +kernel⟩
abbrev nam (y : Str) : Bool := isNam (.str y)
/-- a text as the laws make it -/
def Fine (y : Str) : Prop := y.length ≤ 1000 ∧ Asc y
/-- what is_names is asked of, and what it answers -/
def Asked (K : PySem.W.Frag) (H : Hp) (v : V) (b : Bool) : Prop :=
  (∃ a ys, v = .ref a ∧ H a = some (.tup (ys.map V.str)) ∧ (∀ y ∈ ys, Fine y) ∧ ys.length ≤ 63 ∧ b = (ys.all nam && asc ys)) ∨
  (∃ T, TyX K H v (.type T) ∧ kitB T "tuple" = some false ∧ b = false) ∨
  (∃ a xs, v = .ref a ∧ H a = some (.tup xs) ∧ (∀ x ∈ xs, Judged H x) ∧ xs.all isNam = false ∧ xs.length ≤ 63 ∧ b = false)
def spNames (K : PySem.W.Frag) : Sp := fun vs H Q _ => ∃ v b, vs = [v] ∧ Asked K H v b ∧ ∀ H', Same H H' → Q (.bl b) H'
theorem ki_tt : kitB "tuple" "tuple" = some true := by decide +kernel
theorem fine_judged {H : Hp} {y : Str} (h : Fine y) : Judged H (.str y) := h
section
variable {P : Program} {w : World} {K : PySem.W.Frag} {mg : Str → Option Value} {base : Heap}
theorem all_map (ys : List Str) : (ys.map V.str).all isNam = ys.all nam := by
  rw [List.all_map]
  rfl
theorem ok_is_names (D : Df K mg "is_names" s_is_names ["value"]) (G_is_name : Cg P w K mg base 1 "is_name" (spOf isNam)) (z_isinstance : mg "isinstance" = none) (z_tuple : mg "tuple" = none) (z_all : mg "all" = none) (z_list : mg "list" = none) (z_sorted : mg "sorted" = none) (z_set : mg "set" = none) :
    Cg P w K mg base 2 "is_names" (spNames K) := by
  refine D.ok sc_is_names (fun vs H Q E h => ?_) (fun cdv A outer s H vs Q E f hc hr h => ?_)
  · obtain ⟨v, b, rfl, _⟩ := h
    rfl
  · obtain ⟨v, b, rfl, ask, q⟩ := h
    refine ⟨_, (pss_cons (ps_if (PW.pt (pw_or (pt_not (pt_val (pe_callB call_isi (by rfl) z_isinstance (by decide +kernel) (pa_cons (pv 0) (pa_cons (pe_bltn (v := .ty "tuple") (by rfl) z_tuple (by decide +kernel) rfl) pa_nil)))))
        (pw_or1 (pt_not (pt_val (pe_callB (cr_all rfl) (by rfl) z_all (by decide +kernel) (pa_cons (pe_lc (own := [("word", 1)]) (g := gName 1) (by rfl) sc_is_names.nd (pi_tup (pv 0)) (blkOk_by (own := [("word", 1)]) (N := ["value", "word"]) (sc := defScope s_is_names) (by decide +kernel)) (fun _ _ _ _ _ => pg_name (i := 1) sc_is_names.nd rfl (Or.inl rfl)) (fun _ _ _ _ _ => pts_nil) (fun _ _ _ _ _ => (pe_cg G_is_name hc hr (by rfl) (pa_cons (pv 1) pa_nil)))) pa_nil)))))))
      (pss_one (ps_ret pe_bl))
      pss_nil)
      (pss_one (ps_ret (pe_cmpR (op_eqD hr.units) (pe_callTy call_list_of (by rfl) z_list (by decide +kernel) (pa_cons (pv 0) pa_nil)) (pe_callB (cr_sortTexts rfl) (by rfl) z_sorted (by decide +kernel) (pa_cons (pe_callTy (cr_setTexts rfl) (by rfl) z_set (by decide +kernel) (pa_cons (pv 0) pa_nil)) pa_nil)) (nomark _))))), ?_⟩
    -- a tuple of judged values, its names asked one by one
    have both : (∃ T, TyX K H v (.type T) ∧ kitB T "tuple" = some false ∧ b = false) ∨
        ∃ a xs, v = .ref a ∧ H a = some (.tup xs) ∧ (∀ x ∈ xs, Judged H x) ∧ xs.length ≤ 63 ∧ (xs.all isNam = false → b = false) ∧ (xs.all isNam = true → ∃ ys, xs = ys.map V.str ∧ (∀ y ∈ ys, Fine y) ∧ b = asc ys) := by
      rcases ask with ⟨a, ys, rfl, ha, fy, hl, rfl⟩ | h | ⟨a, xs, rfl, ha, hj, hF, hl, rfl⟩
      · refine .inr ⟨a, ys.map V.str, rfl, ha, fun x hx => ?_, by rw [List.length_map]; exact hl, fun f => ?_, fun t => ⟨ys, rfl, fy, ?_⟩⟩
        · obtain ⟨y, hy, rfl⟩ := List.mem_map.mp hx
          exact fine_judged (fy y hy)
        · rw [all_map] at f
          rw [f, Bool.false_and]
        · rw [all_map] at t
          rw [t, Bool.true_and]
      · exact .inl h
      · exact .inr ⟨a, xs, rfl, ha, hj, hl, fun _ => rfl, fun t => by rw [hF] at t; cases t⟩
    rcases both with ⟨T, ty, kt, rfl⟩ | ⟨a, xs, rfl, ha, hj, hl, hF, hT⟩
    · exact ⟨_, rfl, _, _, _, _, false, rfl, .ty _, ty, kit_ty kt, _, rfl, iteT (q H (Same.refl H))⟩
    have hTp : ∀ {H' : Hp}, Same H H' → SqT K H' a xs := fun s => .inl (.inl (s _ _ ha))
    refine ⟨_, rfl, _, _, _, _, true, rfl, .ty _, .base (.tup ha), kit_ty ki_tt, _, rfl, iteF ⟨_, rfl, a, rfl, ⟨_, hTp (Same.refl H)⟩, fun D nD => lc_tup (K := K) (a := a) (xs := xs) (fun i H' => Same H H' ∧ H' D = some (.lst (((xs.take i).map isNam).map V.bl))) ⟨same_put nD (Same.refl H), by rw [upd_same]; rfl⟩ (fun i H' _ h => hTp h.1) (fun i x H1 hx h => ?_) (fun H1 h => ?_)⟩⟩
    · obtain ⟨s1, e1⟩ := h
      refine ⟨rfl, _, rfl, x, rfl, (hj x (List.mem_of_getElem? hx)).same s1, fun H2 s2 => ⟨_, s2 _ _ e1, ?_, same_put nD (s1.trans s2), ?_⟩⟩
      · rw [List.length_map, List.length_map, List.length_take]
        exact Nat.lt_of_le_of_lt (Nat.le_trans (Nat.min_le_right _ _) hl) (by decide)
      · rw [upd_same, List.take_add_one, hx, List.map_append, List.map_append]
        rfl
    · obtain ⟨s1, e1⟩ := h
      rw [List.take_length] at e1
      refine ⟨D, xs.map isNam, rfl, .inl (.inl e1), _, rfl, ?_⟩
      have ea : (xs.map isNam).all id = xs.all isNam := by rw [List.all_map]; rfl
      rw [ea]
      cases e : xs.all isNam with
      | false =>
        have q' := q _ s1
        rw [hF e] at q'
        exact iteT q'
      | true =>
        obtain ⟨ys, rfl, fy, rfl⟩ := hT e
        have yl : ys.length ≤ 63 := by rw [List.length_map] at hl; exact hl
        refine iteF ⟨_, rfl, a, ys.map V.str, rfl, .inr (hTp s1), fun l nl => ?_⟩
        have s2 := same_new (o := .lst (ys.map V.str)) nl
        refine ⟨_, rfl, a, ys, rfl, .inr (hTp (s1.trans s2)), by omega, fun st c nst hc' => ?_⟩
        have s3 := same_new (o := TsO P w st (among ys ys.length) c) nst
        refine ⟨st, ys, c, rfl, upd_same, by omega, fun zs p mem srt nd _ np => ?_⟩
        have s4 := same_new (o := .lst (zs.map V.str)) np
        refine ⟨.list (ys.map PyData.str), .list (zs.map PyData.str), .lst (.inl (.inl ((s3.trans s4) _ _ upd_same))) (dp_strs ys), .lst (.inl (.inl upd_same)) (dp_strs zs), shaped_strs fun y hy => (fy y hy).2, shaped_strs fun z hz => (fy z ((mem z).mp hz)).2, ?_⟩
        rw [eqv_list, eq_sorted mem srt nd]
        exact q _ (((s1.trans s2).trans s3).trans s4)
end
end K11
set_option Elab.async false
set_option linter.all false
set_option autoImplicit false
set_option maxRecDepth 100000
set_option maxHeartbeats 4000000
/-! Tr: sets of texts of which many are alike: there are no more members than words to choose from. -/
namespace Ts
open PySem PySem.Spec PyProof.Rows L2 Vb
theorem nodup_len {α : Type} [DecidableEq α] : ∀ (ks L : List α), ks.Nodup → (∀ k ∈ ks, k ∈ L) → ks.length ≤ L.length
  | [], L, _, _ => Nat.zero_le _
  | k :: ks, L, nd, h => by
    obtain ⟨h1, h2⟩ := List.nodup_cons.mp nd
    have ih := nodup_len ks (L.erase k) h2 fun x hx => (List.mem_erase_of_ne (fun e => h1 (by rw [← e]; exact hx))).mpr (h x (List.mem_cons_of_mem _ hx))
    have m := h k List.mem_cons_self
    rw [List.length_erase_of_mem m] at ih
    have : 0 < L.length := List.length_pos_of_mem m
    rw [List.length_cons]
    omega
section
variable {P : Program} {w : World}
theorem TxtSet.few {h : Heap} {a : Addr} {ys L : List Str} {c : Nat} (T : TxtSet P w h a (among ys ys.length) c) (hL : ∀ y ∈ ys, y ∈ L) : c ≤ L.length := by
  obtain ⟨o, es, ep, t, ho, ex, hd, G, hn⟩ := T
  obtain ⟨_, nd, mem⟩ := G.texts (out := es.toList.map (·.2)) (List.Perm.refl _)
  have := nodup_len _ L nd fun k hk => hL k (by
    have := (mem k).mp hk
    unfold among at this
    rw [List.take_length] at this
    exact of_decide_eq_true this)
  rw [List.length_map, List.length_map, Array.length_toList, hn] at this
  exact this
end
section
variable {X : Cx}
def rSetFew (K : PySem.W.Frag) (P : Program) (w : World) : List V → Hp → VK → Prop := fun xs H Q => ∃ (l : Addr) (ys L : List Str), xs = [.ref l] ∧ (SqL K H l (ys.map V.str) ∨ SqT K H l (ys.map V.str)) ∧ ys.length ≤ 1000 ∧ (∀ y ∈ ys, y ∈ L) ∧
  ∀ a c, H a = none → c ≤ ys.length → c ≤ L.length → Q (.ref a) (upd H a (TsO P w a (among ys ys.length) c))
theorem cr_setFew (hc : X.calm = true) : CallR X (.type "set") (rSetFew X.K X.prog X.w) := by
  intro pins s σ H xs us Q I r h
  obtain ⟨l, ys, L, rfl, hs, hl, sub, q⟩ := h
  rw [Vals.ref1 r]
  have few : ys.length + 1 < scanBound := Nat.lt_of_le_of_lt (Nat.succ_le_succ hl) (by decide)
  have fin : ∀ (h' : Heap) (tk c : Nat), TxtSet X.prog X.w h' s.heap.objs.size (among ys ys.length) c → c ≤ ys.length → (∀ b o, s.heap.get? b = some o → h'.get? b = some o) → EP X pins σ Q (.ref s.heap.objs.size) { s with heap := h', toks := tk } := fun h' tk c T hc k =>
    ⟨.ref s.heap.objs.size, upd H s.heap.objs.size (TsO X.prog X.w s.heap.objs.size (among ys ys.length) c), I.laid (t' := tk) k (Nat.le_refl _) ⟨T, (let ⟨o, _, _, _, e, _⟩ := T; ⟨o, e⟩), fun h1 h2 t k => t.at k⟩, rfl, q _ c (I.hok.fresh (Nat.le_refl _)) hc (T.few sub)⟩
  rcases hs with hs | hs
  · obtain ⟨its, rv, pl, _⟩ := I.list hs
    exact set_of_list (P := X.prog) (w := X.w) (I.ok.hd hc) pl.isList (by simpa using rv.strs) few fin
  · obtain ⟨its, rv, pl, _⟩ := I.tuple hs
    exact set_of_tuple (P := X.prog) (w := X.w) (I.ok.hd hc) pl (by simpa using rv.strs) few fin
end
end Ts
set_option Elab.async false
set_option linter.all false
set_option autoImplicit false
set_option maxRecDepth 100000
set_option maxHeartbeats 4000000
namespace K11
open PySem PySem.Spec PyProof.Rows L2 Vb Wd Xd Xo Ts K01
abbrev s_sorts_of : Stmt := topS 30
theorem sc_sorts_of : FnScope ["tops", "forms", "told", "form", "child"] ["tops", "forms"] (defScope s_sorts_of) := ⟨rfl, rfl, rfl, by decide +kernel, rfl, by decide +kernel, by decide +kernel⟩
/-- a form as data: its name, its sort, its children -/
abbrev FD : Type := Str × Str × List (Str × Int)
def saidBy (d : FD) : List Str := d.2.1 :: d.2.2.map (·.1)
def said (ds : List FD) : List Str := ds.flatMap saidBy
/-- forms stand at these places -/
structure Forms (H : Hp) (C : Addr) (fs : List Addr) (ds : List FD) : Prop where
  len : fs.length = ds.length
  at_ : ∀ (i : Nat) (a : Addr) (d : FD), fs[i]? = some a → ds[i]? = some d → ∃ ch ts, FormAt H C a ch d.1 d.2.1 ts d.2.2
def spSorts (K : PySem.W.Frag) (C : Addr) : Sp := fun vs H Q _ => ∃ (t f : Addr) (ys L : List Str) (fs : List Addr) (ds : List FD), vs = [.ref t, .ref f] ∧ H t = some (.tup (ys.map V.str)) ∧ H f = some (.tup (fs.map V.ref)) ∧ Forms H C fs ds ∧ ys.length ≤ 60 ∧ fs.length ≤ 40 ∧
  (∀ y ∈ ys ++ said ds, y ∈ L) ∧ L.length < 64 ∧ ∀ (p : Addr) (zs : List Str) (H' : Hp), Same H H' → H' p = some (.tup (zs.map V.str)) → (∀ k, k ∈ zs ↔ k ∈ ys ++ said ds) → sortedS zs = true → zs.Nodup → Q (.ref p) H'
theorem said_take {ds : List FD} {i : Nat} {d : FD} (h : ds[i]? = some d) : said (ds.take (i + 1)) = said (ds.take i) ++ (d.2.1 :: d.2.2.map (·.1)) := by
  unfold said
  rw [List.take_add_one, h, List.flatMap_append]
  simp [saidBy]
theorem FormAt.sm {H H' : Hp} {C a ch : Addr} {n so : Str} {ts : List Addr} {cs : List (Str × Int)} (s : Same H H') (f : FormAt H C a ch n so ts cs) : FormAt H' C a ch n so ts cs := by
  obtain ⟨⟨dx, e⟩, k⟩ := f
  exact ⟨⟨dx, s _ _ e⟩, k.same s⟩
theorem said_len {ds : List FD} {n : Nat} (h : ∀ d ∈ ds, d.2.2.length ≤ 4) (hn : ds.length ≤ n) : (said ds).length ≤ n * 5 := by
  induction ds generalizing n with
  | nil => exact Nat.zero_le _
  | cons d ds ih =>
    cases n with
    | zero => simp at hn
    | succ n =>
      have h1 := ih (n := n) (fun x hx => h x (List.mem_cons_of_mem _ hx)) (by simpa using hn)
      have h2 := h d List.mem_cons_self
      have : (said (d :: ds)).length = (saidBy d).length + (said ds).length := by
        unfold said
        rw [List.flatMap_cons, List.length_append]
      rw [this]
      have e : (saidBy d).length = d.2.2.length + 1 := by simp [saidBy]
      omega
section
variable {P : Program} {w : World} {K : PySem.W.Frag} {mg : Str → Option Value} {base : Heap} {C : Addr}
theorem ok_sorts_of (D : Df K mg "_sorts_of" s_sorts_of ["tops", "forms"]) (T : FormC K C) (TP : FormP P w K mg base C) (z_list : mg "list" = none) (z_tuple : mg "tuple" = none) (z_sorted : mg "sorted" = none) (z_set : mg "set" = none) : Cg P w K mg base 3 "_sorts_of" (spSorts K C) := by
  obtain ⟨p2, g2, fd2, o2, G2, b2⟩ := TP.get ("sort_name", "_sort_name") (by simp)
  obtain ⟨p3, g3, fd3, o3, G3, b3⟩ := TP.get ("children", "_children") (by simp)
  refine D.ok sc_sorts_of (fun vs H Q E h => ?_) (fun cdv A outer s H vs Q E f0 hc hr h => ?_)
  · obtain ⟨t, f, ys, L, fs, ds, rfl, _⟩ := h
    rfl
  · obtain ⟨t, f, ys, L, fs, ds, rfl, ht, hf, F, ly, lf, sub, lL, q⟩ := h
    refine ⟨_, (pss_cons (ps_set (i := 2) sc_sorts_of.nd rfl (Or.inl rfl) (pe_callTy call_list_of (by rfl) z_list (by decide +kernel) (pa_cons (pv 0) pa_nil)))
      (pss_cons (ps_for PassesOwn.never rfl (pi_tup (pv 1)) (pg_name (i := 3) sc_sorts_of.nd rfl (Or.inl rfl))
      (pss_cons (ps_expr (pe_bm PySem.F.plainAttrs_list PySem.F.slot_list_append PySem.F.type_list_append mt_append (pv 2) (pa_cons (pe_propG (n := "sort_name") (pv 3) T.c o2 G2 hc hr b2) pa_nil)))
      (pss_one (ps_expr (pe_bm PySem.F.plainAttrs_list PySem.F.slot_list_extend PySem.F.type_list_extend mt_extend (pv 2) (pa_cons (pe_lc (own := [("child", 4)]) (g := gName 4) (by rfl) sc_sorts_of.nd (pi_tup (pe_propG (n := "children") (pv 3) T.c o3 G3 hc hr b3)) (blkOk_by (own := [("child", 4)]) (N := ["tops", "forms", "told", "form", "child"]) (sc := defScope s_sorts_of) (by decide +kernel)) (fun _ _ _ _ _ => pg_name (i := 4) sc_sorts_of.nd rfl (Or.inl rfl)) (fun _ _ _ _ _ => pts_nil) (fun _ _ _ _ _ => (pe_ix (ix_tup : IxR _ (rIxT K)) (pv 4) pe_int (fun _ _ => rfl)))) pa_nil))))))
      (pss_one (ps_ret (pe_callTy (cr_tuple : CallR _ _ (rTup K)) (by rfl) z_tuple (by decide +kernel) (pa_cons (pe_callB (cr_sortTexts rfl) (by rfl) z_sorted (by decide +kernel) (pa_cons (pe_callTy (cr_setFew rfl) (by rfl) z_set (by decide +kernel) (pa_cons (pv 2) pa_nil)) pa_nil)) pa_nil)))))), ?_⟩
    refine ⟨_, rfl, t, _, rfl, .inr (.inl (.inl ht)), fun l nl => ?_⟩
    have sl := same_new (o := .lst (ys.map V.str)) nl
    generalize eH1 : upd H l (.lst (ys.map V.str)) = H1 at sl ⊢
    have h1l : H1 l = some (.lst (ys.map V.str)) := by rw [← eH1, upd_same]
    have lf' : f ≠ l := ne_of_none hf nl
    have kids4 : ∀ d ∈ ds, d.2.2.length ≤ 4 := fun d hd => by
      obtain ⟨i, hi⟩ := List.mem_iff_getElem?.mp hd
      have il := (List.getElem?_eq_some_iff.mp hi).1
      obtain ⟨ch, ts, FA⟩ := F.at_ i (fs[i]'(by have := F.len; omega)) d (List.getElem?_eq_getElem _) hi
      have := FA.kids.hi
      have := FA.kids.len
      omega
    have all : ∀ i, (ys ++ said (ds.take i)).length ≤ 260 := fun i => by
      have := said_len (ds := ds.take i) (n := 40) (fun d hd => kids4 d (List.mem_of_mem_take hd)) (by rw [List.length_take]; have := F.len; omega)
      rw [List.length_append]
      omega
    have big : ∀ {n : Nat}, n ≤ 270 → n < sizeLine := fun h => Nat.lt_of_le_of_lt h (by decide)
    refine ⟨_, rfl, f, rfl, ⟨_, .inl (.inl (sl _ _ hf))⟩, for_tup (K := K) (a := f) (xs := fs.map V.ref) (fun i σ H' => (∃ o3 o4, σ = [some (.ref t), some (.ref f), some (.ref l), o3, o4]) ∧ (∀ b x, b ≠ l → H1 b = some x → H' b = some x) ∧ H' l = some (.lst ((ys ++ said (ds.take i)).map V.str)))
      ⟨⟨none, none, rfl⟩, fun _ _ _ e => e, by rw [h1l]; simp [said]⟩ (fun i σ H' _ h => .inl (.inl (h.2.1 _ _ lf' (sl _ _ hf)))) (fun i x σ H2 hx h => ?_) (fun σ H2 h => ?_)⟩
    · obtain ⟨⟨o3, o4, rfl⟩, k2, e2⟩ := h
      have s2 : Same H H2 := fun b x e => k2 b x (ne_of_none e nl) (sl _ _ e)
      rw [List.getElem?_map] at hx
      obtain ⟨a, ha, rfl⟩ := Option.map_eq_some_iff.mp hx
      have il : i < ds.length := by
        have := (List.getElem?_eq_some_iff.mp ha).1
        have := F.len
        omega
      obtain ⟨ch, ts, FA⟩ := F.at_ i a ds[i] ha (List.getElem?_eq_getElem il)
      have hd : ds[i]? = some ds[i] := List.getElem?_eq_getElem il
      generalize ds[i] = d at FA hd
      obtain ⟨⟨dx, fa⟩, ka⟩ := FA.sm s2
      have al : a ≠ l := fun z => by
        rw [z, e2] at fa
        cases fa
      refine ⟨.ref l, rfl, .inl ⟨rfl, _, .inl (.inl e2)⟩, _, rfl, a, dx, _, rfl, fa, a, ch, dx, d.1, d.2.1, .str d.2.1, rfl, fa, by rfl, l, _, _, rfl, rfl, e2, big (by rw [List.length_map]; have := all i; omega), ?_⟩
      have fa1 : (upd H2 l (.lst ((ys ++ said (ds.take i)).map V.str ++ [.str d.2.1]))) a = some (.ins C dx (flds d.1 d.2.1 ch)) := by rw [upd_ne al]; exact fa
      have chl : ch ≠ l := fun z => by
        have q := ka.at_
        rw [z, e2] at q
        cases q
      refine ⟨.ref l, rfl, .inl ⟨rfl, _, .inl (.inl upd_same)⟩, _, rfl, a, dx, _, rfl, fa1, a, ch, dx, d.1, d.2.1, .ref ch, rfl, fa1, by rfl, ch, rfl, ⟨_, .inl (.inl (by rw [upd_ne chl]; exact ka.at_))⟩, fun D nD => ?_⟩
      generalize eH3 : upd H2 l (.lst ((ys ++ said (ds.take i)).map V.str ++ [.str d.2.1])) = H3 at nD ⊢
      have h3l : H3 l = some (.lst ((ys ++ said (ds.take i)).map V.str ++ [.str d.2.1])) := by rw [← eH3, upd_same]
      have h3 : ∀ b x, b ≠ l → H2 b = some x → H3 b = some x := fun b x n e => by rw [← eH3, upd_ne n]; exact e
      refine lc_tup (K := K) (a := ch) (xs := ts.map V.ref) (fun j H' => Same H3 H' ∧ H' D = some (.lst (((d.2.2.take j).map (·.1)).map V.str))) ⟨same_put nD (Same.refl _), upd_same⟩ (fun j H' _ h => .inl (.inl (h.1 _ _ (h3 _ _ chl ka.at_)))) (fun j x H4 hx h => ?_) (fun H4 h => ?_)
      · obtain ⟨s4, e4⟩ := h
        rw [List.getElem?_map] at hx
        obtain ⟨u, hu, rfl⟩ := Option.map_eq_some_iff.mp hx
        obtain ⟨⟨m, k⟩, hc', ku⟩ := ka.get hu
        have ul : u ≠ l := fun z => by
          have q := ku.at_
          rw [z, e2] at q
          cases q
        have u4 := s4 _ _ (h3 _ _ ul ku.at_)
        refine ⟨rfl, _, rfl, u, _, _, _, rfl, rfl, .inl (.inl u4), rfl, _, e4, ?_, same_put nD s4, ?_⟩
        · rw [List.length_map, List.length_map, List.length_take]
          exact big (by have := kids4 d (List.mem_of_getElem? hd); omega)
        · rw [upd_same, List.take_add_one, hc', List.map_append, List.map_append]
          rfl
      · obtain ⟨s4, e4⟩ := h
        rw [List.length_map] at e4
        have full : d.2.2.take ts.length = d.2.2 := List.take_of_length_le (Nat.le_of_eq ka.len.symm)
        rw [full] at e4
        have h4l := s4 _ _ h3l
        refine ⟨l, D, _, _, rfl, rfl, h4l, e4, ?_, ⟨_, _, rfl⟩, fun b x n e => ?_, ?_⟩
        · rw [List.length_append, List.length_map, List.length_map, List.length_map, List.length_singleton]
          have := kids4 d (List.mem_of_getElem? hd)
          have := all i
          exact Nat.le_of_lt (big (by omega))
        · rw [upd_ne n]
          exact s4 _ _ (h3 _ _ n (k2 b x n e))
        · rw [upd_same, said_take hd]
          simp [List.map_append]
    · obtain ⟨⟨o3, o4, rfl⟩, k2, e2⟩ := h
      have s2 : Same H H2 := fun b x e => k2 b x (ne_of_none e nl) (sl _ _ e)
      rw [List.length_map, F.len, List.take_of_length_le (Nat.le_refl _)] at e2
      have lt := all ds.length
      rw [List.take_of_length_le (Nat.le_refl _)] at lt
      refine ⟨_, rfl, l, ys ++ said ds, L, rfl, .inl (.inl (.inl e2)), by omega, sub, fun st c nst hc hcL => ?_⟩
      have s3 := same_new (o := TsO P w st (among (ys ++ said ds) (ys ++ said ds).length) c) nst
      refine ⟨st, ys ++ said ds, c, rfl, upd_same, by omega, fun zs p mem srt nd _ np => ?_⟩
      have s4 := same_new (o := .lst (zs.map V.str)) np
      refine ⟨p, _, rfl, .inl ⟨.inl (.inl upd_same), fun r nr => ?_⟩⟩
      have s5 := same_new (o := .tup (zs.map V.str)) nr
      exact q r zs _ (((s2.trans s3).trans s4).trans s5) upd_same mem srt nd
end
end K11
set_option Elab.async false
set_option linter.all false
set_option autoImplicit false
set_option maxRecDepth 100000
set_option maxHeartbeats 4000000
namespace K11
open PySem PySem.Spec PyProof.Rows L2 Vb Wd Xd Xo
/-- a scheme as the law writes it: its bare sort, its tops, its forms by name -/
structure PlainAt (H : Hp) (a tl d : Addr) (b : Str) (ts : List Str) (rows : List FD) (kvs : List (L2.Key × V)) : Prop where
  at_ : H a = some (.lst [.str b, .ref tl, .ref d])
  tops : H tl = some (.lst (ts.map V.str))
  dict : H d = some (.dK kvs)
  keys : kvs.map (·.1) = rows.map fun r => Sum.inr r.1
  row : ∀ r ∈ rows, ∃ (p ch : Addr) (ks : List Addr), valV kvs (Sum.inr r.1) = some (.ref p) ∧ H p = some (.tup [.str r.2.1, .ref ch]) ∧ Kids H ch ks r.2.2
  few : rows.length ≤ 40
  nam : ∀ r ∈ rows, isNam (.str r.1) = true ∧ isNam (.str r.2.1) = true
  bare : b.length ≤ 1000
  topl : ts.length ≤ 60 ∧ ∀ y ∈ ts, y.length ≤ 1000
  topj : (Txt.join " " ts).length ≤ 100000
end K11
set_option Elab.async false
set_option linter.all false
set_option autoImplicit false
set_option maxRecDepth 100000
set_option maxHeartbeats 4000000
/-! Xq: == of two objects of one own class by its __eq__, whatever it answers, in calm room. -/
namespace Xq
open PySem PySem.Spec PyProof.Rows L2 Vb
end Xq
set_option Elab.async false
set_option linter.all false
set_option autoImplicit false
set_option maxRecDepth 100000
set_option maxHeartbeats 4000000
/-! Xv: the special methods of own classes in calm room: len, str, ==, != and o[i]; class methods; a class held by a local. -/
namespace Xv
open PySem PySem.Spec PyProof.Rows L2 Vb Xd Xo
section
variable {X : Cx} {k : Nat} {f C : Addr} {fd : FuncData} {ps : List Str} {sp : Sp} {E : XK} {W : WX} {pins : List (Addr × Obj)} {σ : L2.St} {H : Hp} {s : Shared} {Q : VK} {us : List Value} {vs : List V}
/-- a def that lets nothing out, entered n builtins deeper -/
theorem run_deep {A : Around} (hA : A.frames = X.A.frames) (F : FnG X.prog X.w X.K X.mg X.base k f fd ps sp) (hc : Calm A) (hr : Room k A) (hb : Binds X.K fd ps []) (I : Inv X pins σ H s) (r : Vals vs us) (h : sp vs H Q E0) : wpAny (model X.prog X.w) A (call (.ref f) us) (EP X pins σ Q) X.xe s := by
  have hl : us.length = ps.length := r.length ▸ F.count _ _ _ _ h
  have b := hb s us I.kIn (by rw [List.append_nil]; exact hl)
  rw [List.append_nil] at b
  have e0 : Env0 X.prog X.w X.K X.mg X.base A X.stack s H := by
    have e := I.env0
    exact ⟨by rw [hA]; exact e.frames, e.mod, e.bs, e.bsz, e.funs, e.frf, e.hok, e.bare⟩
  refine wpAny_call (codeAny_mono (F.goes A X.stack s H ⟨us, []⟩ us vs Q E0 hc hr e0 b r h) fun y s' hq => ?_)
  match y, hq with
  | .error er, hq => exact False.elim hq
  | .ok (.ret u), hq => exact I.after hq
  | .ok .next, hq => exact hq.elim
  | .ok .brk, hq => exact hq.elim
  | .ok .cont, hq => exact hq.elim
/-- .. that may let an error out -/
theorem run_deepE {A : Around} (hA : A.frames = X.A.frames) (F : FnE X.prog X.w X.K X.mg X.base k f fd ps sp) (hc : Calm A) (hr : Room k A) (hb : Binds X.K fd ps []) (tk : Takes X W) (hW : ∀ cls d σ H, E cls d H → W cls d σ H) (I : Inv X pins σ H s) (r : Vals vs us) (h : sp vs H Q E) :
    wpAny (model X.prog X.w) A (call (.ref f) us) (EP X pins σ Q) X.xe s := by
  have hl : us.length = ps.length := r.length ▸ F.count _ _ _ _ h
  have b := hb s us I.kIn (by rw [List.append_nil]; exact hl)
  rw [List.append_nil] at b
  have e0 : Env0 X.prog X.w X.K X.mg X.base A X.stack s H := by
    have e := I.env0
    exact ⟨by rw [hA]; exact e.frames, e.mod, e.bs, e.bsz, e.funs, e.frf, e.hok, e.bare⟩
  refine wpAny_call (codeAny_mono (F.goes A X.stack s H ⟨us, []⟩ us vs Q E hc hr e0 b r h) fun y s' hq => ?_)
  match y, hq with
  | .error er, hq => exact passes_call tk hW pins σ H s er s' I hq
  | .ok (.ret u), hq => exact I.after hq
  | .ok .next, hq => exact hq.elim
  | .ok .brk, hq => exact hq.elim
  | .ok .cont, hq => exact hq.elim
end
section
variable {X : Cx} {k : Nat} {f C : Addr} {fd : FuncData} {ps : List Str} {sp : Sp} {E : XK} {W : WX}
/-- len(o) -/
def rLenO (C : Addr) (sp : Sp) : List V → Hp → VK → Prop := fun xs H Q => ∃ a dx fs, xs = [.ref a] ∧ H a = some (.ins C dx fs) ∧ sp [.ref a] H (fun v H' => ∃ n : Int, v = .int n ∧ 0 ≤ n ∧ n < 2 ^ 63 ∧ Q (.int n) H') E0
theorem call_lenO (F : FnG X.prog X.w X.K X.mg X.base k f fd ps sp) (hs : PySem.W.findIn X.K (.ref C) "__len__" = some (some (.ref f))) (hf : PySem.W.isFn X.K (.ref f) = true) (hb : Binds X.K fd ps []) (hc : Calm X.A) (hr : Room (k + 1) X.A) : CallR X (.builtin "len") (rLenO C sp) := by
  intro pins s σ H xs us Q I r h
  obtain ⟨a, dx, fs, rfl, ha, hq⟩ := h
  obtain ⟨u, rfl, r1⟩ := vals1 r
  cases (show u = Value.ref a from r1)
  obtain ⟨mA, J, _⟩ := ins_get I.hok ha
  obtain ⟨od, J, _⟩ := J.look
  obtain ⟨m, hF⟩ := I.fr
  refine PySem.W.len_K hF I.ok.mod.kin J hs hf (thn (run_deep (vs := [.ref a]) rfl F hc hr.in1 hb I (.cons rfl .nil) hq) fun v s' hv => ?_)
  obtain ⟨z, H', I', rz, n, ez, n0, n1, q⟩ := hv
  subst ez
  obtain ⟨t, rfl⟩ := (show ∃ t, v = Value.int n t from rz)
  exact ⟨⟨n0, n1⟩, .int n, H', I'.tok _, ⟨_, rfl⟩, q⟩
end
/-! ### != of two objects whose class has an own == and no own != -/
section
variable {X : Cx} {k : Nat} {f C : Addr} {fd : FuncData} {ps : List Str} {sp : Sp}
/-- o[i], what __getitem__ lets out is taken -/
def tItO (C : Addr) (sp : Sp) (E : XK) (ta tb : TE) : TE := fun σ H Q => ta σ H fun x H1 => tb σ H1 fun y H2 => ∃ a dx fs, x = .ref a ∧ H2 a = some (.ins C dx fs) ∧ sp [.ref a, y] H2 Q E
theorem pe_itemO {W : WX} {E : XK} {o i : Expr} {ta tb : TE} {pos : Pos} (ho : PE X o ta) (hi : PE X i tb) (F : FnE X.prog X.w X.K X.mg X.base k f fd ps sp) (hs : PySem.W.findIn X.K (.ref C) "__getitem__" = some (some (.ref f))) (hfn : PySem.W.fnIn X.K f = true) (hf : PySem.W.isFn X.K (.ref f) = true) (hb : Binds X.K fd ps [])
    (hc : Calm X.A) (hr : Room (k + 1) X.A) (tk : Takes X W) (hW : ∀ cls d σ H, E cls d H → W cls d σ H) (hsl : ∀ (a : Addr) (v : Value), subscripted i true (.ref a) v = runValue (.builtin "lifetime.subscript" ⟨[.ref a, v], []⟩) := by with_unfolding_all (intro _ _; rfl)) :
    PE X (.Subscript o i pos) (tItO C sp E ta tb) := by
  refine ⟨fun pins s σ H Q I h => ?_⟩
  refine Subscript_ (binT ho hi I (R := fun x y H2 => ∃ a dx fs, x = V.ref a ∧ H2 a = some (.ins C dx fs) ∧ sp [.ref a, y] H2 Q E) h fun v u s2 x y H2 I2 rx ry q => ?_)
  obtain ⟨a, dx, fs, rfl, ha, hq⟩ := q
  cases rx
  obtain ⟨mA, J, _⟩ := ins_get I2.hok ha
  obtain ⟨od, J, _⟩ := J.look
  obtain ⟨m, hF⟩ := I2.fr
  exact PySem.W.sub_K hF I2.ok.mod.kin J hs hfn hf (run_deepE (vs := [.ref a, y]) rfl F hc hr.in1 hb tk hW I2 (.cons rfl (.cons ry .nil)) hq) (hsl _ _)
end
end Xv
set_option Elab.async false
set_option linter.all false
set_option autoImplicit false
set_option maxRecDepth 100000
set_option maxHeartbeats 4000000
namespace K11
open PySem PySem.Spec PyProof.Rows L2 Vb Wd Xd Xo Xq Xv StX
def fldsS (b : Str) (t bn nm f so : Addr) : List (Str × V) := [("_bare", .str b), ("_tops", .ref t), ("_by_name", .ref bn), ("_names", .ref nm), ("_forms", .ref f), ("_sorts", .ref so)]
end K11
set_option Elab.async false
set_option linter.all false
set_option autoImplicit false
set_option maxRecDepth 100000
set_option maxHeartbeats 4000000
/-! Na: what a search among tuples of any depth asks of them; lists without repetition. -/
namespace Na
open PySem PySem.Spec PyProof.Rows L2 Vb
/-! ### lists without repetition -/
theorem same_count {α : Type} [DecidableEq α] : ∀ (ys out : List α), out.Nodup → (∀ k, k ∈ out ↔ k ∈ ys) → out.length ≤ ys.length ∧ (out.length = ys.length ↔ ys.Nodup)
  | [], out, nd, m => by
    have e : out = [] := List.eq_nil_iff_forall_not_mem.mpr fun k hk => nomatch (m k).mp hk
    subst e
    exact ⟨Nat.le_refl _, fun _ => List.nodup_nil, fun _ => rfl⟩
  | y :: ys, out, nd, m => by
    have few := Ts.nodup_len out (y :: ys) nd fun k hk => (m k).mp hk
    refine ⟨few, fun e => ?_, fun nd' => ?_⟩
    · by_cases hy : y ∈ ys
      · have := Ts.nodup_len out ys nd fun k hk => (List.mem_cons.mp ((m k).mp hk)).elim (fun q => q ▸ hy) id
        rw [List.length_cons] at e
        omega
      · have my : y ∈ out := (m y).mpr List.mem_cons_self
        have nd2 : (out.erase y).Nodup := nd.erase y
        have m2 : ∀ k, k ∈ out.erase y ↔ k ∈ ys := fun k => by
          rw [nd.mem_erase_iff]
          refine ⟨fun ⟨n, h⟩ => (List.mem_cons.mp ((m k).mp h)).resolve_left n, fun h => ⟨fun q => hy (q ▸ h), (m k).mpr (List.mem_cons_of_mem _ h)⟩⟩
        have l2 : (out.erase y).length = ys.length := by
          rw [List.length_erase_of_mem my, e]
          rfl
        exact List.nodup_cons.mpr ⟨hy, ((same_count ys (out.erase y) nd2 m2).2).mp l2⟩
    · exact Nat.le_antisymm few (Ts.nodup_len (y :: ys) out nd' fun k hk => (m k).mpr hk)
/-! ### what is asked of a tuple -/
section
variable {P : Program} {w : World} {s : Shared}
/-- the question f about v is answered by some b of which p is true, and nothing else happens -/
def Ans (P : Program) (w : World) (f : Value → Sem Bool) (s : Shared) (p : Bool → Prop) (v : Value) : Prop := ∀ (A : Around) (E : Value → Shared → Prop) (Q : Bool → Shared → Prop), (∀ b, p b → Q b s) → wpAny (model P w) A (f v) Q E s
theorem cls_of_tup {n m : Nat} {a : Addr} {ob : Obj} {us : Array Value} (eo : s.heap.get? a = some ob) (ec : ob.cls = .type "tuple") (ed : ob.data = .seq us m) (all : ∀ u ∈ us.toList, Ans P w (ofAClassStatement n) s (· = false) u) :
    Ans P w (ofAClassStatement (n + 1)) s (· = false) (.ref a) := fun A E Q q => by
  have ty : s.TypeIs (.ref a) "tuple" := ⟨ob, eo, ec⟩
  unfold ofAClassStatement
  refine wpAny_bind (wpAny_typeOf ty ?_)
  dsimp only
  simp only [beq_self_eq_true, if_true]
  refine wpAny_bind (wpAny_pure ?_)
  simp only [Bool.not_true, Bool.false_eq_true, if_false]
  show wpAny _ _ (seqItems? (.ref a) >>= _) _ _ s
  refine wpAny_bind (wpAny_seqItems eo ed ?_)
  dsimp only
  refine wpAny_bind ?_
  show wpAny _ _ (forIn us _ _) _ _ s
  rw [← Array.forIn_toList]
  refine wpAny_forIn_list _ (fun l r s1 => s1 = s ∧ r.1 = none ∧ ∀ u ∈ l, Ans P w (ofAClassStatement n) s (· = false) u) _ ?_ ?_ _ _ ⟨rfl, rfl, all⟩
  · rintro u l r s1 ⟨rfl, er, h⟩
    refine wpAny_bind (h u List.mem_cons_self A _ _ fun b hb => ?_)
    subst hb
    simp only [Bool.false_eq_true, if_false]
    exact wpAny_pure ⟨rfl, rfl, fun u' hu => h u' (List.mem_cons_of_mem _ hu)⟩
  · rintro ⟨r1, r2⟩ s1 ⟨rfl, er, _⟩
    simp only at er
    subst er
    exact wpAny_pure (q false rfl)
theorem val_of_tup {n m : Nat} {a : Addr} {ob : Obj} {us : Array Value} (eo : s.heap.get? a = some ob) (ec : ob.cls = .type "tuple") (ed : ob.data = .seq us m) (all : ∀ u ∈ us.toList, Ans P w (hashByValue n) s (fun _ => True) u) :
    Ans P w (hashByValue (n + 1)) s (fun _ => True) (.ref a) := fun A E Q q => by
  have ty : s.TypeIs (.ref a) "tuple" := ⟨ob, eo, ec⟩
  unfold hashByValue
  refine wpAny_bind (wpAny_specialOf ty PySem.F.slot_tuple_hash.lookup ?_)
  show wpAny _ _ (seqItems? (.ref a) >>= _) _ _ s
  refine wpAny_bind (wpAny_seqItems eo ed (wpAny_bind ?_))
  show wpAny _ _ (forIn us _ _) _ _ s
  rw [← Array.forIn_toList]
  refine wpAny_forIn_list _ (fun l r s1 => s1 = s ∧ r.1 = none ∧ ∀ u ∈ l, Ans P w (hashByValue n) s (fun _ => True) u) _ ?_ ?_ _ _ ⟨rfl, rfl, all⟩
  · rintro u l r s1 ⟨rfl, er, h⟩
    refine wpAny_bind (h u List.mem_cons_self A _ _ fun b _ => ?_)
    cases b with
    | true =>
      simp only [Bool.not_true, Bool.false_eq_true, if_false]
      exact wpAny_pure ⟨rfl, rfl, fun u' hu => h u' (List.mem_cons_of_mem _ hu)⟩
    | false =>
      simp only [Bool.not_false, if_true]
      exact wpAny_pure (wpAny_pure (q false trivial))
  · rintro ⟨r1, r2⟩ s1 ⟨rfl, er, _⟩
    simp only at er
    subst er
    exact wpAny_pure (q true trivial)
theorem cls_flat (n : Nat) {v : Value} (h : ∀ a, v ≠ .ref a) : Ans P w (ofAClassStatement n) s (· = false) v := fun A E Q q => by
  have e : ofAClassStatement n v = pure false := by
    cases v with
    | ref a => exact absurd rfl (h a)
    | _ => cases n <;> rfl
  rw [e]
  exact wpAny_pure (q false rfl)
mutual
theorem cls_key : ∀ (k : NestedKey) (v : Value) (n : Nat), NestedIs s.heap k v → k.depth ≤ n → Ans P w (ofAClassStatement n) s (· = false) v
  | .none, _, n, x, _ => by cases x; exact cls_flat n fun a z => nomatch z
  | .num _, _, n, x, _ => by cases x <;> exact cls_flat n fun a z => nomatch z
  | .text _, _, n, x, _ => by cases x; exact cls_flat n fun a z => nomatch z
  | .tup ks, _, n, x, d => by
    cases x with
    | tup eo ec ed al =>
      simp only [NestedKey.depth] at d
      cases n with
      | zero => omega
      | succ n => exact cls_of_tup eo ec ed (cls_keys ks _ n al (by omega))
theorem cls_keys : ∀ (ks : List NestedKey) (us : List Value) (n : Nat), NestedAll s.heap ks us → NestedKey.depthAll ks ≤ n → ∀ u ∈ us, Ans P w (ofAClassStatement n) s (· = false) u
  | [], _, _, x, _, u, hu => by cases x; cases hu
  | k :: ks, _, n, x, d, u, hu => by
    cases x with
    | cons x1 x2 =>
      simp only [NestedKey.depthAll] at d
      rcases List.mem_cons.mp hu with rfl | hu
      · exact cls_key k _ n x1 (by omega)
      · exact cls_keys ks _ n x2 (by omega) u hu
end
mutual
theorem val_key : ∀ (k : NestedKey) (v : Value) (n : Nat), NestedIs s.heap k v → k.depth ≤ n → Ans P w (hashByValue n) s (fun _ => True) v
  | .none, _, n, x, _ => by
    cases x
    exact fun A E Q q => by cases n <;> exact wpAny_pure (q true trivial)
  | .num _, _, n, x, _ => by cases x <;> exact fun A E Q q => by cases n <;> exact wpAny_pure (q true trivial)
  | .text _, _, n, x, _ => by
    cases x
    exact fun A E Q q => by cases n <;> exact wpAny_pure (q false trivial)
  | .tup ks, _, n, x, d => by
    cases x with
    | tup eo ec ed al =>
      simp only [NestedKey.depth] at d
      cases n with
      | zero => omega
      | succ n => exact val_of_tup eo ec ed (val_keys ks _ n al (by omega))
theorem val_keys : ∀ (ks : List NestedKey) (us : List Value) (n : Nat), NestedAll s.heap ks us → NestedKey.depthAll ks ≤ n → ∀ u ∈ us, Ans P w (hashByValue n) s (fun _ => True) u
  | [], _, _, x, _, u, hu => by cases x; cases hu
  | k :: ks, _, n, x, d, u, hu => by
    cases x with
    | cons x1 x2 =>
      simp only [NestedKey.depthAll] at d
      rcases List.mem_cons.mp hu with rfl | hu
      · exact val_key k _ n x1 (by omega)
      · exact val_keys ks _ n x2 (by omega) u hu
end
/-- the key k, a tuple, stands at b -/
def Key (h : Heap) (k : NestedKey) (b : Addr) : Prop := NestedIs h k (.ref b) ∧ k.depth ≤ 8
theorem Key.at {h h' : Heap} {k : NestedKey} {b : Addr} (x : Key h k b) (hk : ∀ c o us n, h.get? c = some o → o.data = .seq us n → h'.get? c = some o) : Key h' k b := ⟨x.1.at hk k _, x.2⟩
theorem Key.ext {h h' : Heap} {k : NestedKey} {b : Addr} (x : Key h k b) (hk : ∀ c o, h.get? c = some o → h'.get? c = some o) : Key h' k b := x.at fun c o _ _ e _ => hk c o e
theorem Key.but {h h' : Heap} {k : NestedKey} {a b : Addr} {ob : Obj} {es : Array (Int × Value)} {ep : Nat} {t : SetTable} (x : Key h k b) (eo : h.get? a = some ob) (ed : ob.data = .set es ep t) (sb : Heap.SameBut a h h') : Key h' k b :=
  x.at fun c o us n e d => (sb.2 c fun z => by
    rw [z, eo] at e
    cases e
    rw [ed] at d
    cases d).trans e
/-- a search among tuples shows nothing -/
theorem unseen {A : Around} {E : Value → Shared → Prop} {Q : Bool → Shared → Prop} {k : NestedKey} {b : Addr} (x : Key s.heap k b) {ys : List Value} (hy : ∀ y ∈ ys, ∃ k' c, y = Value.ref c ∧ Key s.heap k' c) (q : Q false s) : wpAny (model P w) A (searchCouldBeSeen (.ref b) ys) Q E s := by
  unfold searchCouldBeSeen
  refine wpAny_bind ?_
  refine wpAny_forIn_list _ (fun l r s1 => s1 = s ∧ r.1 = none ∧ ∀ y ∈ l, ∃ k' c, y = Value.ref c ∧ Key s.heap k' c) _ ?_ ?_ _ _ ⟨rfl, rfl, hy⟩
  · rintro y l r s1 ⟨rfl, er, h⟩
    obtain ⟨k', c, rfl, xc⟩ := h y List.mem_cons_self
    have h' : ∀ y ∈ l, ∃ k' c, y = Value.ref c ∧ Key s1.heap k' c := fun u hu => h u (List.mem_cons_of_mem _ hu)
    dsimp only
    by_cases same : (b == c || (carriedByValue (.ref b) && carriedByValue (.ref c))) = true
    · exact wp_if_pos same (wpAny_pure ⟨rfl, rfl, h'⟩)
    · refine wp_if_neg same (wpAny_bind ((nestedKind P w).quiet x ?_))
      simp only [Bool.not_true, Bool.false_eq_true, if_false]
      refine wpAny_bind ((nestedKind P w).quiet xc ?_)
      simp only [Bool.not_true, Bool.false_eq_true, if_false]
      refine wpAny_bind (cls_key k _ 8 x.1 x.2 A _ _ fun b1 e1 => ?_)
      subst e1
      simp only [Bool.false_eq_true, if_false]
      refine wpAny_bind (cls_key k' _ 8 xc.1 xc.2 A _ _ fun b1 e1 => ?_)
      subst e1
      simp only [Bool.false_eq_true, if_false]
      exact wpAny_pure ⟨rfl, rfl, h'⟩
  · rintro ⟨r1, r2⟩ s1 ⟨rfl, er, _⟩
    simp only at er
    subst er
    exact wpAny_pure q
end
end Na
set_option Elab.async false
set_option linter.all false
set_option autoImplicit false
set_option maxRecDepth 100000
set_option maxHeartbeats 4000000
/-! Nb: the table of a set of tuples of any depth: a search in it, one more put in, the table laid anew. -/
namespace Nb
open PySem PySem.Spec PyProof.Rows L2 Vb Na
section
variable {P : Program} {w : World} {A : Around} {E : Value → Shared → Prop} {s : Shared}
abbrev Mem := NestedKey × Addr
def ents (w : World) (ms : List Mem) : List (Int × Value) := ms.map fun m => (m.1.hash w, Value.ref m.2)
def hshs (w : World) (ms : List Mem) : List Int := ms.map fun m => m.1.hash w
/-- the state of a search behind c steps -/
def stn (m : Nat) (h : Int) (c : Nat) : SetTable.Probe := nth m (runAt m (SetTable.bits h % (m + 1)) (SetTable.bits h)) c
theorem stn_add (m : Nat) (h : Int) (c q : Nat) : nth m (stn m h c) q = stn m h (c + q) := (nth_add m c _ q).symm
theorem nth_dummy (m : Nat) : ∀ (n : Nat) (p : SetTable.Probe), p.dummy = none → (nth m p n).dummy = none
  | 0, _, h => h
  | n + 1, p, h => nth_dummy m n (adv m p) (by
      unfold adv
      split <;> exact h)
theorem stn_dummy (m : Nat) (h : Int) (c : Nat) : (stn m h c).dummy = none := nth_dummy m c _ rfl
/-- the set at a has just the keys of ms, each once -/
structure Tab (w : World) (h : Heap) (a : Addr) (ms : List Mem) (es : Array (Int × Value)) (ep : Nat) (t : SetTable) : Prop where
  obj : ∃ ob, h.get? a = some ob ∧ ob.ExactSet ∧ ob.data = .set es ep t
  rows : es.toList = ents w ms
  tab : TabOk t (hshs w ms)
  once : (ms.map (·.1)).Nodup
  keys : ∀ m ∈ ms, Key h m.1 m.2
  room : ms.length * 5 < t.mask * 3
  few : ms.length < 64
variable {a : Addr} {ms : List Mem} {es : Array (Int × Value)} {ep : Nat} {t : SetTable}
theorem ents_len (w : World) (ms : List Mem) : (ents w ms).length = ms.length := List.length_map ..
theorem hshs_len (w : World) (ms : List Mem) : (hshs w ms).length = ms.length := List.length_map ..
theorem Tab.size (T : Tab w s.heap a ms es ep t) : es.size = ms.length := by
  rw [← Array.length_toList, T.rows, ents_len]
theorem Tab.psize (T : Tab w s.heap a ms es ep t) : t.place.size = ms.length := T.tab.sz.trans (hshs_len w ms)
theorem fits_of {t : SetTable} {n : Nat} (dm : t.dummies = #[]) (p : t.place.size = n) (h : n ≤ t.mask) : t.fits n = true := by
  unfold SetTable.fits SetTable.fill
  rw [dm, p]
  simp only [List.size_toArray, List.length_nil, Nat.add_zero, beq_self_eq_true, Bool.true_and, decide_eq_true_eq]
  exact h
theorem Tab.fit (T : Tab w s.heap a ms es ep t) : t.fits es.size = true := fits_of T.tab.dm (T.psize.trans T.size.symm) (by
  have := T.room
  have := T.size
  omega)
theorem Tab.row (T : Tab w s.heap a ms es ep t) {i : Nat} {m : Mem} (e : ms[i]? = some m) : es[i]? = some (m.1.hash w, Value.ref m.2) := by
  have q : es.toList[i]? = some (m.1.hash w, Value.ref m.2) := by
    rw [T.rows]
    show (ms.map _)[i]? = _
    rw [List.getElem?_map, e]
    rfl
  rw [Array.getElem?_toList] at q
  exact q
theorem Tab.stays (T : Tab w s.heap a ms es ep t) : ¬ t.gaveWay = true := by
  unfold SetTable.gaveWay
  rw [mask_odd T.tab.mok]
  decide
/-- the search, c steps behind its start -/
theorem look_from (T : Tab w s.heap a ms es ep t) {k : NestedKey} {b : Addr} (x : Key s.heap k b) (hu : A.units + 8 < cLine) {z : Nat} (lz : z < 10 * SetTable.turns t.mask) (free : way t.mask (k.hash w) z ∉ t.place.toList) (full : ∀ c, c < z → way t.mask (k.hash w) c ∈ t.place.toList)
    {Q : SetFound → Shared → Prop} (there : k ∈ ms.map (·.1) → Q (.there none) s) (gone : k ∉ ms.map (·.1) → Q (.free (way t.mask (k.hash w) z) false) s) :
    ∀ (f c : Nat) (p : Option SetTable.Probe), p.getD (t.probeStart (k.hash w)) = stn t.mask (k.hash w) c → c ≤ z → z < f + c → (∀ (i : Nat) (m : Mem), ms[i]? = some m → m.1 = k → ∃ c', c ≤ c' ∧ c' < z ∧ t.place.toList[i]? = some (way t.mask (k.hash w) c')) →
      wpAny (model P w) A (setSearchFrom a (.ref b) (k.hash w) true f p) Q E s := by
  intro f
  induction f with
  | zero =>
    intro c p _ h1 h2 _
    omega
  | succ f again =>
    intro c p ep0 hc hf ahead
    obtain ⟨ob, eo, _, ed⟩ := T.obj
    have hashAt : ∀ (i : Nat) (m : Mem), ms[i]? = some m → (es[i]?.map (·.1)).getD 0 = m.1.hash w := fun i m e => by
      rw [T.row e]
      rfl
    have onway : ∀ q, (nth t.mask (stn t.mask (k.hash w) c) q).j = way t.mask (k.hash w) (c + q) := fun q => by
      rw [stn_add]
      rfl
    have spec := go_spec t T.tab.ris T.tab.dm (fun i => (es[i]?.map (·.1)).getD 0) (k.hash w) (10 * SetTable.turns t.mask) (z - c) (stn t.mask (k.hash w) c) (stn_dummy ..) (by omega)
      (fun q hq => by
        rw [onway]
        exact full _ (by omega))
      (by
        rw [onway, show c + (z - c) = z by omega]
        exact free)
    rw [setSearchFrom_succ]
    refine wpAny_bind (wpAny_setState_of eo ed T.fit ?_)
    dsimp only
    refine wp_if_neg T.stays ?_
    refine wpAny_bind (wpAny_pure ?_)
    rcases spec with ⟨q, i, hq, pi, _, earlier, found⟩ | ⟨never, found⟩
    · -- what has the same hash
      rw [onway] at pi
      have met : t.probe (fun i => (es[i]?.map (·.1)).getD 0) (k.hash w) (p.getD (t.probeStart (k.hash w))) = some (.candidate (way t.mask (k.hash w) (c + q)) i (stn t.mask (k.hash w) (c + (q + 1)))) := by
        rw [ep0, ← onway, ← stn_add]
        exact found
      rw [met]
      dsimp only
      have il : i < ms.length := by
        have h1 := (List.getElem?_eq_some_iff.mp pi).1
        have h2 := T.psize
        rw [Array.length_toList] at h1
        omega
      have em : ms[i]? = some ms[i] := List.getElem?_eq_getElem il
      generalize ms[i] = m at em
      have mm : m ∈ ms := List.mem_of_getElem? em
      have live : t.slot (way t.mask (k.hash w) (c + q)) = .live i := slot_live T.tab.ris pi
      have behind : wpAny (model P w) A (searchRest a (.ref b) (k.hash w) true f es t (way t.mask (k.hash w) (c + q)) i (stn t.mask (k.hash w) (c + (q + 1)))) Q E s := by
        unfold searchRest
        rw [T.row em]
        dsimp only
        refine wpAny_bind (wpAny_holding ((nestedKind P w).eqBool hu (T.keys m mm) x ?_))
        refine wpAny_bind (wpAny_setState_of eo ed T.fit ?_)
        dsimp only
        by_cases same : m.1 = k
        · refine wp_if_pos (by simp [same]) (wpAny_pure (there ?_))
          exact List.mem_map.mpr ⟨m, mm, same⟩
        · refine wp_if_neg (by simp [same]) ?_
          refine wpAny_bind (wpAny_pure ?_)
          rw [sameMem]
          dsimp only
          simp only [if_true, live, T.row em]
          refine wpAny_bind (wpAny_isSame_ref_self (wpAny_bind (wpAny_pure ?_)))
          simp only [if_true]
          refine wp_if_neg (by simp [same]) (again (c + (q + 1)) _ rfl (by omega) (by omega) fun i' m' e' k' => ?_)
          obtain ⟨c', l1, l2, pc⟩ := ahead i' m' e' k'
          refine ⟨c', ?_, l2, pc⟩
          rcases Nat.lt_trichotomy c' (c + q) with g | g | g
          · refine absurd ((hashAt i' m' e').trans (congrArg (NestedKey.hash w) k')) (earlier (c' - c) i' (by omega) ?_)
            rw [onway, show c + (c' - c) = c' by omega]
            exact pc
          · rw [g] at pc
            have l' := slot_live T.tab.ris pc
            rw [live] at l'
            cases l'
            cases em.symm.trans e'
            exact absurd k' same
          · omega
      by_cases led : t.led = true
      · refine wp_if_neg (by simp [led]) ?_
        exact wpAny_bind (wpAny_pure behind)
      · refine wp_if_pos (by simp [led]) (wpAny_bind (unseen x (fun y hy => ?_) ?_))
        · obtain ⟨e, he, rfl⟩ := List.mem_map.mp hy
          have he' : e ∈ es ∧ e.1 = k.hash w := by simpa using he
          have he2 : e ∈ ents w ms := by
            rw [← T.rows]
            simpa using he'.1
          obtain ⟨m', hm', rfl⟩ := List.mem_map.mp he2
          exact ⟨m'.1, m'.2, rfl, T.keys m' hm'⟩
        · refine wp_if_neg (by decide) ?_
          exact wpAny_bind (wpAny_pure behind)
    · -- the first free place
      have met : t.probe (fun i => (es[i]?.map (·.1)).getD 0) (k.hash w) (p.getD (t.probeStart (k.hash w))) = some (.empty (way t.mask (k.hash w) z) none) := by
        have e2 := onway (z - c)
        rw [show c + (z - c) = z by omega] at e2
        rw [ep0, ← e2]
        exact found
      rw [met]
      dsimp only
      refine wpAny_pure (gone fun mem => ?_)
      obtain ⟨m, hm, ek⟩ := List.mem_map.mp mem
      obtain ⟨i, il, e⟩ := List.getElem_of_mem hm
      have ei : ms[i]? = some m := by rw [List.getElem?_eq_getElem il, e]
      obtain ⟨c', l1, l2, pc⟩ := ahead i m ei ek
      refine never (c' - c) i (by omega) ?_ ((hashAt i m ei).trans (congrArg (NestedKey.hash w) ek))
      rw [onway, show c + (c' - c) = c' by omega]
      exact pc
/-- the search ahead of putting in -/
theorem look (T : Tab w s.heap a ms es ep t) {k : NestedKey} {b : Addr} (x : Key s.heap k b) (hu : A.units + 8 < cLine) {Q : SetFound → Shared → Prop} (there : k ∈ ms.map (·.1) → Q (.there none) s)
    (gone : ∀ z, k ∉ ms.map (·.1) → way t.mask (k.hash w) z ∉ t.place.toList → (∀ c, c < z → way t.mask (k.hash w) c ∈ t.place.toList) → Q (.free (way t.mask (k.hash w) z) false) s) : wpAny (model P w) A (setSearch a (.ref b) (k.hash w) true) Q E s := by
  have room := T.room
  obtain ⟨z, lz, free, full⟩ := T.tab.first (by
    rw [hshs_len]
    omega) (k.hash w)
  have turns : 10 * SetTable.turns t.mask < 100000 := by
    unfold SetTable.turns
    rcases T.tab.mok with e | e | e <;> omega
  unfold setSearch
  refine look_from T x hu lz free full there (fun n => gone z n free full) 100000 0 none rfl (Nat.zero_le _) (by omega) fun i m em ek => ?_
  have hi : (hshs w ms)[i]? = some (k.hash w) := by
    show (ms.map _)[i]? = _
    rw [List.getElem?_map, em, ← ek]
    rfl
  have il : i < t.place.toList.length := by
    have h1 := (List.getElem?_eq_some_iff.mp em).1
    have h2 := T.psize
    rw [Array.length_toList]
    omega
  obtain ⟨c, hc, e⟩ := T.tab.before free hi (List.getElem?_eq_getElem il)
  exact ⟨c, Nat.zero_le _, hc, by rw [List.getElem?_eq_getElem il, e]⟩
/-! ### one more -/
theorem ents_put (ms : List Mem) (p : Nat) (m : Mem) : ents w (ms.take p ++ m :: ms.drop p) = (ents w ms).take p ++ (m.1.hash w, Value.ref m.2) :: (ents w ms).drop p := by
  simp [ents, List.map_take, List.map_drop]
theorem hshs_put (ms : List Mem) (p : Nat) (m : Mem) : hshs w (ms.take p ++ m :: ms.drop p) = (hshs w ms).take p ++ m.1.hash w :: (hshs w ms).drop p := by
  simp [hshs, List.map_take, List.map_drop]
theorem picked {α : Type} (l : List α) : ∀ n, n ≤ l.length → (List.range n).filterMap (fun i => l[i]?) = l.take n
  | 0, _ => rfl
  | n + 1, h => by
    have lt : n < l.length := h
    rw [List.range_succ, List.filterMap_append, picked l n (Nat.le_of_lt lt), List.take_add_one, List.getElem?_eq_getElem lt]
    simp [List.filterMap_cons, List.getElem?_eq_getElem lt]
/-- entries taken in another order -/
theorem ents_order (ms : List Mem) (es : Array (Int × Value)) (r : es.toList = ents w ms) : ∀ l : List Nat, (∀ i ∈ l, i < ms.length) →
    ∃ ms', l.filterMap (fun i => ms[i]?) = ms' ∧ l.filterMap (fun i => es[i]?) = ents w ms' ∧ hshs w ms' = l.map fun i => (es.map (·.1)).getD i 0
  | [], _ => ⟨[], rfl, rfl, rfl⟩
  | i :: l, h => by
    obtain ⟨ms', e1, e2, e3⟩ := ents_order ms es r l fun j hj => h j (List.mem_cons_of_mem _ hj)
    have il := h i List.mem_cons_self
    have en : es[i]? = some ((ms[i]).1.hash w, Value.ref (ms[i]).2) := by
      rw [← Array.getElem?_toList, r]
      show (ms.map _)[i]? = _
      rw [List.getElem?_map, List.getElem?_eq_getElem il]
      rfl
    refine ⟨ms[i] :: ms', ?_, ?_, ?_⟩
    · rw [List.filterMap_cons_some (List.getElem?_eq_getElem il), e1]
    · rw [List.filterMap_cons_some en, e2]
      rfl
    · have e5 : (es.map (·.1))[i]? = some ((ms[i]).1.hash w) := by
        rw [Array.getElem?_map, en]
        rfl
      rw [List.map_cons, ← e3, Array.getD_eq_getD_getElem?, e5]
      rfl
/-- the table is laid anew, and is larger -/
theorem relay {ob : Obj} (eo : s.heap.get? a = some ob) (ex : ob.ExactSet) (ed : ob.data = .set es ep t) (r : es.toList = ents w ms) (dm : t.dummies = #[]) (ps : t.place.size = ms.length) (le : ms.length ≤ t.mask) (once : (ms.map (·.1)).Nodup) (keys : ∀ m ∈ ms, Key s.heap m.1 m.2) (few : ms.length < 64)
    {n M : Nat} (hM : SetTable.sizeAbove n - 1 = M) (ok : MaskOk M) (small : SetTable.sizeAbove n ≤ 128) (room : ms.length * 5 < M * 3) {Q : Unit → Shared → Prop} (q : ∀ h' ms' es' ep' t', Heap.SameBut a s.heap h' → Tab w h' a ms' es' ep' t' → ms'.Perm ms → Q () { s with heap := h' }) :
    wpAny (model P w) A (setRelay a n) Q E s := by
  have sz : es.size = ms.length := by rw [← Array.length_toList, r, ents_len]
  obtain ⟨t', order, e, pm, T, em, _, _, _⟩ := relaid_ok t (hs := es.map (·.1)) (wanted := n) hM ok (by
    rw [Array.size_map, sz]
    omega)
  rw [Array.size_map, sz] at pm
  obtain ⟨ms', o1, o2, o3⟩ := ents_order (w := w) ms es r order.toList fun i hi => List.mem_range.mp (pm.mem_iff.mp hi)
  rw [← o3] at T
  have pm' : ms'.Perm ms := by
    rw [← o1]
    have := pm.filterMap fun i => ms[i]?
    rw [picked ms ms.length (Nat.le_refl _), List.take_length] at this
    exact this
  have r' : (order.filterMap (es[·]?)).toList = ents w ms' := by
    rw [Array.toList_filterMap]
    exact o2
  have sz' : (order.filterMap (es[·]?)).size = ms.length := by rw [← Array.length_toList, r', ents_len, pm'.length_eq]
  have fit : t.fits es.size = true := fits_of dm (ps.trans sz.symm) (by omega)
  rw [setRelay_eq]
  refine wpAny_bind (wpAny_setState_of eo ed fit ?_)
  dsimp only
  refine wp_if_neg (by
    rw [sizeLine_eq]
    omega) ?_
  rw [e]
  dsimp only
  refine wpAny_bind ?_
  refine wp_if_neg (by
    rw [sz', sz]
    simp) (wpAny_pure ?_)
  dsimp only
  have sb : Heap.SameBut a s.heap (s.heap.update a (Obj.putSet (order.filterMap (es[·]?)) t')) := Heap.SameBut.update ..
  refine wpAny_storeSet_of eo ed ?_ (by
    rw [sz', sizeLine_eq]
    omega)
  refine q _ ms' (order.filterMap (es[·]?)) (ep + 1) t' sb ?_ pm'
  exact ⟨⟨_, store_at eo ed, ⟨ex.1, ex.2.1, ex.2.2⟩, rfl⟩, r', T, (pm'.map (·.1)).nodup_iff.mpr once, fun m hm => (keys m (pm'.mem_iff.mp hm)).but eo ed sb, by
    rw [pm'.length_eq, em]
    exact room, by
    rw [pm'.length_eq]
    exact few⟩
/-- one key is added -/
theorem add (T : Tab w s.heap a ms es ep t) {k : NestedKey} {b : Addr} (x : Key s.heap k b) (hu : A.units + 8 < cLine) (lt : ms.length + 1 < 64) {Q : Bool → Shared → Prop}
    (q : ∀ d h' ms' es' ep' t', Heap.SameBut a s.heap h' → Tab w h' a ms' es' ep' t' → (k ∈ ms.map (·.1) → ms' = ms) → (k ∉ ms.map (·.1) → ms'.Perm ((k, b) :: ms)) → Q d { s with heap := h' }) : wpAny (model P w) A (setAddHashed a (.ref b) (k.hash w)) Q E s := by
  obtain ⟨ob, eo, ex, ed⟩ := T.obj
  have sz := T.size
  have room := T.room
  unfold setAddHashed
  refine wpAny_holding ?_
  rw [show (100000 : Nat) = 99999 + 1 from rfl, setAddHashedIn_succ]
  refine wpAny_bind (wpAny_setState_of eo ed T.fit ?_)
  dsimp only
  refine wp_if_neg (by simp [byScan, Value.scannable]) ?_
  refine wpAny_bind (look T x hu (fun mem => ?_) fun z out free full => ?_)
  · exact wpAny_pure (q false s.heap ms es ep t (Heap.SameBut.refl a s.heap) T (fun _ => rfl) fun n => absurd mem n)
  · dsimp only
    refine wpAny_bind (wpAny_setState_of eo ed T.fit ?_)
    dsimp only
    obtain ⟨p1, p2, p3, p4, _, _, _, _, p9⟩ := T.tab.put free full
    generalize way t.mask (k.hash w) z = j at p1 p2 p3 p4 p9 ⊢
    generalize t.put j = pt at p1 p2 p3 p4 p9 ⊢
    obtain ⟨t1, pl⟩ := pt
    dsimp only at p1 p2 p3 p4 p9 ⊢
    rw [← p1] at p2 p3
    rw [hshs_len] at p2
    have mid := put_perm ms pl (k, b)
    rw [← hshs_put ms pl (k, b)] at p3
    have rows1 : (SetTable.insertAt es pl (k.hash w, Value.ref b)).toList = ents w (ms.take pl ++ (k, b) :: ms.drop pl) := by rw [SetTable.toList_insertAt, ents_put, T.rows]
    have len1 : (ms.take pl ++ (k, b) :: ms.drop pl).length = ms.length + 1 := mid.length_eq
    have once1 : ((ms.take pl ++ (k, b) :: ms.drop pl).map (·.1)).Nodup := (mid.map (·.1)).nodup_iff.mpr (List.nodup_cons.mpr ⟨out, T.once⟩)
    have size1 : (SetTable.insertAt es pl (k.hash w, Value.ref b)).size = ms.length + 1 := by rw [← Array.length_toList, rows1, ents_len, len1]
    generalize SetTable.insertAt es pl (k.hash w, Value.ref b) = es1 at rows1 size1 ⊢
    generalize ms.take pl ++ (k, b) :: ms.drop pl = ms1 at mid p3 rows1 len1 once1
    have rest : ∀ t2 : SetTable, t2.place = t1.place → t2.mask = t1.mask → t2.dummies = t1.dummies → wpAny (model P w) A (do
          storeSet a es1 t2
          if (!false && t2.tooFull) = true then setRelay a (SetTable.grown (es.size + 1))
          return true) Q E s := fun t2 ePl eMa eDu => by
      have tab2 : TabOk t2 (hshs w ms1) := ⟨by rw [ePl]; exact p3.ris, by rw [eDu]; exact p3.dm, by rw [ePl]; exact p3.sz, by rw [eMa]; exact p3.mok, by rw [ePl, eMa]; exact p3.bd, by rw [ePl, eMa]; exact p3.reach⟩
      have fill2 : t2.fill = ms.length + 1 := by
        have : t2.fill = t1.fill := by
          unfold SetTable.fill
          rw [ePl, eDu]
        rw [this, p9, hshs_len]
      have mask2 : t2.mask = t.mask := eMa.trans p4
      have ps2 : t2.place.size = ms1.length := tab2.sz.trans (hshs_len ..)
      refine wpAny_bind (wpAny_storeSet_of eo ed ?_ (by
        rw [size1, sizeLine_eq]
        omega))
      have sb : Heap.SameBut a s.heap (s.heap.update a (Obj.putSet es1 t2)) := Heap.SameBut.update ..
      have eo1 := store_at (es' := es1) (t' := t2) eo ed
      generalize s.heap.update a (Obj.putSet es1 t2) = h1 at sb eo1 ⊢
      have keys1 : ∀ m ∈ ms1, Key h1 m.1 m.2 := fun m hm => by
        rcases List.mem_cons.mp (mid.mem_iff.mp hm) with rfl | hm
        · exact x.but eo ed sb
        · exact (T.keys m hm).but eo ed sb
      by_cases full2 : t2.tooFull = true
      · refine wp_if_pos (by simp [full2]) (wpAny_bind ?_)
        have over : (ms.length + 1) * 5 ≥ t2.mask * 3 := by
          have h := full2
          unfold SetTable.tooFull at h
          rw [decide_eq_true_eq, fill2] at h
          exact h
        rw [sz]
        have cs : (t.mask = 7 ∧ ms.length = 4) ∨ (t.mask = 31 ∧ ms.length = 18) := by
          rcases T.tab.mok with e | e | e
          · rw [mask2, e] at over
            rw [e] at room
            exact .inl ⟨e, by omega⟩
          · rw [mask2, e] at over
            rw [e] at room
            exact .inr ⟨e, by omega⟩
          · rw [mask2, e] at over
            omega
        have go : ∀ M, SetTable.sizeAbove (SetTable.grown (ms.length + 1)) - 1 = M → MaskOk M → SetTable.sizeAbove (SetTable.grown (ms.length + 1)) ≤ 128 → (ms.length + 1) * 5 < M * 3 →
            wpAny (model P w) A (setRelay a (SetTable.grown (ms.length + 1))) (fun _ s' => wpAny (model P w) A (pure true) Q E s') E { s with heap := h1 } := fun M g1 g2 g3 g4 => by
          refine relay (s := { s with heap := h1 }) eo1 ⟨ex.1, ex.2.1, ex.2.2⟩ rfl rows1 tab2.dm ps2 (by
            rw [len1, mask2]
            rcases cs with ⟨e, e2⟩ | ⟨e, e2⟩ <;> omega) once1 keys1 (by
            rw [len1]
            exact lt) g1 g2 g3 (by
            rw [len1]
            exact g4) fun h2 ms2 es2 ep2 t3 sb2 T2 pm2 => ?_
          exact wpAny_pure (q true h2 ms2 es2 ep2 t3 (sb.trans sb2) T2 (fun y => absurd y out) fun _ => pm2.trans mid)
        rcases cs with ⟨_, e2⟩ | ⟨_, e2⟩
        · exact go 31 (by rw [e2, size_20]) (.inr (.inl rfl)) (by rw [e2, size_20]; decide) (by omega)
        · exact go 127 (by rw [e2, size_76]) (.inr (.inr rfl)) (by rw [e2, size_76]; decide) (by omega)
      · refine wp_if_neg (by simp [full2]) (wpAny_pure (q true h1 ms1 es1 (ep + 1) t2 sb ⟨⟨_, eo1, ⟨ex.1, ex.2.1, ex.2.2⟩, rfl⟩, rows1, tab2, once1, keys1, ?_, by
          rw [len1]
          exact lt⟩ (fun y => absurd y out) fun _ => mid))
        have h := full2
        unfold SetTable.tooFull at h
        rw [decide_eq_true_eq, fill2] at h
        rw [len1]
        omega
    by_cases plain : t1.plain = true
    · refine wp_if_pos plain (wpAny_bind (val_key k _ 8 x.1 x.2 A _ _ fun v _ => ?_))
      cases v with
      | true =>
        simp only [if_true]
        exact rest t1 rfl rfl rfl
      | false =>
        simp only [Bool.false_eq_true, if_false]
        exact rest { t1 with plain := false } rfl rfl rfl
    · refine wp_if_neg plain (wpAny_bind (wpAny_pure ?_))
      simp only [if_true]
      exact rest t1 rfl rfl rfl
end
end Nb
set_option Elab.async false
set_option linter.all false
set_option autoImplicit false
set_option maxRecDepth 100000
set_option maxHeartbeats 4000000
/-! Nc: set(xs) of a list of tuples of any depth; len of a set. -/
namespace Nc
open PySem PySem.Spec PyProof.Rows L2 Vb Na Nb
section
variable {P : Program} {w : World} {A : Around} {E : Value → Shared → Prop} {s : Shared}
/-- what is in behind i items -/
structure In (xs : List Mem) (i : Nat) (ms : List Mem) : Prop where
  of : ∀ m ∈ ms, m ∈ xs.take i
  all : ∀ m ∈ xs.take i, m.1 ∈ ms.map (·.1)
  few : ms.length ≤ i
theorem In.old {xs ms : List Mem} {i : Nat} {x : Mem} (g : In xs i ms) (e : xs[i]? = some x) (h : x.1 ∈ ms.map (·.1)) : In xs (i + 1) ms := by
  have et : xs.take (i + 1) = xs.take i ++ [x] := by
    rw [List.take_add_one, e]
    rfl
  refine ⟨fun m hm => ?_, fun m hm => ?_, Nat.le_succ_of_le g.few⟩
  · rw [et]
    exact List.mem_append_left _ (g.of m hm)
  · rw [et] at hm
    rcases List.mem_append.mp hm with q | q
    · exact g.all m q
    · rw [List.mem_singleton.mp q]
      exact h
theorem In.new {xs ms ms' : List Mem} {i : Nat} {x : Mem} (g : In xs i ms) (e : xs[i]? = some x) (pm : ms'.Perm (x :: ms)) : In xs (i + 1) ms' := by
  have et : xs.take (i + 1) = xs.take i ++ [x] := by
    rw [List.take_add_one, e]
    rfl
  refine ⟨fun m hm => ?_, fun m hm => ?_, ?_⟩
  · rw [et]
    rcases List.mem_cons.mp (pm.mem_iff.mp hm) with rfl | q
    · exact List.mem_append_right _ List.mem_cons_self
    · exact List.mem_append_left _ (g.of m q)
  · rw [(pm.map (·.1)).mem_iff, List.map_cons]
    rw [et] at hm
    rcases List.mem_append.mp hm with q | q
    · exact List.mem_cons_of_mem _ (g.all m q)
    · rw [List.mem_singleton.mp q]
      exact List.mem_cons_self
  · rw [pm.length_eq]
    exact Nat.succ_le_succ g.few
theorem tab_keep {h h' : Heap} {a : Addr} {ms : List Mem} {es : Array (Int × Value)} {ep : Nat} {t : SetTable} (T : Tab w h a ms es ep t) (ka : ∀ o, h.get? a = some o → h'.get? a = some o) (kk : ∀ m ∈ ms, Na.Key h' m.1 m.2) : Tab w h' a ms es ep t := by
  obtain ⟨ob, eo, r⟩ := T.obj
  exact ⟨⟨ob, ka ob eo, r⟩, T.rows, T.tab, T.once, kk, T.room, T.few⟩
theorem tab_new {h : Heap} {a : Addr} {led : Bool} (e : h.get? a = some { cls := .type "set", dict := none, data := .set #[] 0 (.fresh 0 0 led) }) : Tab w h a [] #[] 0 (.fresh 0 0 led) :=
  ⟨⟨_, e, ⟨rfl, rfl, rfl⟩, rfl⟩, rfl, ⟨List.Pairwise.nil, rfl, rfl, .inl rfl, fun x hx => (by cases hx), fun i h j hi => (by simp [hshs] at hi)⟩, List.nodup_nil, (fun m hm => nomatch hm), (by show 0 * 5 < 7 * 3; decide), (by show 0 < 64; decide)⟩
/-- the loop that puts all items in -/
theorem fill_keys {I : Addr} {fp wr : List Addr} {G : Array GenState → Array GenState → Prop} {n : Nat} {Pv : Nat → Value → Prop} {St : Nat → Shared → Prop} {R : Result → Shared → Prop} (W : WalksS P w A.in1 I fp wr G n Pv St) (D : Addr) (hD : D ∉ fp) (xs : List Mem)
    (hn : xs.length = n) (few : n < 64) (val : ∀ i v, Pv i v → ∃ m, xs[i]? = some m ∧ v = .ref m.2) (h0 : Heap) (kx : ∀ m ∈ xs, Na.Key h0 m.1 m.2) (D0 : h0.get? D = none) (wr0 : ∀ b ∈ wr, h0.get? b = none) (hu : A.in1.units + 8 < cLine) :
    ∀ (left i : Nat) (s : Shared), n - i = left → i ≤ n → St i s → (∀ b o, h0.get? b = some o → s.heap.get? b = some o) → (∃ ms es ep t, Tab w s.heap D ms es ep t ∧ In xs i ms) →
      (∀ s' ms es ep t, Moved (D :: wr) G s s' → Tab w s'.heap D ms es ep t → In xs n ms → R (.ok (.ret .none)) s') → codeAny (model P w) A (.builtin "set.update.loop" ⟨[.ref D, .ref I], []⟩) R s := by
  have hDw : D ∉ wr := fun h => hD (W.sub _ h)
  have up : ∀ b ∈ wr, b ∈ D :: wr := fun b hb => List.mem_cons_of_mem _ hb
  have go : ∀ {s s' : Shared}, Moved wr G s s' → (∀ b o, h0.get? b = some o → s.heap.get? b = some o) → ∀ b o, h0.get? b = some o → s'.heap.get? b = some o := fun m k b o e =>
    m.heap b o (fun hb => by
      rw [wr0 b hb] at e
      cases e) (k b o e)
  have sub : ∀ {i : Nat} {ms : List Mem}, In xs i ms → ∀ m ∈ ms, m ∈ xs := fun g m hm => List.mem_of_mem_take (g.of m hm)
  intro left
  induction left with
  | zero =>
    intro i s hl hi hst k0 ⟨ms, es, ep, t, T, g⟩ hR
    obtain rfl : i = n := by omega
    refine codeAny_builtin PyProof.Rows.F.entry_set_update_loop ?_
    rw [Around.under_plainId PyProof.Rows.F.plain_set_update_loop _]
    show wpAny _ A.in1 (pyNext (.ref I) >>= _) _ _ s
    refine wpAny_bind (W.done s _ _ hst fun s' hm => ?_)
    show wpAny _ A.in1 (ret Value.none) _ _ s'
    exact wpAny_pure (hR s' ms es ep t (hm.mono up) (tab_keep T (fun o e => hm.heap D o hDw e) fun m h => (kx m (sub g m h)).ext (go hm k0)) g)
  | succ left ih =>
    intro i s hl hi hst k0 ⟨ms, es, ep, t, T, g⟩ hR
    have lt : i < n := by omega
    refine codeAny_builtin PyProof.Rows.F.entry_set_update_loop ?_
    rw [Around.under_plainId PyProof.Rows.F.plain_set_update_loop _]
    show wpAny _ A.in1 (pyNext (.ref I) >>= _) _ _ s
    refine wpAny_bind (W.item i s _ _ lt hst fun v s' hP hst' hm => ?_)
    obtain ⟨m, em, rfl⟩ := val i v hP
    have k1 := go hm k0
    have T1 : Tab w s'.heap D ms es ep t := tab_keep T (fun o e => hm.heap D o hDw e) fun m h => (kx m (sub g m h)).ext k1
    have x : Na.Key s'.heap m.1 m.2 := (kx m (List.mem_of_getElem? em)).ext k1
    show wpAny _ A.in1 (holding [Value.ref m.2] (setAdd D (.ref m.2)) >>= _) _ _ s'
    refine wpAny_bind (wpAny_holding ?_)
    unfold setAdd
    refine wpAny_holding (wpAny_bind ((nestedKind P w).pyHash hu x ?_))
    refine add (s := { s' with toks := s'.toks + m.1.draws }) T1 x hu (by
      have := g.few
      omega) fun d h' ms' es' ep' t' sb T2 c1 c2 => ?_
    have g2 : In xs (i + 1) ms' := by
      by_cases mem : m.1 ∈ ms.map (·.1)
      · rw [c1 mem]
        exact g.old em mem
      · exact g.new em (c2 mem)
    have k2 : ∀ b o, h0.get? b = some o → h'.get? b = some o := fun b o e => (sb.2 b fun z => by
      rw [z, D0] at e
      cases e).trans (k1 b o e)
    refine wpAny_pure ⟨plainId_quiet PyProof.Rows.F.plain_set_update_loop _, ih (i + 1) _ (by omega) lt (W.frame _ s' _ _ hst' (Nat.le_add_right _ _) fun b hb o e => ?_) k2 ⟨ms', es', ep', t', T2, g2⟩ fun s3 ms3 es3 ep3 t3 hm3 T3 g3 => ?_⟩
    · rw [sb.2 b fun z : b = D => hD (z ▸ hb)]
      exact e
    · refine hR s3 ms3 es3 ep3 t3 (Moved.trans W.gtrans ((hm.mono up).then_heap (Nat.le_add_right _ _) fun b o hb e => ?_) hm3) T3 g3
      rw [sb.2 b fun z : b = D => hb (z ▸ List.mem_cons_self)]
      exact e
set_option maxHeartbeats 8000000 in
/-- set(xs) -/
theorem set_of_keys {l : Addr} {items : Array Value} {xs : List Mem} {Q : Value → Shared → Prop} (hh : A.handled = none) (hl : s.heap.IsList l items) (hi : items.toList = xs.map fun m => Value.ref m.2) (kx : ∀ m ∈ xs, Na.Key s.heap m.1 m.2) (few : xs.length < 64) (hu : A.units + 16 < cLine)
    (hQ : ∀ (h' : Heap) (tk : Nat) ms es ep t, Tab w h' s.heap.objs.size ms es ep t → In xs xs.length ms → (∀ b o, s.heap.get? b = some o → h'.get? b = some o) → Q (.ref s.heap.objs.size) { s with heap := h', toks := tk }) :
    wpAny (model P w) A (call (.type "set") [.ref l]) Q E s := by
  have hz : xs.length = items.size := by rw [← Array.length_toList, hi, List.length_map]
  obtain ⟨c, tl, hmro⟩ := PySem.F.called_set.mro
  have made := PySem.F.called_set.made
  have subs := PySem.F.called_set.sub
  refine wpAny_call (codeAny_of_tree ?_)
  show wpAny _ _ (callAny (.type "set") _) _ _ _
  refine wpAny_pure ⟨Code.quiet_builtin _ (by decide +kernel), codeAny_builtin PySem.F.entry_type_call ?_⟩
  rw [Around.under_plain (weight_type_call_type "set" [.ref l] []) rfl]
  have k1 := PySem.F.called_set.notType
  have k2 := PySem.F.called_set.canCreate
  have k3 := PySem.F.typeCall_set_1 (.ref l)
  repeat (any_goals (first | assumption | wp_step))
  refine codeAny_mono (code_set_led1 (.ref l) (E := E) (Q₁ := fun obj s₁ => obj = .ref s.heap.objs.size ∧ s₁ = { s with heap := s.heap.push { cls := .type "set", dict := none, data := .set #[] 0 (.fresh 0 0 (!w.params.followText "set-order")) } }) ⟨rfl, rfl⟩) fun r s₁ hr => ?_
  match r, hr with
  | .error _, hr => exact hr
  | .ok .next, hr => exact hr.elim
  | .ok .brk, hr => exact hr.elim
  | .ok .cont, hr => exact hr.elim
  | .ok (.ret obj), hr =>
    obtain ⟨rfl, rfl⟩ := hr
    have hS : (s.heap.push { cls := .type "set", dict := none, data := .set #[] 0 (.fresh 0 0 (!w.params.followText "set-order")) }).get? s.heap.objs.size = some { cls := .type "set", dict := none, data := .set #[] 0 (.fresh 0 0 (!w.params.followText "set-order")) } := Heap.get?_push_size _ rfl
    have hT : Shared.TypeIs { s with heap := s.heap.push { cls := .type "set", dict := none, data := .set #[] 0 (.fresh 0 0 (!w.params.followText "set-order")) } } (.ref s.heap.objs.size) "set" := ⟨_, hS, rfl⟩
    have k4 := PySem.F.called_set.init.lookup
    have k5 := PySem.F.called_set.init.bind (.ref s.heap.objs.size)
    repeat (any_goals (first | assumption | wp_step))
    refine codeAny_mono (codeAny_call_builtin (R := wants (fun r s₂ => r = .none ∧ ∃ h' tk ms es ep t, s₂ = { s with heap := h', toks := tk } ∧ Tab w h' s.heap.objs.size ms es ep t ∧ In xs xs.length ms ∧ (∀ b o, s.heap.get? b = some o → h'.get? b = some o)) E)
      PySem.F.called_set.init.plain PySem.F.entry_set_init (check_set_init_1 hT ?_)) fun r₂ s₂ hr₂ => ?_
    · obtain ⟨⟨ocls, odict, odata, oslots⟩, hol, hcl, nl, hdl⟩ := hl
      simp only at hcl hdl
      subst hcl
      subst hdl
      have hol' : (s.heap.push { cls := .type "set", dict := none, data := .set #[] 0 (.fresh 0 0 (!w.params.followText "set-order")) }).get? l = some { cls := .type "list", dict := odict, data := .seq items nl, slots := oslots } := Heap.get?_push_of_some _ hol
      have k6 := PySem.F.sub_list_set
      have k7 := PySem.F.sub_list_frozenset
      have k8 : (Value.type "list" == Value.type "dict") = false := by decide
      have hl1 : (s.heap.push { cls := .type "set", dict := none, data := .set #[] 0 (.fresh 0 0 (!w.params.followText "set-order")) }).IsList l items := ⟨_, hol', rfl, nl, rfl⟩
      unfold Builtin.«set.__init__» noKeywords Builtin.Frozenset.updateFrom
      generalize hPI : pyIter = PI
      wp_walk
      subst hPI
      refine wpAny_pyIter_list hl1 (wpAny_bind (wpAny_runValue ?_))
      have lS : l < s.heap.objs.size := Heap.lt_size hol
      have lI : l ≠ (s.heap.push { cls := .type "set", dict := none, data := .set #[] 0 (.fresh 0 0 (!w.params.followText "set-order")) }).objs.size := by
        rw [Heap.size_push]
        exact Nat.ne_of_lt (Nat.lt_succ_of_lt lS)
      have nS : s.heap.objs.size ∉ [(s.heap.push { cls := .type "set", dict := none, data := .set #[] 0 (.fresh 0 0 (!w.params.followText "set-order")) }).objs.size, l] := by
        rw [Heap.size_push]
        simp only [List.mem_cons, List.not_mem_nil, or_false, not_or]
        exact ⟨Nat.ne_of_lt (Nat.lt_succ_self _), Nat.ne_of_gt lS⟩
      have nothing : ∀ b, s.heap.objs.size ≤ b → s.heap.get? b = none := fun b hb => by
        cases q : s.heap.get? b with
        | none => rfl
        | some o => exact absurd (Nat.lt_of_lt_of_le (Heap.lt_size q) hb) (Nat.lt_irrefl _)
      refine fill_keys ((Walks.list (by simp [hh]) _ l lI items).toS) s.heap.objs.size nS xs hz (by omega) (fun i v hv => ?_) s.heap kx (nothing _ (Nat.le_refl _)) (fun b hb => nothing b (by
          rw [List.mem_singleton.mp hb, Heap.size_push]
          exact Nat.le_succ _)) (by simp only [Around.in1_units]; omega) (items.size - 0) 0 _ rfl (Nat.zero_le _) ⟨⟨_, Heap.get?_push_size _ rfl, rfl, rfl⟩, (hl1.push _)⟩ (fun b o e => Heap.get?_push_of_some _ (Heap.get?_push_of_some _ e)) ?e0 ?e1
      · have q : items.toList[i]? = some v := by rw [Array.getElem?_toList]; exact hv
        rw [hi, List.getElem?_map] at q
        obtain ⟨m, em, e⟩ := Option.map_eq_some_iff.mp q
        exact ⟨m, em, e.symm⟩
      case e0 => exact ⟨[], #[], 0, _, tab_new (Heap.get?_push_of_some _ hS), ⟨(fun m h => nomatch h), (fun m h => (by simp at h)), Nat.le_refl _⟩⟩
      case e1 =>
        intro s' ms es ep t hm T g
        obtain ⟨h', g2, d', tk', os'⟩ := s'
        have eg : g2 = s.gens := hm.gens
        have ed : d' = s.drawn := hm.drawn
        have eo : os' = s.os := hm.os
        subst eg
        subst ed
        subst eo
        show wpAny _ _ _ _ _ _
        refine wpAny_pure ?_
        show wpAny _ _ (ret Value.none) _ _ _
        rw [← hz] at g
        refine wpAny_pure ⟨rfl, h', tk', ms, es, ep, t, rfl, T, g, fun b o e => hm.heap b o ?_ (Heap.get?_push_of_some _ (Heap.get?_push_of_some _ e))⟩
        have lb : b < s.heap.objs.size := Heap.lt_size e
        rw [Heap.size_push]
        simp only [List.mem_cons, List.not_mem_nil, or_false, not_or]
        exact ⟨Nat.ne_of_lt lb, Nat.ne_of_lt (Nat.lt_succ_of_lt lb)⟩
    · match r₂, hr₂ with
      | .error _, hr₂ => exact hr₂
      | .ok .next, hr₂ => exact hr₂.elim
      | .ok .brk, hr₂ => exact hr₂.elim
      | .ok .cont, hr₂ => exact hr₂.elim
      | .ok (.ret r), hr₂ =>
        obtain ⟨rfl, h', tk, ms, es, ep, t, rfl, T, g, hk⟩ := hr₂
        repeat (any_goals (first | assumption | wp_step))
        exact hQ _ _ _ _ _ _ T g hk
end
/-! ### over the layer -/
section
variable {K : PySem.W.Frag}
/-- a set with n members -/
def SetN (a : Addr) (n : Nat) : HO := .ext fun h => ∃ (o : Obj) (es : Array (Int × Value)) (ep : Nat) (t : SetTable), h.get? a = some o ∧ o.ExactSet ∧ o.data = .set es ep t ∧ t.fits es.size = true ∧ es.size = n
theorem setN_new {P : Program} {w : World} {H : Hp} {h : Heap} {a : Addr} {n : Nat} (R : ∃ (o : Obj) (es : Array (Int × Value)) (ep : Nat) (t : SetTable), h.get? a = some o ∧ o.ExactSet ∧ o.data = .set es ep t ∧ t.fits es.size = true ∧ es.size = n) : ObjOk P w H h a (SetN a n) := by
  have ⟨o, es, ep, t, eo, q⟩ := R
  exact ⟨R, ⟨o, eo⟩, fun h1 h2 p k => by
    obtain ⟨o', es', ep', t', eo', q'⟩ := p
    exact ⟨o', es', ep', t', k o' eo', q'⟩⟩
mutual
/-- data that is a key -/
theorem key_of_data {X : Cx} {pins : List (Addr × Obj)} {σ : L2.St} {H : Hp} {s : Shared} (I : Inv X pins σ H s) : ∀ (k : NestedKey) (v : V) (u : Value), Dp X.K H v k.data → RelV v u → NestedIs s.heap k u
  | .none, _, _, d, r => by
    cases d
    cases r
    exact .none
  | .num i, _, _, d, r => by
    cases d
    obtain ⟨t, rfl⟩ := r
    exact .int i t
  | .text x, _, _, d, r => by
    cases d
    obtain ⟨t, rfl⟩ := r
    exact .text x t
  | .tup ks, _, _, d, r => by
    cases d with
    | tup sq al =>
      cases r
      obtain ⟨its, rv, ⟨o, eo, ec, n, ed⟩, _⟩ := I.tuple sq
      exact .tup eo ec ed (by
        have := keys_of_data I ks _ _ al rv
        simpa using this)
theorem keys_of_data {X : Cx} {pins : List (Addr × Obj)} {σ : L2.St} {H : Hp} {s : Shared} (I : Inv X pins σ H s) : ∀ (ks : List NestedKey) (vs : List V) (us : List Value), DpAll X.K H vs (NestedKey.datas ks) → Vals vs us → NestedAll s.heap ks us
  | [], _, _, d, r => by
    cases d
    cases r
    exact .nil
  | k :: ks, _, _, d, r => by
    cases d with
    | cons d1 d2 =>
      cases r with
      | cons r1 r2 => exact .cons (key_of_data I k _ _ d1 r1) (keys_of_data I ks _ _ d2 r2)
end
section
variable {X : Cx}
/-- set(xs), xs a list of tuples -/
def rSetKeys (K : PySem.W.Frag) : List V → Hp → VK → Prop := fun xs H Q => ∃ (l : Addr) (ks : List Mem), xs = [.ref l] ∧ SqL K H l (ks.map fun m => V.ref m.2) ∧ (∀ m ∈ ks, Dp K H (.ref m.2) m.1.data ∧ m.1.depth ≤ 8) ∧ ks.length < 64 ∧
  ∀ a n, H a = none → n ≤ ks.length → (n = ks.length ↔ (ks.map (·.1)).Nodup) → Q (.ref a) (upd H a (SetN a n))
theorem refs_vals : ∀ {ks : List Mem} {us : List Value}, Vals (ks.map fun m => V.ref m.2) us → us = ks.map fun m => Value.ref m.2
  | [], _, .nil => rfl
  | m :: ks, _, .cons r t => by
    cases r
    rw [refs_vals t]
    rfl
theorem cr_setKeys (hc : X.calm = true) (hu : X.A.units + 64 < cLine) : CallR X (.type "set") (rSetKeys X.K) := by
  intro pins s σ H xs us Q I r h
  obtain ⟨l, ks, rfl, hl, hk, few, q⟩ := h
  rw [Vals.ref1 r]
  obtain ⟨its, rv, pl, hz⟩ := I.list hl
  have hn : H s.heap.objs.size = none := I.hok.fresh (Nat.le_refl _)
  refine set_of_keys (P := X.prog) (w := X.w) (xs := ks) (I.ok.hd hc) pl.isList (by simpa using refs_vals rv) (fun m hm => ⟨key_of_data I m.1 _ _ (hk m hm).1 rfl, (hk m hm).2⟩) few (by omega) fun h' tk ms es ep t T g k => ?_
  obtain ⟨o, eo, ex, ed⟩ := T.obj
  have cnt := same_count (ks.map (·.1)) (ms.map (·.1)) T.once fun y => by
    constructor
    · intro hy
      obtain ⟨m, hm, rfl⟩ := List.mem_map.mp hy
      exact List.mem_map.mpr ⟨m, List.mem_of_mem_take (g.of m hm), rfl⟩
    · intro hy
      obtain ⟨m, hm, rfl⟩ := List.mem_map.mp hy
      exact g.all m (by rw [List.take_length]; exact hm)
  rw [List.length_map, List.length_map] at cnt
  exact ⟨.ref s.heap.objs.size, upd H s.heap.objs.size (SetN s.heap.objs.size ms.length), I.laid (t' := tk) k (Nat.le_refl _) (setN_new ⟨o, es, ep, t, eo, ex, ed, Tab.fit (s := { s with heap := h' }) T, Tab.size (s := { s with heap := h' }) T⟩), rfl, q _ ms.length hn cnt.1 cnt.2⟩
/-- set(xs), xs a list or a tuple of texts; how many there are -/
def rSetCnt (K : PySem.W.Frag) : List V → Hp → VK → Prop := fun xs H Q => ∃ (l : Addr) (ys : List Str), xs = [.ref l] ∧ (SqL K H l (ys.map V.str) ∨ SqT K H l (ys.map V.str)) ∧ ys.length ≤ 1000 ∧
  ∀ a n, H a = none → n ≤ ys.length → (n = ys.length ↔ ys.Nodup) → Q (.ref a) (upd H a (SetN a n))
theorem cnt_of {P : Program} {w : World} {h : Heap} {a : Addr} {ys : List Str} {c : Nat} (T : Ts.TxtSet P w h a (Ts.among ys ys.length) c) : c ≤ ys.length ∧ (c = ys.length ↔ ys.Nodup) := by
  obtain ⟨o, es, ep, t, _, _, _, G, ec⟩ := T
  obtain ⟨_, nd, mem⟩ := Ts.Good.texts G (List.Perm.refl _)
  have cnt := same_count ys _ nd fun k => by
    rw [mem k]
    unfold Ts.among
    rw [List.take_length, decide_eq_true_eq]
  rw [List.length_map, List.length_map, Array.length_toList, ec] at cnt
  exact cnt
theorem txt_setN {P : Program} {w : World} {h : Heap} {a : Addr} {S : Str → Bool} {c : Nat} (T : Ts.TxtSet P w h a S c) : ∃ (o : Obj) (es : Array (Int × Value)) (ep : Nat) (t : SetTable), h.get? a = some o ∧ o.ExactSet ∧ o.data = .set es ep t ∧ t.fits es.size = true ∧ es.size = c := by
  obtain ⟨o, es, ep, t, eo, ex, ed, G, ec⟩ := T
  exact ⟨o, es, ep, t, eo, ex, ed, G.fit, ec⟩
theorem cr_setCnt (hc : X.calm = true) : CallR X (.type "set") (rSetCnt X.K) := by
  intro pins s σ H xs us Q I r h
  obtain ⟨l, ys, rfl, hl, few, q⟩ := h
  rw [Vals.ref1 r]
  have hn : H s.heap.objs.size = none := I.hok.fresh (Nat.le_refl _)
  have sc : ys.length + 1 < scanBound := by unfold scanBound; omega
  have fin : ∀ (h' : Heap) (tk c : Nat), Ts.TxtSet X.prog X.w h' s.heap.objs.size (Ts.among ys ys.length) c → (∀ b o, s.heap.get? b = some o → h'.get? b = some o) → EP X pins σ Q (.ref s.heap.objs.size) { s with heap := h', toks := tk } := fun h' tk c T k =>
    ⟨.ref s.heap.objs.size, upd H s.heap.objs.size (SetN s.heap.objs.size c), I.laid (t' := tk) k (Nat.le_refl _) (setN_new (txt_setN T)), rfl, q _ c hn (cnt_of T).1 (cnt_of T).2⟩
  rcases hl with hl | hl
  · obtain ⟨its, rv, pl, hz⟩ := I.list hl
    exact Ts.set_of_list (P := X.prog) (w := X.w) (I.ok.hd hc) pl.isList (by simpa using rv.strs) sc fun h' tk c T _ k => fin h' tk c T k
  · obtain ⟨its, rv, pl, hz⟩ := I.tuple hl
    exact Ts.set_of_tuple (P := X.prog) (w := X.w) (I.ok.hd hc) pl (by simpa using rv.strs) sc fun h' tk c T _ k => fin h' tk c T k
/-- len(s) -/
def rLenSet : List V → Hp → VK → Prop := fun xs H Q => ∃ (a : Addr) (n : Nat), xs = [.ref a] ∧ H a = some (SetN a n) ∧ n ≤ 1000 ∧ Q (.int n) H
theorem cr_lenSet : CallR X (.builtin "len") rLenSet := by
  intro pins s σ H xs us Q I r h
  obtain ⟨a, n, rfl, ha, few, q⟩ := h
  rw [Vals.ref1 r]
  obtain ⟨o, es, ep, t, eo, ex, ed, ef, rfl⟩ := (I.hok a _ ha).1
  exact call_len_set eo ex ed ef (by omega) ⟨.int es.size, H, I.tok _, ⟨_, rfl⟩, q⟩
end
end
end Nc
set_option Elab.async false
set_option linter.all false
set_option autoImplicit false
set_option maxRecDepth 100000
set_option maxHeartbeats 4000000
/-! Nd: data that is a key stays one while lists change. -/
namespace Nd
open PySem PySem.Spec PyProof.Rows L2 Vb Na Nb Nc
section
variable {K : PySem.W.Frag} {H H' : Hp} {D : Addr} {xs : List V}
theorem seqT_but (hD : H D = some (.lst xs)) (h : ∀ b x, b ≠ D → H b = some x → H' b = some x) {a : Addr} {ys : List V} (s : SqT K H a ys) : SqT K H' a ys := by
  rcases s with (s | ⟨o, s⟩) | s
  · exact .inl (.inl (h _ _ (fun e => by
      rw [e, hD] at s
      cases s) s))
  · exact .inl (.inr ⟨o, h _ _ (fun e => by
      rw [e, hD] at s
      cases s) s⟩)
  · exact .inr s
mutual
theorem dp_but (hD : H D = some (.lst xs)) (h : ∀ b x, b ≠ D → H b = some x → H' b = some x) : ∀ (k : NestedKey) (v : V), Dp K H v k.data → Dp K H' v k.data
  | .none, _, d => by
    cases d
    exact .non
  | .num i, _, d => by
    cases d
    exact .int i
  | .text x, _, d => by
    cases d
    exact .str x
  | .tup ks, _, d => by
    cases d with
    | tup sq al => exact .tup (seqT_but hD h sq) (dps_but hD h ks _ al)
theorem dps_but (hD : H D = some (.lst xs)) (h : ∀ b x, b ≠ D → H b = some x → H' b = some x) : ∀ (ks : List NestedKey) (vs : List V), DpAll K H vs (NestedKey.datas ks) → DpAll K H' vs (NestedKey.datas ks)
  | [], _, d => by
    cases d
    exact .nil
  | k :: ks, _, d => by
    cases d with
    | cons d1 d2 => exact .cons (dp_but hD h k _ d1) (dps_but hD h ks _ d2)
end
end
end Nd
set_option Elab.async false
set_option linter.all false
set_option autoImplicit false
set_option maxRecDepth 100000
set_option maxHeartbeats 4000000
namespace K11
open PySem PySem.Spec PyProof.Rows L2 Vb Wd Xd Xo Ts K01 Nc Nd
abbrev s_is_scheme : Stmt := topS 29
theorem sc_is_scheme : FnScope ["bare", "tops", "forms", "names", "kinds", "form"] ["bare", "tops", "forms"] (defScope s_is_scheme) := ⟨rfl, rfl, rfl, by decide +kernel, rfl, by decide +kernel, by decide +kernel⟩
/-- the tops that a value tells, if it does -/
def TopsAt (K : PySem.W.Frag) (H : Hp) (tv : V) : Option (List Str) → Prop
  | some ys => ∃ t, tv = .ref t ∧ H t = some (.tup (ys.map V.str)) ∧ (∀ y ∈ ys, Fine y) ∧ ys.length ≤ 60 ∧ (ys.all nam && asc ys) = true
  | none => Asked K H tv false
/-- a kind of forms as a key -/
def kidK (c : Str × Int) : NestedKey := .tup [.text c.1, .num c.2]
def kindK (d : Str × List (Str × Int)) : NestedKey := .tup [.text d.1, .tup (d.2.map kidK)]
theorem kidK_inj {c d : Str × Int} (h : kidK c = kidK d) : c = d := by
  obtain ⟨a, i⟩ := c
  obtain ⟨b, j⟩ := d
  unfold kidK at h
  injection h with h
  injection h with h1 h2
  injection h1 with h1
  injection h2 with h2
  injection h2 with h2
  exact Prod.ext h1 h2
theorem kidsK_inj : ∀ {cs ds : List (Str × Int)}, cs.map kidK = ds.map kidK → cs = ds
  | [], [], _ => rfl
  | [], _ :: _, h => by cases h
  | _ :: _, [], h => by cases h
  | c :: cs, d :: ds, h => by
    rw [List.map_cons, List.map_cons] at h
    injection h with h1 h2
    rw [kidK_inj h1, kidsK_inj h2]
theorem kindK_inj {c d : Str × List (Str × Int)} (h : kindK c = kindK d) : c = d := by
  obtain ⟨a, cs⟩ := c
  obtain ⟨b, ds⟩ := d
  unfold kindK at h
  injection h with h
  injection h with h1 h2
  injection h1 with h1
  injection h2 with h2
  injection h2 with h2
  exact Prod.ext h1 (kidsK_inj h2)
theorem kids_datas : ∀ cs : List (Str × Int), NestedKey.datas (cs.map kidK) = cs.map kidD
  | [] => rfl
  | c :: cs => by
    rw [List.map_cons, List.map_cons, NestedKey.datas, kids_datas cs]
    rfl
theorem kids_depth : ∀ cs : List (Str × Int), NestedKey.depthAll (cs.map kidK) ≤ 1
  | [] => Nat.zero_le _
  | c :: cs => by
    rw [List.map_cons, NestedKey.depthAll]
    exact Nat.max_le.mpr ⟨Nat.le_refl 1, kids_depth cs⟩
theorem kind_data (d : Str × List (Str × Int)) : (kindK d).data = .tuple [.str d.1, .tuple (d.2.map kidD)] := by
  show PyData.tuple [.str d.1, .tuple (NestedKey.datas (d.2.map kidK))] = _
  rw [kids_datas]
theorem kind_depth (d : Str × List (Str × Int)) : (kindK d).depth ≤ 8 := by
  have h := kids_depth d.2
  show max 0 (max (NestedKey.depthAll (d.2.map kidK) + 1) 0) + 1 ≤ 8
  omega
theorem nodup_kinds (ds : List FD) : (ds.map fun d => kindK d.2).Nodup ↔ (ds.map (·.2)).Nodup := by
  unfold List.Nodup
  rw [List.pairwise_map, List.pairwise_map]
  exact ⟨fun h => h.imp fun n e => n (congrArg kindK e), fun h => h.imp fun n e => n (kindK_inj e)⟩
/-- how many different texts there are -/
def dd : List Str → List Str
  | [] => []
  | y :: l => if y ∈ l then dd l else y :: dd l
theorem mem_dd : ∀ (l : List Str) (k : Str), k ∈ dd l ↔ k ∈ l
  | [], k => Iff.rfl
  | y :: l, k => by
    unfold dd
    by_cases h : y ∈ l
    · rw [if_pos h, mem_dd l k, List.mem_cons]
      exact ⟨.inr, fun q => q.elim (fun e => e ▸ h) id⟩
    · rw [if_neg h, List.mem_cons, List.mem_cons, mem_dd l k]
theorem nodup_dd : ∀ l : List Str, (dd l).Nodup
  | [] => List.nodup_nil
  | y :: l => by
    unfold dd
    by_cases h : y ∈ l
    · rw [if_pos h]
      exact nodup_dd l
    · rw [if_neg h]
      exact List.nodup_cons.mpr ⟨fun q => h ((mem_dd l y).mp q), nodup_dd l⟩
theorem len_dd {zs l : List Str} (nd : zs.Nodup) (m : ∀ k, k ∈ zs ↔ k ∈ l) : zs.length = (dd l).length :=
  Nat.le_antisymm (nodup_len zs (dd l) nd fun k hk => (mem_dd l k).mpr ((m k).mp hk)) (nodup_len (dd l) zs (nodup_dd l) fun k hk => (m k).mpr ((mem_dd l k).mp hk))
/-- whether these make a scheme -/
def schB (bare : V) : Option (List Str) → List FD → Bool
  | none, _ => false
  | some ys, ds => inV bare (ys.map V.str) && (decide (1 ≤ ds.length) && decide (ds.length ≤ 24)) && decide ((dd (ys ++ said ds)).length ≤ 8) && (decide (ds.map (·.1)).Nodup && decide (ds.map (·.2)).Nodup)
theorem schB_some (bare : V) (ys : List Str) (ds : List FD) : schB bare (some ys) ds = (inV bare (ys.map V.str) && (decide (1 ≤ ds.length) && decide (ds.length ≤ 24)) && decide ((dd (ys ++ said ds)).length ≤ 8) && (decide (ds.map (·.1)).Nodup && decide (ds.map (·.2)).Nodup)) := rfl
def spIsS (K : PySem.W.Frag) (C : Addr) : Sp := fun vs H Q _ => ∃ (bv tv : V) (to : Option (List Str)) (f : Addr) (fs : List Addr) (ds : List FD) (L : List Str), vs = [bv, tv, .ref f] ∧ flatV bv = true ∧ TopsAt K H tv to ∧ H f = some (.tup (fs.map V.ref)) ∧ Forms H C fs ds ∧ fs.length ≤ 40 ∧
  (∀ ys, to = some ys → ∀ y ∈ ys ++ said ds, y ∈ L) ∧ L.length < 64 ∧ ∀ H', Same H H' → Q (.bl (schB bv to ds)) H'
theorem flat_strs (ys : List Str) : (ys.map V.str).all flatV = true := List.all_eq_true.mpr fun x hx => by
  obtain ⟨y, _, rfl⟩ := List.mem_map.mp hx
  rfl
theorem chain_dec {a b n : Nat} {p q : Prop} [Decidable p] [Decidable q] (ha : a = n ↔ p) (hb : b = n ↔ q) : (if decide (V.int (a : Int) = V.int (b : Int)) = true then decide (V.int (b : Int) = V.int (n : Int)) else false) = (decide p && decide q) := by
  have e : ∀ x y : Nat, decide (V.int (x : Int) = V.int (y : Int)) = decide (x = y) := fun x y => decide_eq_decide.mpr ⟨fun z => by have := V.int.inj z; omega, fun z => by rw [z]⟩
  rw [e, e, show decide p = decide (a = n) from (decide_eq_decide.mpr ha).symm, show decide q = decide (b = n) from (decide_eq_decide.mpr hb).symm]
  by_cases h1 : a = n <;> by_cases h2 : b = n <;> by_cases h3 : a = b <;> simp_all
section
variable {P : Program} {w : World} {K : PySem.W.Frag} {mg : Str → Option Value} {base : Heap} {C : Addr}
theorem ki_tu : kitB "tuple" "tuple" = some true := by decide +kernel
theorem ok_is_scheme {tf ts' : Tok} (D : Df K mg "_is_scheme" s_is_scheme ["bare", "tops", "forms"]) (T : FormC K C) (TI : FormI K C) (TP : FormP P w K mg base C) (gF : mg "Form" = some (.ref C)) (G_is_names : Cg P w K mg base 2 "is_names" (spNames K)) (G_sorts_of : Cg P w K mg base 3 "_sorts_of" (spSorts K C))
    (z_isinstance : mg "isinstance" = none) (z_tuple : mg "tuple" = none) (z_all : mg "all" = none) (z_len : mg "len" = none) (z_set : mg "set" = none) (c_MAX_FORMS : mg "MAX_FORMS" = some (.int 24 tf)) (c_MAX_SORTS : mg "MAX_SORTS" = some (.int 8 ts')) : Cg P w K mg base 4 "_is_scheme" (spIsS K C) := by
  obtain ⟨p1, g1, fd1, o1, G1, b1⟩ := TP.get ("called", "_called") (by simp)
  obtain ⟨p2, g2, fd2, o2, G2, b2⟩ := TP.get ("sort_name", "_sort_name") (by simp)
  obtain ⟨p3, g3, fd3, o3, G3, b3⟩ := TP.get ("children", "_children") (by simp)
  refine D.ok sc_is_scheme (fun vs H Q E h => ?_) (fun cdv A outer s H vs Q E f0 hc hr h => ?_)
  · obtain ⟨bv, tv, to, f, fs, ds, L, rfl, _⟩ := h
    rfl
  · obtain ⟨bv, tv, to, f, fs, ds, L, rfl, fl, ta, hf, F, lf, sub, lL, q⟩ := h
    refine ⟨_, (pss_cons (ps_if (PW.pt (pw_or (pt_not (pt_val (pe_cg G_is_names hc hr (by rfl) (pa_cons (pv 1) pa_nil)))) (pw_or1 (pt_cmpR op_notIn_seq (pv 0) (pv 1) (by rfl)))))
      (pss_one (ps_ret pe_bl))
      pss_nil)
      (pss_cons (ps_if (PW.pt (pw_or (pt_not (pt_val (pe_callB call_isi (by rfl) z_isinstance (by decide +kernel) (pa_cons (pv 2) (pa_cons (pe_bltn (v := .ty "tuple") (by rfl) z_tuple (by decide +kernel) rfl) pa_nil))))) (pw_or1 (pt_not (pt_val (pe_callB (cr_all rfl) (by rfl) z_all (by decide +kernel)
        (pa_cons (pe_lc (own := [("form", 5)]) (g := gName 5) (by rfl) sc_is_scheme.nd (pi_tup (pv 2)) (blkOk_by (own := [("form", 5)]) (N := ["bare", "tops", "forms", "names", "kinds", "form"]) (sc := defScope s_is_scheme) (by decide +kernel)) (fun _ _ _ _ _ => pg_name (i := 5) sc_is_scheme.nd rfl (Or.inl rfl)) (fun _ _ _ _ _ => pts_nil)
          (fun _ _ _ _ _ => (pe_callB (call_isi : CallR _ _ (rIsi K)) (by rfl) z_isinstance (by decide +kernel) (pa_cons (pv 5) (pa_cons (pe_glob (v := .ref C) (by rfl) gF rfl) pa_nil))))) pa_nil)))))))
      (pss_one (ps_ret pe_bl))
      pss_nil)
      (pss_cons (ps_if (PW.pt (pw_or (pt_not (pt_chain op_le op_le pe_int (pe_callB call_len_seq (by rfl) z_len PySem.boot_len (pa_cons (pv 2) pa_nil)) (pe_glob (v := .int 24) rfl c_MAX_FORMS ⟨_, rfl⟩)))
        (pw_or1 (pt_cmpR op_gt (pe_callB call_len_seq (by rfl) z_len PySem.boot_len (pa_cons (pe_cg G_sorts_of hc hr (by rfl) (pa_cons (pv 1) (pa_cons (pv 2) pa_nil))) pa_nil)) (pe_glob (v := .int 8) rfl c_MAX_SORTS ⟨_, rfl⟩) (nomark _)))))
      (pss_one (ps_ret pe_bl))
      pss_nil)
      (pss_cons (ps_set (i := 3) sc_is_scheme.nd rfl (Or.inl rfl) (pe_callB cr_lenSet (by rfl) z_len (by decide +kernel) (pa_cons (pe_callTy (cr_setCnt rfl) (by rfl) z_set (by decide +kernel)
        (pa_cons (pe_lc (own := [("form", 5)]) (g := gName 5) (by rfl) sc_is_scheme.nd (pi_tup (pv 2)) (blkOk_by (own := [("form", 5)]) (N := ["bare", "tops", "forms", "names", "kinds", "form"]) (sc := defScope s_is_scheme) (by decide +kernel)) (fun _ _ _ _ _ => pg_name (i := 5) sc_is_scheme.nd rfl (Or.inl rfl)) (fun _ _ _ _ _ => pts_nil)
          (fun _ _ _ _ _ => (pe_propG (n := "called") (pv 5) T.c o1 G1 hc (hr.mono (by decide)) b1))) pa_nil)) pa_nil)))
      (pss_cons (ps_set (i := 4) sc_is_scheme.nd rfl (Or.inl rfl) (pe_callB cr_lenSet (by rfl) z_len (by decide +kernel) (pa_cons (pe_callTy (cr_setKeys rfl hr.units) (by rfl) z_set (by decide +kernel)
        (pa_cons (pe_lc (own := [("form", 5)]) (g := gName 5) (by rfl) sc_is_scheme.nd (pi_tup (pv 2)) (blkOk_by (own := [("form", 5)]) (N := ["bare", "tops", "forms", "names", "kinds", "form"]) (sc := defScope s_is_scheme) (by decide +kernel)) (fun _ _ _ _ _ => pg_name (i := 5) sc_is_scheme.nd rfl (Or.inl rfl)) (fun _ _ _ _ _ => pts_nil)
          (fun _ _ _ _ _ => (pe_tup (pa_cons (pe_propG (n := "sort_name") (pv 5) T.c o2 G2 hc (hr.mono (by decide)) b2) (pa_cons (pe_propG (n := "children") (pv 5) T.c o3 G3 hc (hr.mono (by decide)) b3) pa_nil))))) pa_nil)) pa_nil)))
      (pss_one (ps_ret (pe_chain op_eq op_eq (pv 3) (pv 4) (pe_callB call_len_seq (by rfl) z_len PySem.boot_len (pa_cons (pv 2) pa_nil)))))))))), ?_⟩
    have big : ∀ {n : Nat}, n ≤ 200 → n < sizeLine := fun h => Nat.lt_of_le_of_lt h (by decide)
    cases to with
    | none =>
      exact ⟨_, rfl, tv, false, rfl, ta, fun H1 s1 => ⟨_, rfl, iteT (q H1 s1)⟩⟩
    | some ys =>
      obtain ⟨t, rfl, ht, fy, ly, ny⟩ := ta
      refine ⟨_, rfl, .ref t, true, rfl, .inl ⟨t, ys, rfl, ht, fy, by omega, ny.symm⟩, fun H1 s1 => ⟨_, rfl, iteF ⟨_, rfl, _, rfl, t, _, rfl, .inr (.inl (.inl (s1 _ _ ht))), fl, flat_strs ys, _, rfl, ?_⟩⟩⟩
      have q1 : ∀ H', Same H1 H' → Q (.bl (schB bv (some ys) ds)) H' := fun H' s => q H' (s1.trans s)
      rw [schB_some] at q1
      cases mem : inV bv (ys.map V.str) with
      | false =>
        rw [mem] at q1
        simp only [Bool.false_and] at q1
        exact iteT (q1 H1 (Same.refl _))
      | true =>
        rw [mem] at q1
        simp only [Bool.true_and] at q1
        refine iteF ?_
        have hf1 := s1 _ _ hf
        have F1 : ∀ {H' : Hp}, Same H1 H' → ∀ (i : Nat) (a : Addr) (d : FD), fs[i]? = some a → ds[i]? = some d → ∃ ch ts, FormAt H' C a ch d.1 d.2.1 ts d.2.2 := fun s i a d e1 e2 => by
          obtain ⟨ch, ts, FA⟩ := F.at_ i a d e1 e2
          exact ⟨ch, ts, FA.sm (s1.trans s)⟩
        have hT : ∀ {H' : Hp}, Same H1 H' → SqT K H' f (fs.map V.ref) := fun s => .inl (.inl (s _ _ hf1))
        have next : ∀ {i : Nat} {x : V}, (fs.map V.ref)[i]? = some x → ∃ a d, x = .ref a ∧ fs[i]? = some a ∧ ds[i]? = some d := fun {i x} hx => by
          rw [List.getElem?_map] at hx
          obtain ⟨a, ha, rfl⟩ := Option.map_eq_some_iff.mp hx
          have il : i < ds.length := by
            have := (List.getElem?_eq_some_iff.mp ha).1
            have := F.len
            omega
          exact ⟨a, ds[i], rfl, ha, List.getElem?_eq_getElem il⟩
        refine ⟨_, rfl, _, _, _, _, true, rfl, .ty _, .base (.tup hf1), kit_ty ki_tu, _, rfl, iteF ⟨_, rfl, f, rfl, ⟨_, hT (Same.refl _)⟩, fun D1 nD1 => ?_⟩⟩
        refine lc_tup (K := K) (a := f) (xs := fs.map V.ref) (fun i H' => Same H1 H' ∧ H' D1 = some (.lst ((List.replicate i true).map V.bl))) ⟨same_put nD1 (Same.refl _), upd_same⟩ (fun i H' _ h => hT h.1) (fun i x H2 hx h => ?_) (fun H2 h => ?_)
        · obtain ⟨s2, e2⟩ := h
          obtain ⟨a, d, rfl, ha, hd⟩ := next hx
          obtain ⟨ch, ts, ⟨dx, fa⟩, _⟩ := F1 s2 i a d ha hd
          refine ⟨rfl, _, rfl, _, _, _, _, true, rfl, .own C, .base (.ins fa T.c TI.ca TI.sp TI.tk TI.mo), TI.yes, _, e2, ?_, same_put nD1 s2, ?_⟩
          · rw [List.length_map, List.length_replicate]
            have := (List.getElem?_eq_some_iff.mp ha).1
            exact big (by omega)
          · rw [upd_same, List.replicate_succ', List.map_append]
            rfl
        · obtain ⟨s2, e2⟩ := h
          refine ⟨D1, List.replicate (fs.map V.ref).length true, rfl, .inl (.inl e2), _, rfl, ?_⟩
          have al : (List.replicate (fs.map V.ref).length true).all id = true := List.all_eq_true.mpr fun b hb => (List.mem_replicate.mp hb).2
          rw [al]
          refine iteF ?_
          have ln : ds.length = fs.length := F.len.symm
          have len : (fs.map V.ref).length = ds.length := by rw [List.length_map, F.len]
          -- how many forms there are
          have q2 : ∀ H', Same H2 H' → Q _ H' := fun H' s => q1 H' (s2.trans s)
          refine ⟨_, rfl, f, _, rfl, .inr (hT s2), _, _, rfl, rfl, _, rfl, ?_⟩
          rw [len]
          by_cases h1 : 1 ≤ ds.length
          · rw [decide_eq_true (show (1 : Int) ≤ (ds.length : Int) by omega)]
            rw [decide_eq_true h1, Bool.true_and] at q2
            refine iteT ⟨_, _, rfl, rfl, _, rfl, ?_⟩
            by_cases h24 : ds.length ≤ 24
            · rw [decide_eq_true (show (ds.length : Int) ≤ 24 by omega)]
              rw [decide_eq_true h24, Bool.true_and] at q2
              have s12 := s1.trans s2
              refine iteF ⟨_, rfl, _, rfl, t, f, ys, L, fs, ds, rfl, s12 _ _ ht, s2 _ _ hf1, ⟨F.len, F1 s2⟩, ly, lf, sub ys rfl, lL, fun p zs H3 s3 e3 mz srt nd => ?_⟩
              refine ⟨p, _, rfl, .inr (.inl (.inl e3)), _, _, rfl, rfl, _, rfl, ?_⟩
              have lz : zs.length = (dd (ys ++ said ds)).length := len_dd nd mz
              rw [List.length_map, lz]
              have q3 : ∀ H', Same H3 H' → Q _ H' := fun H' s => q2 H' (s3.trans s)
              have s13 := s2.trans s3
              by_cases h8 : (dd (ys ++ said ds)).length ≤ 8
              · rw [decide_eq_false (show ¬ (8 : Int) < ((dd (ys ++ said ds)).length : Int) by omega)]
                rw [decide_eq_true h8, Bool.true_and] at q3
                refine iteF ?_
                -- the names
                refine ⟨_, rfl, f, rfl, ⟨_, hT s13⟩, fun D2 nD2 => ?_⟩
                refine lc_tup (K := K) (a := f) (xs := fs.map V.ref) (fun i H' => Same H3 H' ∧ H' D2 = some (.lst (((ds.take i).map (·.1)).map V.str))) ⟨same_put nD2 (Same.refl _), upd_same⟩ (fun i H' _ h => hT (s13.trans h.1)) (fun i x H4 hx h => ?_) (fun H4 h => ?_)
                · obtain ⟨s4, e4⟩ := h
                  obtain ⟨a, d, rfl, ha, hd⟩ := next hx
                  obtain ⟨ch, ts, ⟨dx, fa⟩, _⟩ := F1 (s13.trans s4) i a d ha hd
                  refine ⟨rfl, _, rfl, a, dx, _, rfl, fa, a, ch, dx, d.1, d.2.1, .str d.1, rfl, fa, by rfl, _, e4, ?_, same_put nD2 s4, ?_⟩
                  · rw [List.length_map, List.length_map, List.length_take]
                    exact big (by omega)
                  · rw [upd_same, List.take_add_one, hd, List.map_append, List.map_append]
                    rfl
                · obtain ⟨s4, e4⟩ := h
                  rw [len, List.take_of_length_le (Nat.le_refl _)] at e4
                  refine ⟨D2, ds.map (·.1), rfl, .inl (.inl (.inl e4)), by rw [List.length_map]; omega, fun st n1 nst le1 cnt1 => ?_⟩
                  have s5 := same_new (o := SetN st n1) nst
                  rw [List.length_map] at le1 cnt1
                  refine ⟨st, n1, rfl, upd_same, by omega, ?_⟩
                  have s14 := (s13.trans s4).trans s5
                  generalize upd H4 st (SetN st n1) = H5 at s5 s14 ⊢
                  -- the kinds
                  refine ⟨_, rfl, f, rfl, ⟨_, hT s14⟩, fun D3 nD3 => ?_⟩
                  refine lc_tup (K := K) (a := f) (xs := fs.map V.ref) (fun i H' => Same H5 H' ∧ ∃ ms : List Nb.Mem, H' D3 = some (.lst (ms.map fun m => V.ref m.2)) ∧ ms.map (·.1) = (ds.take i).map (fun d => kindK d.2) ∧ ∀ m ∈ ms, Dp K H' (.ref m.2) m.1.data) ⟨same_put nD3 (Same.refl _), [], upd_same, rfl, fun m hm => nomatch hm⟩
                    (fun i H' _ h => hT (s14.trans h.1)) (fun i x H6 hx h => ?_) (fun H6 h => ?_)
                  · obtain ⟨s6, ms, e6, em, dm⟩ := h
                    obtain ⟨a, d, rfl, ha, hd⟩ := next hx
                    obtain ⟨ch, ts, ⟨dx, fa⟩, kd⟩ := F1 (s14.trans s6) i a d ha hd
                    refine ⟨rfl, _, rfl, a, dx, _, rfl, fa, a, ch, dx, d.1, d.2.1, .str d.2.1, rfl, fa, by rfl, _, rfl, a, dx, _, rfl, fa, a, ch, dx, d.1, d.2.1, .ref ch, rfl, fa, by rfl, by show 2 ≤ sizeLine; decide, fun u nu => ?_⟩
                    have s7 := same_new (o := .tup [.str d.2.1, .ref ch]) nu
                    have tD : u ≠ D3 := fun z => by
                      rw [z, e6] at nu
                      cases nu
                    have ml : ms.length ≤ i := by
                      have := congrArg List.length em
                      rw [List.length_map, List.length_map, List.length_take] at this
                      omega
                    have il : i < 24 := by
                      have := (List.getElem?_eq_some_iff.mp hd).1
                      omega
                    refine ⟨_, s7 _ _ e6, by rw [List.length_map]; exact big (by omega), same_put nD3 (s6.trans s7), ms ++ [(kindK d.2, u)], ?_, ?_, fun m hm => ?_⟩
                    · rw [upd_same, List.map_append]
                      rfl
                    · rw [List.map_append, em, List.take_add_one, hd, List.map_append]
                      rfl
                    · have keep : ∀ b x, b ≠ D3 → (upd H6 u (.tup [.str d.2.1, .ref ch])) b = some x → (upd (upd H6 u (.tup [.str d.2.1, .ref ch])) D3 (.lst (ms.map (fun m => V.ref m.2) ++ [.ref u]))) b = some x := fun b x n e => by rw [upd_ne n]; exact e
                      refine dp_but (s7 _ _ e6) keep _ _ ?_
                      rcases List.mem_append.mp hm with hm | hm
                      · exact Gd.Dp.same s7 _ _ (dm m hm)
                      · cases List.mem_singleton.mp hm
                        show Dp K _ (.ref u) (kindK d.2).data
                        rw [kind_data]
                        exact .tup (.inl (.inl upd_same)) (.cons (.str _) (.cons (kd.same s7).dp .nil))
                  · obtain ⟨s6, ms, e6, em, dm⟩ := h
                    rw [len, List.take_of_length_le (Nat.le_refl _)] at em
                    have lm : ms.length = ds.length := by
                      have := congrArg List.length em
                      rw [List.length_map, List.length_map] at this
                      exact this
                    refine ⟨D3, ms, rfl, .inl (.inl e6), fun m hm => ⟨dm m hm, ?_⟩, by omega, fun st2 n2 nst2 le2 cnt2 => ?_⟩
                    · have : m.1 ∈ ds.map fun d => kindK d.2 := by
                        rw [← em]
                        exact List.mem_map.mpr ⟨m, hm, rfl⟩
                      obtain ⟨d, _, e⟩ := List.mem_map.mp this
                      rw [← e]
                      exact kind_depth _
                    · have s8 := same_new (o := SetN st2 n2) nst2
                      rw [em, lm, nodup_kinds] at cnt2
                      refine ⟨st2, n2, rfl, upd_same, by omega, ?_⟩
                      have s15 := (s14.trans s6).trans s8
                      have fin := q3 _ (((s4.trans s5).trans s6).trans s8)
                      rw [← chain_dec cnt1 cnt2] at fin
                      refine ⟨_, rfl, _, rfl, rfl, _, rfl, ?_⟩
                      cases e12 : decide (V.int (n1 : Int) = V.int (n2 : Int)) with
                      | false =>
                        rw [e12] at fin
                        exact iteF fin
                      | true =>
                        rw [e12] at fin
                        refine iteT ⟨_, rfl, f, _, rfl, .inr (hT s15), rfl, ?_⟩
                        rw [len]
                        exact fin
              · rw [decide_eq_true (show (8 : Int) < ((dd (ys ++ said ds)).length : Int) by omega)]
                rw [decide_eq_false h8, Bool.false_and] at q3
                exact iteT (q3 H3 (Same.refl _))
            · rw [decide_eq_false (show ¬ (ds.length : Int) ≤ 24 by omega)]
              rw [decide_eq_false h24, Bool.false_and, Bool.false_and] at q2
              exact iteT (q2 H2 (Same.refl _))
          · rw [decide_eq_false (show ¬ (1 : Int) ≤ (ds.length : Int) by omega)]
            rw [decide_eq_false h1, Bool.false_and, Bool.false_and, Bool.false_and] at q2
            exact iteF ⟨_, rfl, iteT (q2 H2 (Same.refl _))⟩
end
end K11
set_option Elab.async false
set_option linter.all false
set_option autoImplicit false
set_option maxRecDepth 100000
set_option maxHeartbeats 4000000
namespace K11
open PySem PySem.Spec PyProof.Rows L2 Vb Wd Xd Xo Ts K01
abbrev s_S_init : Stmt := inB (topS 25) 0
theorem sc_S_init : FnScope ["self", "bare", "tops", "forms", "by_name", "form", "name"] ["self", "bare", "tops", "forms"] (defScope s_S_init) := ⟨rfl, rfl, rfl, by decide +kernel, rfl, by decide +kernel, by decide +kernel⟩
/-- all but what stands at a stays -/
def But (a : Addr) (H H' : Hp) : Prop := ∀ x o, x ≠ a → H x = some o → H' x = some o
theorem But.refl (a : Addr) (H : Hp) : But a H H := fun _ _ _ e => e
theorem But.trans {a : Addr} {H H1 H2 : Hp} (s : But a H H1) (t : But a H1 H2) : But a H H2 := fun x o n e => t x o n (s x o n e)
theorem But.of {a : Addr} {H H1 : Hp} (s : Same H H1) : But a H H1 := fun x o _ e => s x o e
theorem But.put {a : Addr} {H : Hp} (o : HO) : But a H (upd H a o) := fun x y n e => by
  rw [upd_ne n]
  exact e
theorem Kid.but {H H' : Hp} {a t : Addr} {n : Str} {s : Int} {C dx : Addr} {gs : List (Str × V)} (ha : H a = some (.ins C dx gs)) (b : But a H H') (k : Kid H t n s) : Kid H' t n s :=
  ⟨b _ _ (fun z => by
    have := k.at_
    rw [z, ha] at this
    cases this) k.at_, k.nam, k.plain, k.lo, k.hi⟩
theorem Kids.but {H H' : Hp} {a c : Addr} {ts : List Addr} {cs : List (Str × Int)} {C dx : Addr} {gs : List (Str × V)} (ha : H a = some (.ins C dx gs)) (b : But a H H') (k : Kids H c ts cs) : Kids H' c ts cs :=
  ⟨b _ _ (fun z => by
    have := k.at_
    rw [z, ha] at this
    cases this) k.at_, k.len, k.lo, k.hi, fun i t c' h1 h2 => (k.kid i t c' h1 h2).but ha b⟩
/-- the scheme at a: its bare sort, its tops, its forms ascending by name -/
structure SchemeAt (H : Hp) (C CS a : Addr) (b : Str) (ys : List Str) (ds : List FD) : Prop where
  ex : ∃ (dx t bn nm f so : Addr) (kvs : List (L2.Key × V)) (fs : List Addr) (zs : List Str), H a = some (.ins CS dx (fldsS b t bn nm f so)) ∧ H t = some (.tup (ys.map V.str)) ∧ H nm = some (.tup ((ds.map (·.1)).map V.str)) ∧ H f = some (.tup (fs.map V.ref)) ∧ Forms H C fs ds ∧
    H bn = some (.dK kvs) ∧ (∀ (i : Nat) (a' : Addr) (d : FD), fs[i]? = some a' → ds[i]? = some d → valV kvs (Sum.inr d.1) = some (.ref a')) ∧ H so = some (.tup (zs.map V.str)) ∧ (∀ k, k ∈ zs ↔ k ∈ ys ++ said ds) ∧ sortedS zs = true ∧ zs.Nodup
  srt : sortedS (ds.map (·.1)) = true
  once : (ds.map (·.1)).Nodup
  few : 1 ≤ ds.length ∧ ds.length ≤ 24
  nams : ∀ d ∈ ds, isNam (.str d.1) = true ∧ isNam (.str d.2.1) = true
  tops : (∀ y ∈ ys, Fine y) ∧ ys.length ≤ 60 ∧ (ys.all nam && asc ys) = true ∧ b ∈ ys
  sorts : (dd (ys ++ said ds)).length ≤ 8
theorem inV_str {v : V} (fl : flatV v = true) {ys : List Str} (h : inV v (ys.map V.str) = true) : ∃ b, v = .str b ∧ b ∈ ys := by
  unfold inV at h
  obtain ⟨y, hy, e⟩ := List.any_eq_true.mp h
  obtain ⟨z, hz, rfl⟩ := List.mem_map.mp hy
  cases v with
  | str b =>
    have : z = b := by simpa [eqV] using e
    exact ⟨b, rfl, this ▸ hz⟩
  | non => simp [eqV] at e
  | bl _ => simp [eqV] at e
  | int _ => simp [eqV] at e
  | byt _ => cases fl
  | flt _ => cases fl
  | ref _ => cases fl
  | ty _ => cases fl
/-- what a call of Scheme is asked with -/
structure SArgs (K : PySem.W.Frag) (H : Hp) (C f : Addr) (bv tv : V) (to : Option (List Str)) (fs : List Addr) (ds : List FD) (L : List Str) : Prop where
  flat : flatV bv = true
  tops : TopsAt K H tv to
  at_ : H f = some (.tup (fs.map V.ref))
  forms : Forms H C fs ds
  few : fs.length ≤ 40
  sub : ∀ ys, to = some ys → ∀ y ∈ ys ++ said ds, y ∈ L
  lL : L.length < 64
  nams : ∀ d ∈ ds, isNam (.str d.1) = true ∧ isNam (.str d.2.1) = true
def spInitS (K : PySem.W.Frag) (C CS CI : Addr) : Sp := fun vs H Q E => ∃ (a dx f : Addr) (bv tv : V) (to : Option (List Str)) (fs : List Addr) (ds : List FD) (L : List Str), vs = [.ref a, bv, tv, .ref f] ∧ H a = some (.ins CS dx []) ∧ SArgs K H C f bv tv to fs ds L ∧
  (∀ b ys, bv = .str b → to = some ys → schB bv to ds = true → ∀ H' ds', But a H H' → SchemeAt H' C CS a b ys ds' → ds'.Perm ds → Q .non H') ∧ (schB bv to ds = false → ∀ H', Same H H' → E (.ref CI) none H')
/-! ### forms by their names -/
def kvsP (ps : List (FD × Addr)) : List (L2.Key × V) := ps.map fun p => (Sum.inr p.1.1, V.ref p.2)
def pOf (ps : List (FD × Addr)) (y : Str) : FD × Addr := (ps.find? fun p => decide (p.1.1 = y)).getD (("", "", []), 0)
theorem pOf_mem {ps : List (FD × Addr)} {y : Str} (h : y ∈ ps.map (·.1.1)) : pOf ps y ∈ ps ∧ (pOf ps y).1.1 = y := by
  obtain ⟨p, hp, rfl⟩ := List.mem_map.mp h
  have hs : (ps.find? fun q => decide (q.1.1 = p.1.1)).isSome = true := List.find?_isSome.mpr ⟨p, hp, by simp⟩
  obtain ⟨q, hq⟩ := Option.isSome_iff_exists.mp hs
  have e : pOf ps p.1.1 = q := by
    unfold pOf
    rw [hq]
    rfl
  rw [e]
  have := List.find?_some hq
  exact ⟨List.mem_of_find?_eq_some hq, of_decide_eq_true this⟩
theorem once_at {ps : List (FD × Addr)} (nd : (ps.map (·.1.1)).Nodup) {p q : FD × Addr} (hp : p ∈ ps) (hq : q ∈ ps) (e : p.1.1 = q.1.1) : p = q := by
  induction ps with
  | nil => cases hp
  | cons r ps ih =>
    rw [List.map_cons] at nd
    obtain ⟨n1, n2⟩ := List.nodup_cons.mp nd
    rcases List.mem_cons.mp hp with ep | hp2
    · rcases List.mem_cons.mp hq with eq | hq2
      · rw [ep, eq]
      · exact (n1 (List.mem_map.mpr ⟨q, hq2, by rw [← e, ep]⟩)).elim
    · rcases List.mem_cons.mp hq with eq | hq2
      · exact (n1 (List.mem_map.mpr ⟨p, hp2, by rw [e, eq]⟩)).elim
      · exact ih n2 hp2 hq2
theorem pOf_self {ps : List (FD × Addr)} (nd : (ps.map (·.1.1)).Nodup) {p : FD × Addr} (hp : p ∈ ps) : pOf ps p.1.1 = p := by
  obtain ⟨h1, h2⟩ := pOf_mem (List.mem_map.mpr ⟨p, hp, rfl⟩)
  exact once_at nd h1 hp h2
theorem pOf_perm {ps : List (FD × Addr)} (nd : (ps.map (·.1.1)).Nodup) {ys : List Str} (pm : ys.Perm (ps.map (·.1.1))) : (ys.map (pOf ps)).Perm ps := by
  have h := pm.map (pOf ps)
  rw [List.map_map] at h
  have e : ps.map (pOf ps ∘ fun p => p.1.1) = ps := by
    have : ps.map (pOf ps ∘ fun p => p.1.1) = ps.map id := List.map_congr_left fun p hp => pOf_self nd hp
    rw [this, List.map_id]
  rw [e] at h
  exact h
theorem kvsP_keys (ps : List (FD × Addr)) : (kvsP ps).map (·.1) = (ps.map (·.1.1)).map Sum.inr := by
  unfold kvsP
  rw [List.map_map, List.map_map]
  rfl
theorem kvsP_nodup {ps : List (FD × Addr)} (nd : (ps.map (·.1.1)).Nodup) : ((kvsP ps).map (·.1)).Nodup := by
  rw [kvsP_keys]
  unfold List.Nodup
  rw [List.pairwise_map]
  exact List.Pairwise.imp (fun n e => n (Sum.inr.inj e)) nd
theorem kvsP_val {ps : List (FD × Addr)} (nd : (ps.map (·.1.1)).Nodup) {p : FD × Addr} (hp : p ∈ ps) : valV (kvsP ps) (Sum.inr p.1.1) = some (.ref p.2) := by
  have := val_nodup (kvsP_nodup nd) (Sum.inr p.1.1, V.ref p.2) (List.mem_map.mpr ⟨p, hp, rfl⟩)
  exact this
theorem kvsP_put {ps : List (FD × Addr)} {p : FD × Addr} (h : p.1.1 ∉ ps.map (·.1.1)) : putK (kvsP ps) (Sum.inr p.1.1) (V.ref p.2) = kvsP (ps ++ [p]) := by
  have none_ : valV (kvsP ps) (Sum.inr p.1.1) = none := by
    cases e : valV (kvsP ps) (Sum.inr p.1.1) with
    | none => rfl
    | some v =>
      have m := valV_in e
      rw [kvsP_keys] at m
      obtain ⟨y, hy, e2⟩ := List.mem_map.mp m
      exact absurd (Sum.inr.inj e2 ▸ hy) h
  rw [putK_new _ none_]
  unfold kvsP
  rw [List.map_append]
  rfl
theorem said_perm {ds ds' : List FD} (pm : ds'.Perm ds) (k : Str) : k ∈ said ds' ↔ k ∈ said ds := by
  unfold said
  rw [List.mem_flatMap, List.mem_flatMap]
  exact ⟨fun ⟨d, h, m⟩ => ⟨d, pm.mem_iff.mp h, m⟩, fun ⟨d, h, m⟩ => ⟨d, pm.mem_iff.mpr h, m⟩⟩
/-- what is known of an error class without an __init__ of its own, over ValueError -/
structure ErrC (K : PySem.W.Frag) (mg : Str → Option Value) (x : Str) (C : Addr) : Prop where
  e : PySem.W.excIn K C [.type "ValueError", .type "Exception", .type "BaseException", .type "object"] "ValueError.__new__" = true
  g : mg x = some (.ref C)
  k : PySem.W.keepIn K (.ref C) = true
  b : PySem.W.subIn K (.ref C) (.type "BaseException") = some true
  t : PySem.W.typeIn K (.ref C) = some (.type "type")
section
variable {P : Program} {w : World} {K : PySem.W.Frag} {mg : Str → Option Value} {base : Heap} {C CS CI : Addr}
theorem ok_S_init {f0 : Addr} {fd : FuncData} (F : Fun K "__init__" "Scheme.__init__" s_S_init f0 fd) (T : FormC K C) (TS : SchemeC K CS) (TP : FormP P w K mg base C) (TE : ErrC K mg "InvalidScheme" CI) (G_is_scheme : Cg P w K mg base 4 "_is_scheme" (spIsS K C)) (G_sorts_of : Cg P w K mg base 3 "_sorts_of" (spSorts K C))
    (z_tuple : mg "tuple" = none) (z_sorted : mg "sorted" = none) : FnE P w K mg base 5 f0 fd ["self", "bare", "tops", "forms"] (spInitS K C CS CI) := by
  obtain ⟨p1, g1, fd1, o1, G1, b1⟩ := TP.get ("called", "_called") (by simp)
  refine goes_exc F sc_S_init (fun vs H Q E h => ?_) (fun cdv A outer s H vs Q E hc hr tk h => ?_)
  · obtain ⟨a, dx, f, bv, tv, to, fs, ds, L, rfl, _⟩ := h
    rfl
  · obtain ⟨a, dx, f, bv, tv, to, fs, ds, L, rfl, ha, X, q1, q2⟩ := h
    refine ⟨_, (pss_cons (ps_if (pt_not (pt_val (pe_cg G_is_scheme hc hr (by rfl) (pa_cons (pv 1) (pa_cons (pv 2) (pa_cons (pv 3) pa_nil))) (hx := pass0)))) (pss_one (ps_raise (by rfl) tk (pmk_own PySem.F.excBase_ValueError TE.e TE.g TE.k (raises_own TE.b TE.t) (by rfl)))) pss_nil)
      (pss_cons (ps_set (i := 4) sc_S_init.nd rfl (Or.inr rfl) (pe_dc (own := [("form", 5)]) (g := gName 5) (by rfl) sc_S_init.nd (pi_tup (pv 3)) (blkOk_by (own := [("form", 5)]) (N := ["self", "bare", "tops", "forms", "by_name", "form", "name"]) (sc := defScope s_S_init) (by decide +kernel)) (fun _ _ _ _ _ => pg_name (i := 5) sc_S_init.nd rfl (Or.inl rfl)) (fun _ _ _ _ _ => pts_nil)
        (fun _ _ _ _ _ => (pe_propG (n := "called") (pv 5) T.c o1 G1 hc (hr.mono (by decide)) b1)) (fun _ _ _ _ _ => pv 5)))
      (pss_cons (ps_fld (f := "_bare") (pv 0) (pv 1) (by rfl))
      (pss_cons (ps_fld (f := "_tops") (pv 0) (pv 2) (by rfl))
      (pss_cons (ps_fld (f := "_by_name") (pv 0) (pv 4) (by rfl))
      (pss_cons (ps_fld (f := "_names") (pv 0) (pe_callTy (cr_tuple : CallR _ _ (rTup K)) (by rfl) z_tuple (by decide +kernel) (pa_cons (pe_callB (call_sortedD rfl) (by rfl) z_sorted (by decide +kernel) (pa_cons (pv 4) pa_nil)) pa_nil)) (by rfl))
      (pss_cons (ps_fld (f := "_forms") (pv 0) (pe_callTy (cr_tuple : CallR _ _ (rTup K)) (by rfl) z_tuple (by decide +kernel) (pa_cons (pe_lc (own := [("name", 6)]) (g := gName 6) (by rfl) sc_S_init.nd (pi_tup (pe_fld (f := "_names") (pv 0) (by rfl))) (blkOk_by (own := [("name", 6)]) (N := ["self", "bare", "tops", "forms", "by_name", "form", "name"]) (sc := defScope s_S_init) (by decide +kernel)) (fun _ _ _ _ _ => pg_name (i := 6) sc_S_init.nd rfl (Or.inl rfl)) (fun _ _ _ _ _ => pts_nil)
        (fun _ _ _ _ _ => (pe_dget (hu_of hr) (pv 4) (pv 6) (fun _ _ => rfl)))) pa_nil)) (by rfl))
      (pss_one (ps_fld (f := "_sorts") (pv 0) (pe_cg G_sorts_of hc hr (by rfl) (pa_cons (pv 2) (pa_cons (pv 3) pa_nil)) (hx := pass0)) (by rfl)))))))))), ?_⟩
    refine ⟨_, rfl, _, rfl, _, rfl, bv, tv, to, f, fs, ds, L, rfl, X.flat, X.tops, X.at_, X.forms, X.few, X.sub, X.lL, fun H1 s1 => ⟨_, rfl, ?_⟩⟩
    cases e : schB bv to ds with
    | false => exact iteT (q2 e H1 s1)
    | true =>
      have big : ∀ {n : Nat}, n ≤ 200 → n < sizeLine := fun h => Nat.lt_of_le_of_lt h (by decide)
      cases to with
      | none => cases e
      | some ys =>
        have es := e
        rw [schB_some] at es
        simp only [Bool.and_eq_true, decide_eq_true_eq] at es
        obtain ⟨⟨⟨mem, d1, d24⟩, d8⟩, once, kinds⟩ := es
        obtain ⟨b, rfl, bm⟩ := inV_str X.flat mem
        obtain ⟨t, rfl, ht, fy, ly, ny⟩ := X.tops
        have FL := X.forms.len
        generalize eps : ds.zip fs = ps
        have psl : ps.length = ds.length := by rw [← eps, List.length_zip, FL, Nat.min_self]
        have ps1 : ps.map (·.1) = ds := by rw [← eps]; exact List.map_fst_zip (by omega)
        have psn : ps.map (·.1.1) = ds.map (·.1) := by rw [← ps1, List.map_map]; rfl
        have nd : (ps.map (·.1.1)).Nodup := by rw [psn]; exact once
        have atp : ∀ p ∈ ps, ∃ i : Nat, ds[i]? = some p.1 ∧ fs[i]? = some p.2 := fun p hp => by
          obtain ⟨i, hi⟩ := List.mem_iff_getElem?.mp hp
          rw [← eps, List.getElem?_zip_eq_some] at hi
          exact ⟨i, hi.1, hi.2⟩
        have hf1 := s1 _ _ X.at_
        have ha1 := s1 _ _ ha
        have ht1 := s1 _ _ ht
        refine iteF ⟨_, rfl, f, rfl, ⟨_, .inl (.inl hf1)⟩, fun D nD => ?_⟩
        refine dc_tup (K := K) (a := f) (xs := fs.map V.ref) (fun i H' => Same H1 H' ∧ H' D = some (.dK (kvsP (ps.take i)))) ⟨same_put nD (Same.refl _), by rw [upd_same]; rfl⟩ (fun i H' _ h => .inl (.inl (h.1 _ _ hf1))) (fun i x H2 hx h => ?_) (fun H2 h => ?_)
        · obtain ⟨s2, e2⟩ := h
          rw [List.getElem?_map] at hx
          obtain ⟨a', ha', rfl⟩ := Option.map_eq_some_iff.mp hx
          have il : i < ds.length := by
            have := (List.getElem?_eq_some_iff.mp ha').1
            omega
          obtain ⟨ch, ts, FA⟩ := X.forms.at_ i a' ds[i] ha' (List.getElem?_eq_getElem il)
          have hd : ds[i]? = some ds[i] := List.getElem?_eq_getElem il
          generalize ds[i] = d at FA hd
          obtain ⟨⟨dx', fa⟩, _⟩ := FA.sm (s1.trans s2)
          have hp : ps[i]? = some (d, a') := by rw [← eps, List.getElem?_zip_eq_some]; exact ⟨hd, ha'⟩
          have out : d.1 ∉ (ps.take i).map (·.1.1) := fun m => by
            obtain ⟨q, hq, eq⟩ := List.mem_map.mp m
            have hq' := List.mem_of_mem_take hq
            have := once_at nd hq' (List.mem_of_getElem? hp) eq
            rw [this] at hq
            obtain ⟨j, hj⟩ := List.mem_iff_getElem?.mp hq
            rw [List.getElem?_take] at hj
            split at hj
            · rename_i ji
              have nd2 : ps.Nodup := by
                unfold List.Nodup at nd ⊢
                rw [List.pairwise_map] at nd
                exact nd.imp fun n e => n (by rw [e])
              have := (List.getElem?_inj (by rw [psl]; omega) nd2).mp (hj.trans hp.symm)
              omega
            · cases hj
          refine ⟨rfl, _, rfl, a', dx', _, rfl, fa, a', ch, dx', d.1, d.2.1, .str d.1, rfl, fa, by rfl, _, rfl, kvsP (ps.take i), Sum.inr d.1, rfl, e2, ?_, same_put nD s2, ?_⟩
          · unfold kvsP
            rw [List.length_map, List.length_take]
            exact big (by omega)
          · rw [upd_same, List.take_add_one, hp]
            exact congrArg (fun z => some (HO.dK z)) (kvsP_put (p := (d, a')) out)
        · obtain ⟨s2, e2⟩ := h
          rw [List.length_map, FL, ← psl, List.take_length] at e2
          have aD : a ≠ D := fun z => by
            rw [z] at ha1
            rw [ha1] at nD
            cases nD
          refine ⟨_, rfl, _, rfl, a, CS, dx, _, rfl, s2 _ _ ha1, TS.c, TS.n _ (by simp), by decide, _, rfl, _, rfl, a, CS, dx, _, rfl, upd_same, TS.c, TS.n _ (by simp), by show 1 < 1000; decide, _, rfl, _, rfl, a, CS, dx, _, rfl, upd_same, TS.c, TS.n _ (by simp), by show 2 < 1000; decide, ?_⟩
          rw [upd_upd, upd_upd]
          have s12 := s1.trans s2
          generalize eg3 : (upd H2 a _ : Hp) = H3
          have b3 : But a H2 H3 := by rw [← eg3]; exact But.put _
          have a3 : H3 a = some (.ins CS dx [("_bare", .str b), ("_tops", .ref t), ("_by_name", .ref D)]) := by rw [← eg3]; exact upd_same
          have e3 : H3 D = some (.dK (kvsP ps)) := b3 _ _ (fun z => aD z.symm) e2
          refine ⟨_, rfl, D, kvsP ps, ds.map (·.1), rfl, Rd.of e3, by rw [kvsP_keys, psn], by rw [List.length_map]; omega, fun zs p pm srt np => ?_⟩
          have zl : zs.length = ds.length := by rw [pm.length_eq, List.length_map]
          refine ⟨p, _, rfl, .inl ⟨.inl (.inl upd_same), fun nm nnm => ?_⟩⟩
          have s4 := (same_new (o := .lst (zs.map V.str)) np).trans (same_new (o := .tup (zs.map V.str)) nnm)
          generalize eg4 : upd (upd H3 p (.lst (zs.map V.str))) nm (.tup (zs.map V.str)) = H4 at s4 ⊢
          have n4 : H4 nm = some (.tup (zs.map V.str)) := by rw [← eg4]; exact upd_same
          have anm : nm ≠ a := fun z => by
            have := s4 _ _ a3
            rw [← z, n4] at this
            cases this
          refine ⟨_, rfl, a, CS, dx, _, rfl, s4 _ _ a3, TS.c, TS.n _ (by simp), by show 3 < 1000; decide, ?_⟩
          have b5 : ∀ o, But a H4 (upd H4 a o) := fun o => But.put o
          generalize eg5 : (upd H4 a _ : Hp) = H5
          have b5 : But a H4 H5 := by rw [← eg5]; exact But.put _
          have a5 : H5 a = some (.ins CS dx [("_bare", .str b), ("_tops", .ref t), ("_by_name", .ref D), ("_names", .ref nm)]) := by rw [← eg5]; exact upd_same
          have n5 := b5 _ _ anm n4
          have e5 := b5 _ _ (fun z => aD z.symm) (s4 _ _ e3)
          refine ⟨_, rfl, a, CS, dx, _, .ref nm, rfl, a5, TS.c, TS.n _ (by simp), by rfl, nm, rfl, ⟨_, .inl (.inl n5)⟩, fun D2 nD2 => ?_⟩
          generalize eqs : zs.map (pOf ps) = qs
          have qpm : qs.Perm ps := by rw [← eqs]; exact pOf_perm nd (by rw [psn]; exact pm)
          refine lc_tup (K := K) (a := nm) (xs := zs.map V.str) (fun i H' => Same H5 H' ∧ H' D2 = some (.lst ((qs.take i).map fun q => V.ref q.2))) ⟨same_put nD2 (Same.refl _), upd_same⟩ (fun i H' _ h => .inl (.inl (h.1 _ _ n5))) (fun i x H6 hx h => ?_) (fun H6 h => ?_)
          · obtain ⟨s6, e6⟩ := h
            rw [List.getElem?_map] at hx
            obtain ⟨z, hz, rfl⟩ := Option.map_eq_some_iff.mp hx
            have hq : qs[i]? = some (pOf ps z) := by rw [← eqs, List.getElem?_map, hz]; rfl
            have zm : z ∈ ps.map (·.1.1) := by rw [psn]; exact pm.mem_iff.mp (List.mem_of_getElem? hz)
            obtain ⟨m1, m2⟩ := pOf_mem zm
            have vz := kvsP_val nd m1
            rw [m2] at vz
            refine ⟨rfl, _, rfl, _, rfl, D, .ref (pOf ps z).2, rfl, .inl ⟨kvsP ps, Sum.inr z, .inl (s6 _ _ e5), rfl, vz.symm⟩, _, e6, ?_, same_put nD2 s6, ?_⟩
            · rw [List.length_map, List.length_take]
              have := (List.getElem?_eq_some_iff.mp hz).1
              exact big (by omega)
            · rw [upd_same, List.take_add_one, hq, List.map_append]
              rfl
          · obtain ⟨s6, e6⟩ := h
            have ql : qs.length = ds.length := by rw [qpm.length_eq, psl]
            rw [List.length_map, zl, ← ql, List.take_length] at e6
            refine ⟨D2, _, rfl, .inl ⟨.inl (.inl e6), fun f2 nf2 => ?_⟩⟩
            have s7 := s6.trans (same_new (o := .tup (qs.map fun q => V.ref q.2)) nf2)
            generalize eg7 : upd H6 f2 (.tup (qs.map fun q => V.ref q.2)) = H7 at s7 ⊢
            have f7 : H7 f2 = some (.tup (qs.map fun q => V.ref q.2)) := by rw [← eg7]; exact upd_same
            have af : f2 ≠ a := fun z => by
              have := s7 _ _ a5
              rw [← z, f7] at this
              cases this
            refine ⟨_, rfl, a, CS, dx, _, rfl, s7 _ _ a5, TS.c, TS.n _ (by simp), by show 4 < 1000; decide, ?_⟩
            generalize eg8 : (upd H7 a _ : Hp) = H8
            have b8 : But a H7 H8 := by rw [← eg8]; exact But.put _
            have a8 : H8 a = some (.ins CS dx [("_bare", .str b), ("_tops", .ref t), ("_by_name", .ref D), ("_names", .ref nm), ("_forms", .ref f2)]) := by rw [← eg8]; exact upd_same
            -- all that was there is there
            have bb : But a H1 H8 := ((((But.of s2).trans b3).trans (But.of s4)).trans b5).trans ((But.of s7).trans b8)
            have fa : ∀ {g : Addr} {xs : List V}, H1 g = some (.tup xs) → g ≠ a := fun {g xs} h z => by
              rw [z, ha1] at h
              cases h
            have forms8 : ∀ (i : Nat) (a' : Addr) (d : FD), fs[i]? = some a' → ds[i]? = some d → ∃ ch ts, FormAt H8 C a' ch d.1 d.2.1 ts d.2.2 := fun i a' d h1 h2 => by
              obtain ⟨ch, ts, FA⟩ := X.forms.at_ i a' d h1 h2
              obtain ⟨⟨dx', q⟩, kd⟩ := FA.sm s1
              refine ⟨ch, ts, ⟨dx', bb _ _ (fun z => ?_) q⟩, kd.but ha1 bb⟩
              rw [z, ha1] at q
              cases q
            refine ⟨_, rfl, _, rfl, t, f, ys, L, fs, ds, rfl, bb _ _ (fa ht1) ht1, bb _ _ (fa hf1) hf1, ⟨FL, forms8⟩, ly, X.few, X.sub ys rfl, X.lL, fun so zs' H9 s9 e9 mz srt9 nd9 => ?_⟩
            have aso : so ≠ a := fun z => by
              have := s9 _ _ a8
              rw [← z, e9] at this
              cases this
            refine ⟨_, rfl, a, CS, dx, _, rfl, s9 _ _ a8, TS.c, TS.n _ (by simp), by show 5 < 1000; decide, ?_⟩
            have b9 : But a H9 (upd H9 a (.ins CS dx (fldsS b t D nm f2 so))) := But.put _
            have dpm : (qs.map (·.1)).Perm ds := by
              have := qpm.map (·.1)
              rw [ps1] at this
              exact this
            have bend := (bb.trans (But.of s9)).trans b9
            have names : (qs.map (·.1)).map (·.1) = zs := by
              rw [← eqs, List.map_map, List.map_map]
              have : zs.map (fun z => (pOf ps z).1.1) = zs.map id := List.map_congr_left fun z hz => by
                have zm : z ∈ ps.map (·.1.1) := by rw [psn]; exact pm.mem_iff.mp hz
                exact (pOf_mem zm).2
              rw [List.map_id] at this
              exact this
            have mz' : ∀ k, k ∈ zs' ↔ k ∈ ys ++ said (qs.map (·.1)) := fun k => by
              rw [mz k, List.mem_append, List.mem_append, said_perm dpm k]
            refine q1 b ys rfl rfl e (upd H9 a (.ins CS dx (fldsS b t D nm f2 so))) (qs.map (·.1)) ?_ ⟨⟨dx, t, D, nm, f2, so, kvsP ps, qs.map (·.2), zs', upd_same, ?_, ?_, ?_, ⟨?_, ?_⟩, ?_, ?_, ?_, mz', srt9, nd9⟩, ?_, ?_, ?_, ?_, ⟨fy, ly, ny, bm⟩, ?_⟩ dpm
            · exact fun x o n h => bend x o n (s1 x o h)
            · exact bend _ _ (fa ht1) ht1
            · rw [names]
              exact b9 _ _ anm (s9 _ _ (b8 _ _ anm (s7 _ _ n5)))
            · rw [List.map_map]
              exact b9 _ _ af (s9 _ _ (b8 _ _ af f7))
            · rw [List.length_map, List.length_map]
            · intro i a' d h1 h2
              rw [List.getElem?_map] at h1 h2
              obtain ⟨q, hq, rfl⟩ := Option.map_eq_some_iff.mp h1
              rw [hq] at h2
              cases h2
              obtain ⟨j, j1, j2⟩ := atp q (qpm.mem_iff.mp (List.mem_of_getElem? hq))
              obtain ⟨ch, ts, FA⟩ := X.forms.at_ j _ _ j2 j1
              obtain ⟨⟨dx', q'⟩, kd⟩ := FA.sm s1
              refine ⟨ch, ts, ⟨dx', bend _ _ (fun z => ?_) q'⟩, kd.but ha1 bend⟩
              rw [z, ha1] at q'
              cases q'
            · exact b9 _ _ (fun z => aD z.symm) (s9 _ _ (b8 _ _ (fun z => aD z.symm) (s7 _ _ e5)))
            · intro i a' d h1 h2
              rw [List.getElem?_map] at h1 h2
              obtain ⟨q, hq, rfl⟩ := Option.map_eq_some_iff.mp h1
              rw [hq] at h2
              cases h2
              exact kvsP_val nd (qpm.mem_iff.mp (List.mem_of_getElem? hq))
            · exact b9 _ _ aso e9
            · rw [names]
              exact srt
            · exact ((dpm.map (·.1)).nodup_iff.mpr once)
            · rw [dpm.length_eq]
              exact ⟨d1, d24⟩
            · exact fun d hd => X.nams d (dpm.mem_iff.mp hd)
            · rw [← len_dd nd9 mz', len_dd nd9 mz]
              exact d8
end
end K11
set_option Elab.async false
set_option linter.all false
set_option autoImplicit false
set_option maxRecDepth 100000
set_option maxHeartbeats 4000000
namespace K11
open PySem PySem.Spec PyProof.Rows L2 Vb Wd Xd Xo SX Pc Zc
/-- the fields of a picture -/
def fldsP (p : Pic) (pt nt : Addr) : List (Str × V) := [("_text", .str (S p.cs)), ("_called", calledV p), ("_parts", .ref pt), ("_holes", .int (p.holes : Nat)), ("_levels", .int (p.lev : Nat)), ("_names", .ref nt)]
mutual
/-- the picture p stands at v -/
def PicAt (H : Hp) (C : Addr) : Pic → V → Prop
  | .hole, v => ∃ a dx pt nt, v = .ref a ∧ H a = some (.ins C dx (fldsP .hole pt nt)) ∧ H pt = some (.tup []) ∧ H nt = some (.tup [])
  | .node n ps, v => ∃ a dx pt nt vs, v = .ref a ∧ H a = some (.ins C dx (fldsP (.node n ps) pt nt)) ∧ H pt = some (.tup vs) ∧ H nt = some (.tup (txts (Pic.node n ps).nms)) ∧ PicsAt H C ps vs
def PicsAt (H : Hp) (C : Addr) : List Pic → List V → Prop
  | [], vs => vs = []
  | p :: ps, vs => ∃ v r, vs = v :: r ∧ PicAt H C p v ∧ PicsAt H C ps r
end
theorem PicAt.ex {H : Hp} {C : Addr} {p : Pic} {v : V} (h : PicAt H C p v) : ∃ a dx pt nt vs, v = .ref a ∧ H a = some (.ins C dx (fldsP p pt nt)) ∧ H pt = some (.tup vs) ∧ H nt = some (.tup (txts p.nms)) ∧ PicsAt H C p.parts vs := by
  cases p with
  | hole =>
    obtain ⟨a, dx, pt, nt, e, h1, h2, h3⟩ : ∃ a dx pt nt, v = .ref a ∧ H a = some (.ins C dx (fldsP .hole pt nt)) ∧ H pt = some (.tup []) ∧ H nt = some (.tup []) := h
    exact ⟨a, dx, pt, nt, [], e, h1, h2, h3, rfl⟩
  | node n ps => exact h
theorem PicAt.mk {H : Hp} {C a dx pt nt : Addr} {p : Pic} {vs : List V} (h1 : H a = some (.ins C dx (fldsP p pt nt))) (h2 : H pt = some (.tup vs)) (h3 : H nt = some (.tup (txts p.nms))) (h4 : PicsAt H C p.parts vs) : PicAt H C p (.ref a) := by
  cases p with
  | hole =>
    have e : vs = [] := h4
    subst e
    exact (⟨a, dx, pt, nt, rfl, h1, h2, h3⟩ : ∃ a' dx pt nt, (V.ref a) = .ref a' ∧ H a' = some (.ins C dx (fldsP .hole pt nt)) ∧ H pt = some (.tup []) ∧ H nt = some (.tup []))
  | node n ps => exact (⟨a, dx, pt, nt, vs, rfl, h1, h2, h3, h4⟩ : ∃ a' dx pt nt vs, (V.ref a) = .ref a' ∧ H a' = some (.ins C dx (fldsP (.node n ps) pt nt)) ∧ H pt = some (.tup vs) ∧ H nt = some (.tup (txts (Pic.node n ps).nms)) ∧ PicsAt H C ps vs)
theorem PicsAt.len {H : Hp} {C : Addr} : ∀ {ps : List Pic} {vs : List V}, PicsAt H C ps vs → vs.length = ps.length
  | [], vs, h => by
    have e : vs = [] := h
    rw [e]
    rfl
  | p :: ps, vs, h => by
    obtain ⟨v, r, e, _, h2⟩ : ∃ v r, vs = v :: r ∧ PicAt H C p v ∧ PicsAt H C ps r := h
    rw [e, List.length_cons, List.length_cons, PicsAt.len h2]
theorem PicsAt.get {H : Hp} {C : Addr} : ∀ {ps : List Pic} {vs : List V} {i : Nat} {p : Pic} {v : V}, PicsAt H C ps vs → ps[i]? = some p → vs[i]? = some v → PicAt H C p v
  | [], _, i, _, _, _, h1, _ => by simp at h1
  | q :: ps, vs, i, p, v, h, h1, h2 => by
    obtain ⟨v0, r, e, a0, ar⟩ : ∃ v r, vs = v :: r ∧ PicAt H C q v ∧ PicsAt H C ps r := h
    subst e
    cases i with
    | zero =>
      simp at h1 h2
      rw [← h1, ← h2]
      exact a0
    | succ i => exact PicsAt.get ar (by simpa using h1) (by simpa using h2)
theorem PicsAt.of {H : Hp} {C : Addr} : ∀ {ps : List Pic} {vs : List V}, vs.length = ps.length → (∀ (i : Nat) (p : Pic) (v : V), ps[i]? = some p → vs[i]? = some v → PicAt H C p v) → PicsAt H C ps vs
  | [], vs, l, _ => by
    show vs = []
    exact List.length_eq_zero_iff.mp l
  | p :: ps, vs, l, h => by
    cases vs with
    | nil => simp at l
    | cons v r => exact (⟨v, r, rfl, h 0 p v rfl rfl, PicsAt.of (by simpa using l) fun i q u h1 h2 => h (i + 1) q u (by simpa using h1) (by simpa using h2)⟩ : ∃ v' r', v :: r = v' :: r' ∧ PicAt H C p v' ∧ PicsAt H C ps r')
/-- what stays for pictures to stay -/
def KeepP (H H' : Hp) : Prop := ∀ x o, H x = some o → (∃ C dx gs, o = HO.ins C dx gs ∧ gs.length = 6) ∨ (∃ xs, o = HO.tup xs) → H' x = some o
theorem KeepP.of {H H' : Hp} (s : Same H H') : KeepP H H' := fun x o h _ => s x o h
theorem KeepP.trans {H H1 H' : Hp} (a : KeepP H H1) (b : KeepP H1 H') : KeepP H H' := fun x o h k => b x o (a x o h k) k
theorem KeepP.but {H H' : Hp} {a C dx : Addr} {gs : List (Str × V)} (ha : H a = some (.ins C dx gs)) (l : gs.length ≠ 6) (b : But a H H') : KeepP H H' := fun x o h k => by
  refine b x o (fun z => ?_) h
  rw [z, ha] at h
  cases h
  rcases k with ⟨C', dx', gs', e, l'⟩ | ⟨xs, e⟩
  · cases e
    exact l l'
  · cases e
theorem KeepP.past {d : Addr} {H H' : Hp} (hd : Dice H d) (p : Past d H H') : KeepP H H' := fun x o h k => by
  refine p.1 x o (fun z => ?_) h
  obtain ⟨g, s, c, e⟩ := hd
  rw [z, e] at h
  cases h
  rcases k with ⟨C', dx', gs', e, l'⟩ | ⟨xs, e⟩ <;> cases e
theorem KeepP.putL {H : Hp} {l : Addr} {xs ys : List V} (h : H l = some (.lst xs)) : KeepP H (upd H l (.lst ys)) := fun x o hx k => by
  rw [upd_ne (fun z => ?_)]
  · exact hx
  · rw [z, h] at hx
    cases hx
    rcases k with ⟨C', dx', gs', e, l'⟩ | ⟨xs, e⟩ <;> cases e
theorem PicAt.keep {H H' : Hp} {C : Addr} (k : KeepP H H') (p : Pic) : ∀ v, PicAt H C p v → PicAt H' C p v := by
  refine Pic.ind (P := fun p => ∀ v, PicAt H C p v → PicAt H' C p v) (fun v h => ?_) (fun n ps ih v h => ?_) p
  · obtain ⟨a, dx, pt, nt, vs, rfl, h1, h2, h3, h4⟩ := h.ex
    exact PicAt.mk (k _ _ h1 (.inl ⟨_, _, _, rfl, rfl⟩)) (k _ _ h2 (.inr ⟨_, rfl⟩)) (k _ _ h3 (.inr ⟨_, rfl⟩)) h4
  · obtain ⟨a, dx, pt, nt, vs, rfl, h1, h2, h3, h4⟩ := h.ex
    have l := h4.len
    exact PicAt.mk (k _ _ h1 (.inl ⟨_, _, _, rfl, rfl⟩)) (k _ _ h2 (.inr ⟨_, rfl⟩)) (k _ _ h3 (.inr ⟨_, rfl⟩)) (PicsAt.of l fun i q u e1 e2 => ih q (List.mem_of_getElem? e1) u (h4.get e1 e2))
theorem PicsAt.keep {H H' : Hp} {C : Addr} (k : KeepP H H') {ps : List Pic} {vs : List V} (h : PicsAt H C ps vs) : PicsAt H' C ps vs :=
  PicsAt.of h.len fun i p v e1 e2 => (h.get e1 e2).keep k p v
theorem PicsAt.snoc {H : Hp} {C : Addr} {ps : List Pic} {vs : List V} {p : Pic} {v : V} (h : PicsAt H C ps vs) (hp : PicAt H C p v) : PicsAt H C (ps ++ [p]) (vs ++ [v]) :=
  PicsAt.of (by rw [List.length_append, List.length_append, h.len]; rfl) fun i q u e1 e2 => by
    have l := h.len
    rw [List.getElem?_append] at e1 e2
    by_cases il : i < ps.length
    · rw [if_pos il] at e1
      rw [if_pos (by omega)] at e2
      exact h.get e1 e2
    · rw [if_neg il] at e1
      rw [if_neg (by omega), l] at e2
      have e0 : i - ps.length = 0 := by
        have := (List.getElem?_eq_some_iff.mp e1).1
        simp at this
        omega
      rw [e0] at e1 e2
      simp at e1 e2
      rw [← e1, ← e2]
      exact hp
/-- what the written part tells of the class Picture -/
structure PictC (K : PySem.W.Frag) (C : Addr) : Prop where
  c : Cls K C
  n : ∀ f ∈ ["_text", "_called", "_parts", "_holes", "_levels", "_names"], NoAttr K C f
/-- the properties -/
structure PictP (P : Program) (w : World) (K : PySem.W.Frag) (mg : Str → Option Value) (base : Heap) (C : Addr) : Prop where
  get : ∀ x ∈ [(("text" : Str), ("_text" : Str)), ("called", "_called"), ("parts", "_parts"), ("holes", "_holes"), ("levels", "_levels"), ("names", "_names")], ∃ (p g : Addr) (fd : FuncData), PropOf K C x.1 p g ∧ FnG P w K mg base 1 g fd ["self"] (spFld C x.2) ∧ Binds K fd ["self"] []
abbrev s_P_init : Stmt := inB (topS 34) 0
theorem sc_P_init : FnScope ["self", "text", "called", "texts", "below", "part", "name"] ["self", "text"] (defScope s_P_init) := ⟨rfl, rfl, rfl, by decide +kernel, rfl, by decide +kernel, by decide +kernel⟩
abbrev s_P_text : Stmt := inB (topS 34) 2
theorem sc_P_text : FnScope ["self"] ["self"] (defScope s_P_text) := ⟨rfl, rfl, rfl, by decide +kernel, rfl, by decide +kernel, by decide +kernel⟩
abbrev s_P_called : Stmt := inB (topS 34) 3
theorem sc_P_called : FnScope ["self"] ["self"] (defScope s_P_called) := ⟨rfl, rfl, rfl, by decide +kernel, rfl, by decide +kernel, by decide +kernel⟩
abbrev s_P_parts : Stmt := inB (topS 34) 4
theorem sc_P_parts : FnScope ["self"] ["self"] (defScope s_P_parts) := ⟨rfl, rfl, rfl, by decide +kernel, rfl, by decide +kernel, by decide +kernel⟩
abbrev s_P_holes : Stmt := inB (topS 34) 5
theorem sc_P_holes : FnScope ["self"] ["self"] (defScope s_P_holes) := ⟨rfl, rfl, rfl, by decide +kernel, rfl, by decide +kernel, by decide +kernel⟩
abbrev s_P_levels : Stmt := inB (topS 34) 6
theorem sc_P_levels : FnScope ["self"] ["self"] (defScope s_P_levels) := ⟨rfl, rfl, rfl, by decide +kernel, rfl, by decide +kernel, by decide +kernel⟩
abbrev s_P_names : Stmt := inB (topS 34) 7
theorem sc_P_names : FnScope ["self"] ["self"] (defScope s_P_names) := ⟨rfl, rfl, rfl, by decide +kernel, rfl, by decide +kernel, by decide +kernel⟩
section
variable {P : Program} {w : World} {K : PySem.W.Frag} {mg : Str → Option Value} {base : Heap} {C : Addr}
theorem ok_P_text {f : Addr} {fd : FuncData} (F : Fun K "text" "Picture.text" s_P_text f fd) (T : PictC K C) : FnG P w K mg base 1 f fd ["self"] (spFld C "_text") := by
  refine goes_by F sc_P_text (fun vs H Q E h => ?_) (fun cdv A outer s H vs Q E hc hr h => ?_)
  · obtain ⟨a, dx, fs, v, rfl, _⟩ := h
    rfl
  · obtain ⟨a, dx, fs, v, rfl, ha, hv, q⟩ := h
    exact ⟨_, pss_one (ps_ret (pe_fld (f := "_text") (pv 0) (by rfl))), _, rfl, a, C, dx, fs, v, rfl, ha, T.c, T.n _ (by simp), hv, q⟩
theorem ok_P_called {f : Addr} {fd : FuncData} (F : Fun K "called" "Picture.called" s_P_called f fd) (T : PictC K C) : FnG P w K mg base 1 f fd ["self"] (spFld C "_called") := by
  refine goes_by F sc_P_called (fun vs H Q E h => ?_) (fun cdv A outer s H vs Q E hc hr h => ?_)
  · obtain ⟨a, dx, fs, v, rfl, _⟩ := h
    rfl
  · obtain ⟨a, dx, fs, v, rfl, ha, hv, q⟩ := h
    exact ⟨_, pss_one (ps_ret (pe_fld (f := "_called") (pv 0) (by rfl))), _, rfl, a, C, dx, fs, v, rfl, ha, T.c, T.n _ (by simp), hv, q⟩
theorem ok_P_parts {f : Addr} {fd : FuncData} (F : Fun K "parts" "Picture.parts" s_P_parts f fd) (T : PictC K C) : FnG P w K mg base 1 f fd ["self"] (spFld C "_parts") := by
  refine goes_by F sc_P_parts (fun vs H Q E h => ?_) (fun cdv A outer s H vs Q E hc hr h => ?_)
  · obtain ⟨a, dx, fs, v, rfl, _⟩ := h
    rfl
  · obtain ⟨a, dx, fs, v, rfl, ha, hv, q⟩ := h
    exact ⟨_, pss_one (ps_ret (pe_fld (f := "_parts") (pv 0) (by rfl))), _, rfl, a, C, dx, fs, v, rfl, ha, T.c, T.n _ (by simp), hv, q⟩
theorem ok_P_holes {f : Addr} {fd : FuncData} (F : Fun K "holes" "Picture.holes" s_P_holes f fd) (T : PictC K C) : FnG P w K mg base 1 f fd ["self"] (spFld C "_holes") := by
  refine goes_by F sc_P_holes (fun vs H Q E h => ?_) (fun cdv A outer s H vs Q E hc hr h => ?_)
  · obtain ⟨a, dx, fs, v, rfl, _⟩ := h
    rfl
  · obtain ⟨a, dx, fs, v, rfl, ha, hv, q⟩ := h
    exact ⟨_, pss_one (ps_ret (pe_fld (f := "_holes") (pv 0) (by rfl))), _, rfl, a, C, dx, fs, v, rfl, ha, T.c, T.n _ (by simp), hv, q⟩
theorem ok_P_levels {f : Addr} {fd : FuncData} (F : Fun K "levels" "Picture.levels" s_P_levels f fd) (T : PictC K C) : FnG P w K mg base 1 f fd ["self"] (spFld C "_levels") := by
  refine goes_by F sc_P_levels (fun vs H Q E h => ?_) (fun cdv A outer s H vs Q E hc hr h => ?_)
  · obtain ⟨a, dx, fs, v, rfl, _⟩ := h
    rfl
  · obtain ⟨a, dx, fs, v, rfl, ha, hv, q⟩ := h
    exact ⟨_, pss_one (ps_ret (pe_fld (f := "_levels") (pv 0) (by rfl))), _, rfl, a, C, dx, fs, v, rfl, ha, T.c, T.n _ (by simp), hv, q⟩
theorem ok_P_names {f : Addr} {fd : FuncData} (F : Fun K "names" "Picture.names" s_P_names f fd) (T : PictC K C) : FnG P w K mg base 1 f fd ["self"] (spFld C "_names") := by
  refine goes_by F sc_P_names (fun vs H Q E h => ?_) (fun cdv A outer s H vs Q E hc hr h => ?_)
  · obtain ⟨a, dx, fs, v, rfl, _⟩ := h
    rfl
  · obtain ⟨a, dx, fs, v, rfl, ha, hv, q⟩ := h
    exact ⟨_, pss_one (ps_ret (pe_fld (f := "_names") (pv 0) (by rfl))), _, rfl, a, C, dx, fs, v, rfl, ha, T.c, T.n _ (by simp), hv, q⟩
end
end K11
set_option Elab.async false
set_option linter.all false
set_option autoImplicit false
set_option maxRecDepth 100000
set_option maxHeartbeats 4000000
namespace K11
open PySem PySem.Spec PyProof.Rows L2 Vb Wd Xd Xo SX Pc Zc Ze
/-- what is known of the class Picture but its __init__'s promise -/
structure EnvQ (P : Program) (w : World) (K : PySem.W.Frag) (mg : Str → Option Value) (base : Heap) (C : Addr) where
  T : PictC K C
  TP : PictP P w K mg base C
  g : mg "Picture" = some (.ref C)
  fI : Addr
  fdI : FuncData
  M : L2.Mk K C fI
  bI : Binds K fdI ["self", "text"] []
def spInitP (C : Addr) (n : Nat) : Sp := fun vs H Q _ => ∃ (a dx : Addr) (p : Pic), vs = [.ref a, .str (S p.cs)] ∧ H a = some (.ins C dx []) ∧ p.Ok ∧ p.lev < n ∧ p.lev ≤ 4 ∧ ∀ H', But a H H' → PicAt H' C p (.ref a) → Q .non H'
theorem PicsAt.nilv {H : Hp} {C : Addr} {vs : List V} (h : PicsAt H C [] vs) : vs = [] := h
theorem sum_cast : ∀ ns : List Nat, (ns.map fun (n : Nat) => (n : Int)).sum = ((ns.sum : Nat) : Int)
  | [] => rfl
  | n :: ns => by
    rw [List.map_cons, List.sum_cons, List.sum_cons, sum_cast ns]
    omega
theorem levL_mem : ∀ {ps : List Pic}, ps ≠ [] → ∃ p ∈ ps, p.lev = levL ps
  | [], h => (h rfl).elim
  | [p], _ => ⟨p, List.mem_cons_self .., by show p.lev = max p.lev 0; omega⟩
  | p :: q :: ps, _ => by
    obtain ⟨r, hr, e⟩ := levL_mem (ps := q :: ps) (List.cons_ne_nil _ _)
    have e0 : levL (p :: q :: ps) = max p.lev (levL (q :: ps)) := rfl
    by_cases h : levL (q :: ps) ≤ p.lev
    · exact ⟨p, List.mem_cons_self .., by omega⟩
    · exact ⟨r, List.mem_cons_of_mem _ hr, by omega⟩
theorem flat_take {ps : List Pic} {i : Nat} {q : Pic} (h : ps[i]? = some q) : nmsL (ps.take (i + 1)) = nmsL (ps.take i) ++ q.nms := by
  rw [nms_flat, nms_flat, List.take_add_one, h, List.flatMap_append]
  simp
theorem nms_len (p : Pic) : p.Ok → p.nms.length ≤ lenB p.lev := by
  refine Pic.ind (P := fun p => p.Ok → p.nms.length ≤ lenB p.lev) (fun _ => Nat.zero_le _) (fun n ps ih ok => ?_) p
  obtain ⟨w, l2, l4, oks⟩ := ok_node ok
  have hb : ∀ p ∈ ps, p.nms.length ≤ lenB (levL ps) := fun p hp => Nat.le_trans (ih p hp (oks p hp)) (lenB_mono (lev_le hp))
  have all : ∀ qs : List Pic, (∀ p ∈ qs, p.nms.length ≤ lenB (levL ps)) → (nmsL qs).length ≤ qs.length * lenB (levL ps) := fun qs => by
    induction qs with
    | nil => intro _; exact Nat.zero_le _
    | cons q qs ihq =>
      intro h
      have h1 := h q (List.mem_cons_self ..)
      have h2 := ihq fun x hx => h x (List.mem_cons_of_mem _ hx)
      show (q.nms ++ nmsL qs).length ≤ _
      rw [List.length_append, List.length_cons, Nat.succ_mul]
      omega
  have h3 := all ps hb
  have h4 : ps.length * lenB (levL ps) ≤ 4 * lenB (levL ps) := Nat.mul_le_mul_right _ l4
  show (n :: nmsL ps).length ≤ lenB (1 + levL ps)
  rw [Nat.add_comm 1]
  show _ ≤ 14 + 4 * lenB (levL ps)
  rw [List.length_cons]
  omega
theorem len4 {p : Pic} (h : p.Ok) (l : p.lev ≤ 4) : p.cs.length ≤ 1446 := Nat.le_trans (cs_len p h) (Nat.le_trans (lenB_mono l) (by decide))
section
variable {P : Program} {w : World} {K : PySem.W.Frag} {mg : Str → Option Value} {base : Heap} {C : Addr}
theorem ok_P_init {t1 : Tok} (VQ : EnvQ P w K mg base C) (F : Fun K "__init__" "Picture.__init__" s_P_init VQ.fI VQ.fdI) (G_depth : Cg P w K mg base 1 "_depth" spDepth) (G_top_of : Cg P w K mg base 3 "_top_of" spTop) (c_MAX_LEVELS : mg "MAX_LEVELS" = some (.int 4 t1))
    (z_isinstance : mg "isinstance" = none) (z_str : mg "str" = none) (z_tuple : mg "tuple" = none) (z_sum : mg "sum" = none) (z_max : mg "max" = none) : ∀ n, FnG P w K mg base (4 + 2 * n) VQ.fI VQ.fdI ["self", "text"] (spInitP C n)
  | 0 => ⟨fun vs H Q E h => by obtain ⟨a, dx, p, _, _, _, l, _⟩ := h; omega, fun A outer s H args us vs Q E hc hr e0 hb r h => by obtain ⟨a, dx, p, _, _, _, l, _⟩ := h; omega⟩
  | n + 1 => by
    have IH := ok_P_init VQ F G_depth G_top_of c_MAX_LEVELS z_isinstance z_str z_tuple z_sum z_max n
    have e : 4 + 2 * (n + 1) = (4 + 2 * n + 1) + 1 := by omega
    rw [e]
    obtain ⟨p2, g2, fd2, o2, G2, b2⟩ := VQ.TP.get ("holes", "_holes") (by simp)
    obtain ⟨p3, g3, fd3, o3, G3, b3⟩ := VQ.TP.get ("levels", "_levels") (by simp)
    obtain ⟨p4, g4, fd4, o4, G4, b4⟩ := VQ.TP.get ("names", "_names") (by simp)
    refine goes_by F sc_P_init (fun vs H Q E h => ?_) (fun cdv A outer s H vs Q E hc hr h => ?_)
    · obtain ⟨a, dx, p, rfl, _⟩ := h
      rfl
    · obtain ⟨a, dx, p, rfl, ha, ok, ln, l4, q⟩ := h
      have hr3 := hr.mono (show 3 ≤ 4 + 2 * n + 1 by omega)
      have hr2 := hr.mono (show 2 ≤ 4 + 2 * n + 1 by omega)
      refine ⟨_, (pss_cons (ps_if (PW.pt (pw_or (pt_not (pt_val (pe_callB call_isi (by rfl) z_isinstance (by decide +kernel) (pa_cons (pv 1) (pa_cons (pe_bltn (v := .ty "str") (by rfl) z_str (by decide +kernel) rfl) pa_nil))))) (pw_or1 (pt_cmpR op_gt (pe_cg G_depth hc hr3 (by rfl) (pa_cons (pv 1) pa_nil)) (pe_glob (v := .int 4) rfl c_MAX_LEVELS ⟨_, rfl⟩) (nomark _)))))
      pss_never
      pss_nil)
      (pss_cons (ps_asg (pe_cg G_top_of hc hr3 (by rfl) (pa_cons (pv 1) pa_nil)) (pg_tup (by rfl) (pgs_cons (pg_name (i := 2) sc_P_init.nd rfl (Or.inl rfl)) (pgs_cons (pg_name (i := 3) sc_P_init.nd rfl (Or.inl rfl)) pgs_nil))))
      (pss_cons (ps_fld (f := "_text") (pv 0) (pv 1) (by rfl))
      (pss_cons (ps_fld (f := "_called") (pv 0) (pv 2) (by rfl))
      (pss_cons (ps_fld (f := "_parts") (pv 0) (pe_callTy (cr_tuple : CallR _ _ (rTup K)) (by rfl) z_tuple (by decide +kernel) (pa_cons (pe_lc (own := [("part", 5)]) (g := gName 5) (by rfl) sc_P_init.nd (pi_list (pv 3)) (blkOk_by (own := [("part", 5)]) (N := ["self", "text", "called", "texts", "below", "part", "name"]) (sc := defScope s_P_init) (by decide +kernel)) (fun _ _ _ _ _ => pg_name (i := 5) sc_P_init.nd rfl (Or.inl rfl)) (fun _ _ _ _ _ => pts_nil)
        (fun _ _ _ _ _ => (pe_makeE (E := fun _ _ _ => False) (W := fun _ _ _ _ => False) VQ.M (FnE.of IH) hc hr (by rfl) VQ.g VQ.bI LamX.takes0 (fun _ _ _ _ z => z) (pa_cons (pv 5) pa_nil)))) pa_nil)) (by rfl))
      (pss_one (ps_if (pt_cmpR op_isN (pv 2) pe_non (nomark _))
      (pss_cons (ps_fld (f := "_holes") (pv 0) pe_int (by rfl))
      (pss_cons (ps_fld (f := "_levels") (pv 0) pe_int (by rfl))
      (pss_one (ps_fld (f := "_names") (pv 0) (pe_tup pa_nil) (by rfl)))))
      (pss_cons (ps_fld (f := "_holes") (pv 0) (pe_callB (cr_sum rfl) (by rfl) z_sum (by decide +kernel) (pa_cons (pe_lc (own := [("part", 5)]) (g := gName 5) (by rfl) sc_P_init.nd (pi_tup (pe_fld (f := "_parts") (pv 0) (by rfl))) (blkOk_by (own := [("part", 5)]) (N := ["self", "text", "called", "texts", "below", "part", "name"]) (sc := defScope s_P_init) (by decide +kernel)) (fun _ _ _ _ _ => pg_name (i := 5) sc_P_init.nd rfl (Or.inl rfl)) (fun _ _ _ _ _ => pts_nil)
        (fun _ _ _ _ _ => pe_propG (n := "holes") (pv 5) VQ.T.c o2 G2 hc hr2 b2)) pa_nil)) (by rfl))
      (pss_cons (ps_fld (f := "_levels") (pv 0) (pe_op op_add pe_int (pe_callB (cr_max rfl) (by rfl) z_max (by decide +kernel) (pa_cons (pe_lc (own := [("part", 5)]) (g := gName 5) (by rfl) sc_P_init.nd (pi_tup (pe_fld (f := "_parts") (pv 0) (by rfl))) (blkOk_by (own := [("part", 5)]) (N := ["self", "text", "called", "texts", "below", "part", "name"]) (sc := defScope s_P_init) (by decide +kernel)) (fun _ _ _ _ _ => pg_name (i := 5) sc_P_init.nd rfl (Or.inl rfl)) (fun _ _ _ _ _ => pts_nil)
        (fun _ _ _ _ _ => pe_propG (n := "levels") (pv 5) VQ.T.c o3 G3 hc hr2 b3)) pa_nil))) (by rfl))
      (pss_cons (ps_setLc2 (i := 4) (own := [("part", 5), ("name", 6)]) (vs1 := [6]) (g := gName 5) (g1 := gName 6) (by rfl) sc_P_init.nd rfl rfl (sw_true rfl rfl rfl (by decide +kernel)) (pi_tup (pe_fld (f := "_parts") (pv 0) (by rfl)))
        (blkOk_by (own := [("part", 5), ("name", 6)]) (N := ["self", "text", "called", "texts", "below", "part", "name"]) (sc := defScope s_P_init) (by decide +kernel)) (by decide) (fun _ _ _ _ _ => pg_name (i := 5) sc_P_init.nd rfl (Or.inl rfl)) (fun _ _ _ _ _ => pts_nil)
        (fun _ _ _ _ _ => (pi_tup (pe_propG (n := "names") (pv 5) VQ.T.c o4 G4 hc hr2 b4) : PI _ _ _ (iTup K _))) (fun _ _ _ _ _ => pg_name (i := 6) sc_P_init.nd rfl (Or.inl rfl)) (fun _ _ _ _ _ => pts_nil) (fun _ _ _ _ _ => (pv 6)))
      (pss_one (ps_fld (f := "_names") (pv 0) (pe_tup (pa_cons (pv 2) (StX.pa_star (pv 4) pa_nil))) (by rfl))))))))))))), ?_⟩
      refine ⟨_, rfl, _, _, _, _, true, rfl, .ty _, .base (.str _), kit_ty (by decide +kernel), _, rfl, iteF ⟨_, rfl, p.cs, rfl, _, _, rfl, rfl, false, ?_, iteF ?_⟩⟩
      · show V.bl (decide ((4 : Int) < dep p.cs)) = _
        rw [dep_pic ok, decide_eq_false (by omega)]
      refine ⟨_, rfl, p, rfl, ok, Nat.le_trans (len4 ok l4) (by decide), fun t l H1 s1 et el => ?_⟩
      refine ⟨t, _, rfl, .inl (.inl et), rfl, _, _, rfl, _, _, rfl, rfl, ?_⟩
      have T := VQ.T
      refine ⟨_, rfl, _, rfl, a, C, dx, _, rfl, s1 _ _ ha, T.c, T.n _ (by simp), by decide, _, rfl, _, rfl, a, C, dx, _, rfl, upd_same, T.c, T.n _ (by simp), by show 1 < 1000; decide, ?_⟩
      rw [upd_upd, show putF "_called" (calledV p) (putF "_text" (V.str (S p.cs)) []) = ([("_text", V.str (S p.cs)), ("_called", calledV p)] : List (Str × V)) from rfl]
      have b1 : But a H (upd H1 a (.ins C dx [("_text", .str (S p.cs)), ("_called", calledV p)])) := (But.of s1).trans (But.put _)
      have la : l ≠ a := fun z => by
        have := s1 _ _ ha
        rw [← z, el] at this
        cases this
      have el2 : (upd H1 a (.ins C dx [("_text", .str (S p.cs)), ("_called", calledV p)])) l = some (.lst (txts (p.parts.map Pic.cs))) := by
        rw [upd_ne la]
        exact el
      have ea2 : (upd H1 a (.ins C dx [("_text", .str (S p.cs)), ("_called", calledV p)])) a = some (.ins C dx [("_text", .str (S p.cs)), ("_called", calledV p)]) := upd_same
      refine ⟨_, rfl, l, rfl, ⟨_, .inl (.inl el2)⟩, fun D nD => ?_⟩
      generalize upd H1 a (.ins C dx [("_text", .str (S p.cs)), ("_called", calledV p)]) = H2 at b1 el2 ea2 nD ⊢
      have few : p.parts.length ≤ 4 := by
        cases p with
        | hole => exact Nat.zero_le _
        | node m ps => exact (ok_node ok).2.2.1
      have big : ∀ {n : Nat}, n ≤ 4 → n < sizeLine := fun h => Nat.lt_of_le_of_lt h (by decide)
      refine lc_list (K := K) (a := l) (xs := txts (p.parts.map Pic.cs)) (fun i H' => Same H2 H' ∧ ∃ vs, H' D = some (.lst vs) ∧ PicsAt H' C (p.parts.take i) vs) ⟨same_put nD (Same.refl _), [], upd_same, rfl⟩ (fun i H' _ h => .inl (.inl (h.1 _ _ el2))) (fun i x H3 hx h => ?_) (fun H3 h => ?_)
      · obtain ⟨s3, vs, e3, pa⟩ := h
        unfold txts at hx
        rw [List.map_map, List.getElem?_map] at hx
        obtain ⟨r, hr', rfl⟩ := Option.map_eq_some_iff.mp hx
        have rm := List.mem_of_getElem? hr'
        have il := (List.getElem?_eq_some_iff.mp hr').1
        have lr := lev_part rm
        refine ⟨rfl, _, rfl, fun x dx' nx ndx ne => ?_⟩
        refine ⟨x, dx', r, rfl, upd_same, ok_part ok rm, by omega, by omega, fun H4 b4 pr => ⟨rfl, ?_⟩⟩
        have s34 : Same H3 H4 := fun y o hy => b4 _ _ (ne_of_none hy nx) (by
          rw [upd_ne (ne_of_none hy nx), upd_ne (ne_of_none hy ndx)]
          exact hy)
        have e4 := s34 _ _ e3
        have lv := pa.len
        rw [List.length_take] at lv
        refine ⟨vs, e4, big (by omega), same_put nD (s3.trans s34), vs ++ [.ref x], upd_same, ?_⟩
        rw [List.take_add_one, hr']
        have kp := KeepP.putL (ys := vs ++ [.ref x]) e4
        exact (pa.keep ((KeepP.of s34).trans kp)).snoc (pr.keep kp _ _)
      · obtain ⟨s3, vs, e3, pa⟩ := h
        have lx : (txts (p.parts.map Pic.cs)).length = p.parts.length := by rw [txts_len, List.length_map]
        rw [lx, List.take_of_length_le (Nat.le_refl _)] at pa
        refine ⟨D, _, rfl, .inl ⟨.inl (.inl e3), fun r nr => ?_⟩⟩
        have s4 := s3.trans (same_new (o := .tup vs) nr)
        have er : (upd H3 r (.tup vs)) r = some (.tup vs) := upd_same
        have pa4 := pa.keep (KeepP.of (same_new (o := .tup vs) nr))
        generalize upd H3 r (.tup vs) = H4 at s4 er pa4 ⊢
        have ea4 := s4 _ _ ea2
        refine ⟨_, rfl, a, C, dx, _, rfl, ea4, T.c, T.n _ (by simp), by show 2 < 1000; decide, ?_⟩
        rw [show putF "_parts" (V.ref r) ([("_text", V.str (S p.cs)), ("_called", calledV p)] : List (Str × V)) = ([("_text", V.str (S p.cs)), ("_called", calledV p), ("_parts", V.ref r)] : List (Str × V)) from rfl]
        have kp := KeepP.but (gs := [("_text", V.str (S p.cs)), ("_called", calledV p)]) ea4 (by show 2 ≠ 6; decide) (But.put (.ins C dx [("_text", V.str (S p.cs)), ("_called", calledV p), ("_parts", .ref r)]))
        have pa5 := pa4.keep kp
        have ra : r ≠ a := fun z => by
          rw [z, ea4] at er
          cases er
        have er5 : (upd H4 a (.ins C dx [("_text", V.str (S p.cs)), ("_called", calledV p), ("_parts", .ref r)])) r = some (.tup vs) := by
          rw [upd_ne ra]
          exact er
        have b5 : But a H (upd H4 a (.ins C dx [("_text", V.str (S p.cs)), ("_called", calledV p), ("_parts", .ref r)])) := (b1.trans (But.of s4)).trans (But.put _)
        have ea5 : (upd H4 a (.ins C dx [("_text", V.str (S p.cs)), ("_called", calledV p), ("_parts", .ref r)])) a = some (.ins C dx [("_text", V.str (S p.cs)), ("_called", calledV p), ("_parts", .ref r)]) := upd_same
        generalize upd H4 a (.ins C dx [("_text", V.str (S p.cs)), ("_called", calledV p), ("_parts", .ref r)]) = H5 at pa5 er5 b5 ea5 ⊢
        cases p with
        | hole =>
          have ev : vs = [] := pa5.nilv
          subst ev
          refine ⟨_, rfl, rfl, true, rfl, iteT ?_⟩
          refine ⟨_, rfl, a, C, dx, _, rfl, ea5, T.c, T.n _ (by simp), by show 3 < 1000; decide, _, rfl, a, C, dx, _, rfl, upd_same, T.c, T.n _ (by simp), by show 4 < 1000; decide, by show 0 ≤ sizeLine; decide, fun nt nnt => ?_⟩
          rw [upd_upd] at nnt ⊢
          have k6 := KeepP.but ea5 (by show 3 ≠ 6; decide) (But.put (.ins C dx (putF "_levels" (V.int 0) (putF "_holes" (V.int 1) [("_text", V.str (S Pic.hole.cs)), ("_called", calledV .hole), ("_parts", .ref r)]))))
          have b6 := b5.trans (But.put (a := a) (H := H5) (.ins C dx (putF "_levels" (V.int 0) (putF "_holes" (V.int 1) [("_text", V.str (S Pic.hole.cs)), ("_called", calledV .hole), ("_parts", .ref r)]))))
          have er6 := k6 _ _ er5 (.inr ⟨_, rfl⟩)
          have ea6 : (upd H5 a (.ins C dx (putF "_levels" (V.int 0) (putF "_holes" (V.int 1) [("_text", V.str (S Pic.hole.cs)), ("_called", calledV .hole), ("_parts", .ref r)])))) a = some (.ins C dx (putF "_levels" (V.int 0) (putF "_holes" (V.int 1) [("_text", V.str (S Pic.hole.cs)), ("_called", calledV .hole), ("_parts", .ref r)]))) := upd_same
          generalize upd H5 a (.ins C dx (putF "_levels" (V.int 0) (putF "_holes" (V.int 1) [("_text", V.str (S Pic.hole.cs)), ("_called", calledV .hole), ("_parts", .ref r)]))) = H6 at nnt k6 b6 er6 ea6 ⊢
          have s7 := same_new (o := .tup []) nnt
          refine ⟨_, rfl, a, C, dx, _, rfl, s7 _ _ ea6, T.c, T.n _ (by simp), by show 5 < 1000; decide, ?_⟩
          have na : nt ≠ a := fun z => by rw [z, ea6] at nnt; cases nnt
          refine q _ ((b6.trans (But.of s7)).trans (But.put _)) (PicAt.mk (p := .hole) (pt := r) (nt := nt) (vs := []) upd_same ?_ ?_ rfl)
          · rw [upd_ne ra]
            exact s7 _ _ er6
          · rw [upd_ne na]
            exact upd_same
        | node m ps =>
          obtain ⟨wm, l2, lm4, oks⟩ := ok_node ok
          have vl := pa5.len
          have getp : ∀ {H' : Hp}, KeepP H5 H' → ∀ (i : Nat) (x : V), vs[i]? = some x → ∃ q, ps[i]? = some q ∧ PicAt H' C q x := fun k i x hx => by
            have il : i < ps.length := by
              have := (List.getElem?_eq_some_iff.mp hx).1
              have e : (Pic.node m ps).parts.length = ps.length := rfl
              omega
            exact ⟨ps[i], List.getElem?_eq_getElem il, (pa5.get (List.getElem?_eq_getElem il) hx).keep k _ _⟩
          have vl2 : vs.length = ps.length := vl
          refine ⟨_, rfl, rfl, false, rfl, iteF ?_⟩
          refine ⟨_, rfl, a, C, dx, _, .ref r, rfl, ea5, T.c, T.n _ (by simp), by rfl, r, rfl, ⟨_, .inl (.inl er5)⟩, fun D1 nD1 => ?_⟩
          refine lc_tup (K := K) (a := r) (xs := vs) (fun i H' => Same H5 H' ∧ H' D1 = some (.lst (((ps.take i).map fun q => (q.holes : Int)).map V.int))) ⟨same_put nD1 (Same.refl _), upd_same⟩ (fun i H' _ h => .inl (.inl (h.1 _ _ er5))) (fun i x H6 hx h => ?_) (fun H6 h => ?_)
          · obtain ⟨s6, e6⟩ := h
            obtain ⟨q', hq, pq⟩ := getp (KeepP.of s6) i x hx
            obtain ⟨a', dx', pt', nt', vs', rfl, h1, h2, h3, h4⟩ := pq.ex
            refine ⟨rfl, _, rfl, a', dx', _, rfl, h1, a', dx', _, .int (q'.holes : Nat), rfl, h1, by rfl, _, e6, ?_, same_put nD1 s6, ?_⟩
            · rw [List.length_map, List.length_map, List.length_take]
              exact big (by omega)
            · rw [upd_same, List.take_add_one, hq, List.map_append, List.map_append]
              rfl
          · obtain ⟨s6, e6⟩ := h
            rw [vl2, List.take_of_length_le (Nat.le_refl _)] at e6
            refine ⟨D1, _, rfl, .inl (.inl e6), ?_⟩
            have ea6 := s6 _ _ ea5
            refine ⟨_, rfl, a, C, dx, _, rfl, ea6, T.c, T.n _ (by simp), by show 3 < 1000; decide, ?_⟩
            have eh : ((ps.map fun q => (q.holes : Int)).sum) = (((Pic.node m ps).holes : Nat) : Int) := by
              show _ = ((holesL ps : Nat) : Int)
              rw [holes_sum, ← sum_cast, List.map_map]
              rfl
            rw [eh, show putF "_holes" (V.int (((Pic.node m ps).holes : Nat) : Int)) ([("_text", V.str (S (Pic.node m ps).cs)), ("_called", calledV (Pic.node m ps)), ("_parts", V.ref r)] : List (Str × V)) = ([("_text", V.str (S (Pic.node m ps).cs)), ("_called", calledV (Pic.node m ps)), ("_parts", V.ref r), ("_holes", V.int (((Pic.node m ps).holes : Nat) : Int))] : List (Str × V)) from rfl]
            have k6 := (KeepP.of s6).trans (KeepP.but ea6 (by show 3 ≠ 6; decide) (But.put (.ins C dx [("_text", V.str (S (Pic.node m ps).cs)), ("_called", calledV (Pic.node m ps)), ("_parts", V.ref r), ("_holes", V.int (((Pic.node m ps).holes : Nat) : Int))])))
            have b6 := (b5.trans (But.of s6)).trans (But.put (a := a) (H := H6) (.ins C dx [("_text", V.str (S (Pic.node m ps).cs)), ("_called", calledV (Pic.node m ps)), ("_parts", V.ref r), ("_holes", V.int (((Pic.node m ps).holes : Nat) : Int))]))
            have ea7 : (upd H6 a (.ins C dx [("_text", V.str (S (Pic.node m ps).cs)), ("_called", calledV (Pic.node m ps)), ("_parts", V.ref r), ("_holes", V.int (((Pic.node m ps).holes : Nat) : Int))])) a = some (.ins C dx [("_text", V.str (S (Pic.node m ps).cs)), ("_called", calledV (Pic.node m ps)), ("_parts", V.ref r), ("_holes", V.int (((Pic.node m ps).holes : Nat) : Int))]) := upd_same
            generalize upd H6 a (.ins C dx [("_text", V.str (S (Pic.node m ps).cs)), ("_called", calledV (Pic.node m ps)), ("_parts", V.ref r), ("_holes", V.int (((Pic.node m ps).holes : Nat) : Int))]) = H7 at k6 b6 ea7 ⊢
            have er7 := k6 _ _ er5 (.inr ⟨_, rfl⟩)
            refine ⟨_, rfl, a, C, dx, _, .ref r, rfl, ea7, T.c, T.n _ (by simp), by rfl, r, rfl, ⟨_, .inl (.inl er7)⟩, fun D2 nD2 => ?_⟩
            refine lc_tup (K := K) (a := r) (xs := vs) (fun i H' => Same H7 H' ∧ H' D2 = some (.lst (((ps.take i).map fun q => (q.lev : Int)).map V.int))) ⟨same_put nD2 (Same.refl _), upd_same⟩ (fun i H' _ h => .inl (.inl (h.1 _ _ er7))) (fun i x H8 hx h => ?_) (fun H8 h => ?_)
            · obtain ⟨s8, e8⟩ := h
              obtain ⟨q', hq, pq⟩ := getp (k6.trans (KeepP.of s8)) i x hx
              obtain ⟨a', dx', pt', nt', vs', rfl, h1, h2, h3, h4⟩ := pq.ex
              refine ⟨rfl, _, rfl, a', dx', _, rfl, h1, a', dx', _, .int (q'.lev : Nat), rfl, h1, by rfl, _, e8, ?_, same_put nD2 s8, ?_⟩
              · rw [List.length_map, List.length_map, List.length_take]
                exact big (by omega)
              · rw [upd_same, List.take_add_one, hq, List.map_append, List.map_append]
                rfl
            · obtain ⟨s8, e8⟩ := h
              rw [vl2, List.take_of_length_le (Nat.le_refl _)] at e8
              refine ⟨D2, _, rfl, .inl (.inl e8), by rw [List.length_map]; omega, fun mx hm hle => ?_⟩
              have emx : mx = ((levL ps : Nat) : Int) := by
                obtain ⟨q1, hq1, e1⟩ := List.mem_map.mp hm
                obtain ⟨q2, hq2, e2⟩ := levL_mem (ps := ps) (fun z => by rw [z] at l2; simp at l2)
                have h1 := lev_le hq1
                have h2 := hle _ (List.mem_map.mpr ⟨q2, hq2, rfl⟩)
                omega
              subst emx
              have ea8 := s8 _ _ ea7
              refine ⟨_, _, rfl, rfl, _, rfl, a, C, dx, _, rfl, ea8, T.c, T.n _ (by simp), by show 4 < 1000; decide, ?_⟩
              have el5 : (1 : Int) + ((levL ps : Nat) : Int) = (((Pic.node m ps).lev : Nat) : Int) := by
                show _ = ((1 + levL ps : Nat) : Int)
                omega
              rw [show (fun i j => V.int (i + j)) (1 : Int) ((levL ps : Nat) : Int) = V.int (((Pic.node m ps).lev : Nat) : Int) from congrArg V.int el5,
                show putF "_levels" (V.int (((Pic.node m ps).lev : Nat) : Int)) ([("_text", V.str (S (Pic.node m ps).cs)), ("_called", calledV (Pic.node m ps)), ("_parts", V.ref r), ("_holes", V.int (((Pic.node m ps).holes : Nat) : Int))] : List (Str × V)) = ([("_text", V.str (S (Pic.node m ps).cs)), ("_called", calledV (Pic.node m ps)), ("_parts", V.ref r), ("_holes", V.int (((Pic.node m ps).holes : Nat) : Int)), ("_levels", V.int (((Pic.node m ps).lev : Nat) : Int))] : List (Str × V)) from rfl]
              have k8 := (k6.trans (KeepP.of s8)).trans (KeepP.but ea8 (by show 4 ≠ 6; decide) (But.put (.ins C dx [("_text", V.str (S (Pic.node m ps).cs)), ("_called", calledV (Pic.node m ps)), ("_parts", V.ref r), ("_holes", V.int (((Pic.node m ps).holes : Nat) : Int)), ("_levels", V.int (((Pic.node m ps).lev : Nat) : Int))])))
              have b8 := (b6.trans (But.of s8)).trans (But.put (a := a) (H := H8) (.ins C dx [("_text", V.str (S (Pic.node m ps).cs)), ("_called", calledV (Pic.node m ps)), ("_parts", V.ref r), ("_holes", V.int (((Pic.node m ps).holes : Nat) : Int)), ("_levels", V.int (((Pic.node m ps).lev : Nat) : Int))]))
              have ea9 : (upd H8 a (.ins C dx [("_text", V.str (S (Pic.node m ps).cs)), ("_called", calledV (Pic.node m ps)), ("_parts", V.ref r), ("_holes", V.int (((Pic.node m ps).holes : Nat) : Int)), ("_levels", V.int (((Pic.node m ps).lev : Nat) : Int))])) a = some (.ins C dx [("_text", V.str (S (Pic.node m ps).cs)), ("_called", calledV (Pic.node m ps)), ("_parts", V.ref r), ("_holes", V.int (((Pic.node m ps).holes : Nat) : Int)), ("_levels", V.int (((Pic.node m ps).lev : Nat) : Int))]) := upd_same
              generalize upd H8 a (.ins C dx [("_text", V.str (S (Pic.node m ps).cs)), ("_called", calledV (Pic.node m ps)), ("_parts", V.ref r), ("_holes", V.int (((Pic.node m ps).holes : Nat) : Int)), ("_levels", V.int (((Pic.node m ps).lev : Nat) : Int))]) = H9 at k8 b8 ea9 ⊢
              have er9 := k8 _ _ er5 (.inr ⟨_, rfl⟩)
              refine ⟨_, rfl, a, C, dx, _, .ref r, rfl, ea9, T.c, T.n _ (by simp), by rfl, r, rfl, ⟨_, .inl (.inl er9)⟩, fun D3 nD3 => ?_⟩
              have lnm : ∀ i, (nmsL (ps.take i)).length ≤ 5784 := fun i => by
                have e1 : ps = ps.take i ++ ps.drop i := (List.take_append_drop i ps).symm
                have e2 : nmsL ps = nmsL (ps.take i) ++ nmsL (ps.drop i) := by
                  conv => lhs; rw [e1]
                  rw [nms_flat, nms_flat, nms_flat, List.flatMap_append]
                have e3 : (Pic.node m ps).nms = m :: nmsL ps := rfl
                have e4 := nms_len _ ok
                rw [e3, List.length_cons, e2, List.length_append] at e4
                have := lenB_mono l4
                have e5 : lenB 4 ≤ 5784 := by decide
                omega
              refine Ze.walk_tup (K := K) (a := r) (xs := vs) (fun i H' => Same H9 H' ∧ H' D3 = some (.lst (txts (nmsL (ps.take i))))) ⟨same_put nD3 (Same.refl _), upd_same⟩ (fun i H' _ h => .inl (.inl (h.1 _ _ er9))) (fun i x H10 hx h => ?_) (fun H10 h => ?_)
              · obtain ⟨s10, e10⟩ := h
                obtain ⟨q', hq, pq⟩ := getp (k8.trans (KeepP.of s10)) i x hx
                obtain ⟨a', dx', pt', nt', vs', rfl, h1, h2, h3, h4⟩ := pq.ex
                refine ⟨rfl, _, rfl, a', dx', _, rfl, h1, a', dx', _, .ref nt', rfl, h1, by rfl, nt', rfl, ⟨_, .inl (.inl h3)⟩, ?_⟩
                refine Ze.walk_tup (K := K) (a := nt') (xs := txts q'.nms) (fun j H' => Same H9 H' ∧ H' nt' = some (.tup (txts q'.nms)) ∧ H' D3 = some (.lst (txts (nmsL (ps.take i) ++ q'.nms.take j)))) ⟨s10, h3, by rw [List.take_zero, List.append_nil]; exact e10⟩ (fun j H' _ h => .inl (.inl h.2.1)) (fun j y H11 hy h => ?_) (fun H11 h => ?_)
                · obtain ⟨s11, h3', e11⟩ := h
                  unfold txts at hy
                  rw [List.getElem?_map] at hy
                  obtain ⟨u, hu, rfl⟩ := Option.map_eq_some_iff.mp hy
                  have nt3 : nt' ≠ D3 := fun z => by rw [z, e11] at h3'; cases h3'
                  refine ⟨rfl, _, rfl, _, e11, ?_, same_put nD3 s11, by rw [upd_ne nt3]; exact h3', ?_⟩
                  · have la := lnm (i + 1)
                    rw [flat_take hq, List.length_append] at la
                    rw [txts_len, List.length_append, List.length_take]
                    exact Nat.lt_of_le_of_lt (show _ ≤ 5784 by omega) (by decide)
                  · rw [upd_same, List.take_add_one, hu, ← List.append_assoc]
                    show some (HO.lst (txts (nmsL (ps.take i) ++ q'.nms.take j) ++ [.str (S u)])) = _
                    rw [← txts_snoc]
                    rfl
                · obtain ⟨s11, h3', e11⟩ := h
                  rw [txts_len, List.take_of_length_le (Nat.le_refl _)] at e11
                  exact ⟨s11, by rw [e11, flat_take hq]⟩
              · obtain ⟨s10, e10⟩ := h
                rw [vl2, List.take_of_length_le (Nat.le_refl _)] at e10
                have ea10 := s10 _ _ ea9
                have ll := lnm ps.length
                rw [List.take_of_length_le (Nat.le_refl _)] at ll
                refine ⟨_, rfl, _, rfl, D3, _, rfl, .inr (.inl (.inl e10)), ?_, fun nt nnt => ?_⟩
                · rw [List.append_nil, List.length_cons, txts_len]
                  exact Nat.le_trans (show _ ≤ 5785 by omega) (by decide)
                have ex : calledV (Pic.node m ps) :: (txts (nmsL ps) ++ []) = txts (Pic.node m ps).nms := by
                  rw [List.append_nil]
                  rfl
                rw [ex]
                have s11 := same_new (o := .tup (txts (Pic.node m ps).nms)) nnt
                have ent : (upd H10 nt (.tup (txts (Pic.node m ps).nms))) nt = some (.tup (txts (Pic.node m ps).nms)) := upd_same
                have ea11 := s11 _ _ ea10
                generalize upd H10 nt (.tup (txts (Pic.node m ps).nms)) = H11 at s11 ent ea11 ⊢
                refine ⟨_, rfl, a, C, dx, _, rfl, ea11, T.c, T.n _ (by simp), by show 5 < 1000; decide, ?_⟩
                have kz := KeepP.but ea11 (by show 5 ≠ 6; decide) (But.put (.ins C dx (fldsP (Pic.node m ps) r nt)))
                have k11 := ((k8.trans (KeepP.of s10)).trans (KeepP.of s11)).trans kz
                exact q _ (((b8.trans (But.of s10)).trans (But.of s11)).trans (But.put _)) (PicAt.mk (p := .node m ps) (pt := r) (nt := nt) (vs := vs) upd_same (k11 _ _ er5 (.inr ⟨_, rfl⟩)) (kz _ _ ent (.inr ⟨_, rfl⟩)) (pa5.keep k11))
end
end K11
set_option Elab.async false
set_option linter.all false
set_option autoImplicit false
set_option maxRecDepth 100000
set_option maxHeartbeats 4000000
/-! Oq: == and != of lists and tuples of objects, and `in` a tuple of them, whatever each == answers, in calm room. -/
namespace Oq
open PySem PySem.SeqAt
open AutoSeq1 (wpAny_loadPart')
open MeetsSeq MeetsSeq2 MeetsSeq3 SeqRoads2
open GQ (FinOf call_here eqBool_refG)
section
variable {prog : Program} {w : World} {A : Around} {R : Result → Shared → Prop}
theorem tuple_inJ (l : Addr) (x : Value) (items : Array Value) (n : Nat) (dd : Option Addr) (sl : Array (Option Value)) (e : Nat → Bool) (v : Bool) (I : Shared → Prop)
    (turn : ∀ i (h1 : i < items.size) s, I s → wpAny (model prog w) A.in1 (eqBool items[i] x) (fun r s' => r = e i ∧ I s') (fun e s' => R (.error e) s') s)
    (hv : (List.range items.size).any e = v) (fin : ∀ s, I s → R (.ok (.ret (.bool v))) s) {s : Shared} (hl1 : s.heap.get? l = some { cls := .type "tuple", dict := dd, data := .seq items n, slots := sl }) (h : I s) :
    wpAny (model prog w) A.in1 (Builtin.«tuple.__contains__» ⟨[.ref l, x], []⟩) (FinOf prog w A R) (fun e s' => R (.error e) s') s := by
  have h0 := h
  obtain ⟨hp, g, d, tk, os⟩ := s
  wp_walk using wpAny_loadPart' hl1, wpAny_forIn_array _ (fun rest b s' => b.1 = none ∧ I s' ∧ ∃ i, rest = items.toList.drop i ∧ i ≤ items.size ∧ ∀ j, j < i → e j = false) _
  case turn =>
    rintro y rest b s' ⟨hb', hI, i, hz, hi, hall⟩
    have hlt : i < items.toList.length := by
      rcases Nat.lt_or_ge i items.toList.length with h' | h'
      · exact h'
      · rw [List.drop_of_length_le h'] at hz; cases hz
    have h1 : i < items.size := by simpa using hlt
    rw [List.drop_eq_getElem_cons hlt] at hz
    injection hz with hyx hrest
    have hy : y = items[i] := by simpa using hyx
    subst hy
    refine wpAny_bind (wpAny_mono (turn i h1 s' hI) (fun r s2 q2 => ?_) fun _ _ x => x)
    obtain ⟨hr, q2⟩ := q2
    subst hr
    cases hy : e i with
    | false =>
      wp_walk
      refine ⟨rfl, q2, i + 1, hrest, h1, fun j hj => ?_⟩
      by_cases hji : j = i
      · rw [hji]; exact hy
      · exact hall j (by omega)
    | true =>
      have hR : R (.ok (.ret (.bool v))) s2 := fin s2 q2
      have hf : (List.range items.size).any e = true := List.any_eq_true.mpr ⟨i, List.mem_range.mpr h1, hy⟩
      rw [hf] at hv
      subst hv
      wp_walk
      exact hR
  case fin =>
    rintro ⟨b1, b2⟩ s' ⟨hb', hI, i, hz, hi, hall⟩
    simp only at hb'
    subst hb'
    have hge : items.size ≤ i := by
      rcases Nat.lt_or_ge i items.toList.length with h' | h'
      · rw [List.drop_eq_getElem_cons h'] at hz; cases hz
      · simpa using h'
    have hR : R (.ok (.ret (.bool v))) s' := fin s' hI
    have hf : (List.range items.size).any e = false := by
      rw [List.any_eq_false]
      intro j hj
      rw [hall j (by have := List.mem_range.mp hj; omega)]
      exact Bool.false_ne_true
    rw [hf] at hv
    subst hv
    wp_walk
    exact hR
  case h =>
    exact ⟨rfl, h0, 0, rfl, Nat.zero_le _, fun j hj => absurd hj (Nat.not_lt_zero _)⟩
end
section
variable {prog : Program} {w : World} {A : Around} {E : Value → Shared → Prop} {s : Shared}
theorem in_tupJ {l : Addr} {x : Value} {items : Array Value} {e : Nat → Bool} {v : Bool} {Q : Value → Shared → Prop} (I : Shared → Prop) (hl : s.heap.IsTuple l items)
    (turn : ∀ i (h1 : i < items.size) s, I s → wpAny (model prog w) A.in1 (eqBool items[i] x) (fun r s' => r = e i ∧ I s') E s) (hv : (List.range items.size).any e = v)
    (fin : ∀ s, I s → Q (.bool v) s) (h : I s) : wpAny (model prog w) A (compareOp .In x (.ref l)) Q E s := by
  obtain ⟨⟨cls, dd, data, sl⟩, ho, hc, n, hd⟩ := id hl
  simp only at hc hd
  subst hc hd
  show wpAny _ A (do return .bool (← contains (.ref l) x)) Q E s
  refine wpAny_bind (wpAny_contains_slot (T := "tuple") ⟨_, ho, rfl⟩ F.slot_tuple_contains (wpAny_mono (call_here (Q := fun r s' => ∃ b, r = .bool b ∧ Q (.bool b) s') F.slot_tuple_contains ⟨_, ho, rfl⟩ F.entry_tuple_contains (F.args_tuple_contains_2 _ _) ?_) (fun r s' hr => ?_) fun _ _ z => z))
  · exact tuple_inJ (R := wants (fun r s' => ∃ b, r = .bool b ∧ Q (.bool b) s') E) l x items n dd sl e v I turn hv (fun s' q => ⟨v, rfl, fin s' q⟩) ho h
  · obtain ⟨b, rfl, q⟩ := hr
    exact wpAny_truthy_bool (wpAny_pure q)
end
end Oq
namespace Oq
open PySem PySem.Spec PyProof.Rows L2 Vb Xv
/-- how == of two values answers, by the abstract heap -/
abbrev EqD := V → V → Bool → Hp → Prop
def MonD (D : EqD) : Prop := ∀ x y b H H', Ext H H' → D x y b H → D x y b H'
def EqB (X : Cx) (n : Nat) (D : EqD) : Prop :=
  ∀ (A : Around) (pins : List (Addr × Obj)) (s : Shared) (σ : L2.St) (H : Hp) (x y : V) (b : Bool) (u v : Value), Sub X n A → Calm A → Inv X pins σ H s → RelV x u → RelV y v → D x y b H →
    wpAny (model X.prog X.w) A (eqBool u v) (fun r s' => r = b ∧ ∃ H', Inv X pins σ H' s' ∧ Ext H H') X.xe s
def RcB (X : Cx) (n : Nat) (op : CmpOp) (D : EqD) : Prop :=
  ∀ (A : Around) (pins : List (Addr × Obj)) (s : Shared) (σ : L2.St) (H : Hp) (x y : V) (b : Bool) (u v : Value), Sub X n A → Calm A → Inv X pins σ H s → RelV x u → RelV y v → D x y b H →
    wpAny (model X.prog X.w) A (richCompare op u v) (fun r s' => r = .bool b ∧ ∃ H', Inv X pins σ H' s' ∧ Ext H H') X.xe s
section
variable {X : Cx} {n m : Nat} {D D' : EqD}
theorem EqB.mono (h : EqB X n D) (hn : n ≤ m) : EqB X m D := fun A pins s σ H x y b u v sb => h A pins s σ H x y b u v (sb.mono hn)
theorem EqB.imp (h : EqB X n D) (hd : ∀ x y b H, D' x y b H → D x y b H) : EqB X n D' := fun A pins s σ H x y b u v sb c I rx ry d => h A pins s σ H x y b u v sb c I rx ry (hd x y b H d)
theorem RcB.imp {op : CmpOp} (h : RcB X n op D) (hd : ∀ x y b H, D' x y b H → D x y b H) : RcB X n op D' := fun A pins s σ H x y b u v sb c I rx ry d => h A pins s σ H x y b u v sb c I rx ry (hd x y b H d)
theorem turnI (hD : MonD D) (h : EqB X n D) {A : Around} (sb : Sub X (n + 1) A) (hc : Calm A) {pins : List (Addr × Obj)} {σ : L2.St} {H : Hp} {xs : List V} {y : V} {e : Nat → Bool} {its : List Value} {v : Value} (p : ∀ (i : Nat) x, xs[i]? = some x → D x y (e i) H) (r : Vals xs its) (ry : RelV y v)
    (i : Nat) (h1 : i < its.toArray.size) (s' : Shared) (l : LoopI X pins σ H s') :
    wpAny (model X.prog X.w) A.in1 (eqBool its.toArray[i] v) (fun r s2 => r = e i ∧ LoopI X pins σ H s2) X.xe s' := by
  obtain ⟨H1, I1, e1⟩ := l
  have g1 : its[i]? = some its.toArray[i] := by
    have h1' : i < its.length := by simpa using h1
    rw [List.getElem?_eq_getElem h1'] <;> simp
  have k1 : i < xs.length := by rw [r.length]; simpa using h1
  obtain ⟨u, hu, ru⟩ := r.get (List.getElem?_eq_getElem k1)
  rw [g1] at hu
  rw [Option.some.inj hu]
  refine wpAny_mono (h A.in1 pins s' σ H1 _ _ (e i) u v sb.in1 hc I1 ru ry (hD _ _ _ _ _ e1 (p i _ (List.getElem?_eq_getElem k1)))) (fun r s2 q => ?_) fun _ _ x => x
  obtain ⟨hr, H2, I2, e2⟩ := q
  exact ⟨hr, H2, I2, e1.trans e2⟩
/-- from a rich comparison of references to == inside a builtin: the same object is equal to itself -/
theorem RcB.eqB (h : RcB X n .Eq D) (hr : ∀ x y b H, D x y b H → ∃ p q, x = .ref p ∧ y = .ref q ∧ (p = q → b = true)) : EqB X n D := by
  intro A pins s σ H x y t u v sb hc I rx ry d
  obtain ⟨a, b, rfl, rfl, hs⟩ := hr _ _ _ _ d
  cases rx
  cases ry
  by_cases hab : a = b
  · rw [hs hab]
    subst hab
    exact SeqAt.EqAt.same (A := A) (s := s) (.ref a) X.prog X.w X.xe _ ⟨rfl, H, I, Ext.rfl'⟩
  · refine GQ.eqBool_refG hab (wpAny_mono (h A pins s σ H (.ref a) (.ref b) _ _ _ sb hc I rfl rfl d) (fun r s' q => ?_) fun _ _ x => x)
    obtain ⟨hr', q⟩ := q
    exact ⟨t, hr', rfl, q⟩
/-- objects of the class at C: what R says of the two -/
def BIns (C : Addr) (R : Addr → Addr → Bool → Hp → Prop) : EqD := fun x y b H => ∃ p q dx dy fs gs, x = .ref p ∧ y = .ref q ∧ H p = some (.ins C dx fs) ∧ H q = some (.ins C dy gs) ∧ R p q b H
theorem rcB_ins {C f : Addr} {fd : FuncData} {ps : List Str} {sp : Sp} {R : Addr → Addr → Bool → Hp → Prop} (F : FnG X.prog X.w X.K X.mg X.base n f fd ps sp) (hs : PySem.W.findIn X.K (.ref C) "__eq__" = some (some (.ref f))) (hf : PySem.W.isFn X.K (.ref f) = true) (hb : Binds X.K fd ps [])
    (hsp : ∀ p q b H Q, R p q b H → (∀ H', Ext H H' → Q (.bl b) H') → sp [.ref p, .ref q] H Q E0) : RcB X n .Eq (BIns C R) := by
  intro A pins s σ H x y t u v sb hc I rx ry d
  obtain ⟨a, b, dx, dy, fs, gs, rfl, rfl, ha, hb', hr⟩ := d
  cases rx
  cases ry
  obtain ⟨mA, J, _⟩ := ins_get I.hok ha
  obtain ⟨mB, J', _⟩ := ins_get I.hok hb'
  obtain ⟨od, J, _⟩ := J.look
  obtain ⟨od', J', _⟩ := J'.look
  obtain ⟨m, hF⟩ := I.fr
  refine PySem.W.cmp_K (op := .Eq) (tb := .ref C) sb.room.units0 hF I.ok.mod.kin J J'.type (by simp [PySem.W.notFirst]) hs hf ?_
  refine wpAny_mono (run_deep (vs := [.ref a, .ref b]) (Q := fun v H' => v = .bl t ∧ Ext H H') sb.fr F hc sb.room hb I (.cons rfl (.cons rfl .nil)) (hsp a b t H _ hr fun H' e => ⟨rfl, e⟩)) (fun r s' hv => ?_) fun _ _ z => z
  obtain ⟨z, H', I', rz, ez, e⟩ := hv
  subst ez
  cases (show r = Value.bool t from rz)
  exact ⟨rfl, H', I', e⟩
theorem eqB_ins {C f : Addr} {fd : FuncData} {ps : List Str} {sp : Sp} {R : Addr → Addr → Bool → Hp → Prop} (F : FnG X.prog X.w X.K X.mg X.base n f fd ps sp) (hs : PySem.W.findIn X.K (.ref C) "__eq__" = some (some (.ref f))) (hf : PySem.W.isFn X.K (.ref f) = true) (hb : Binds X.K fd ps [])
    (hsp : ∀ p q b H Q, R p q b H → (∀ H', Ext H H' → Q (.bl b) H') → sp [.ref p, .ref q] H Q E0) (same : ∀ p b H, R p p b H → b = true) : EqB X n (BIns C R) :=
  (rcB_ins F hs hf hb hsp).eqB fun x y b H d => by
    obtain ⟨p, q, _, _, _, _, hx, hy, _, _, r⟩ := d
    exact ⟨p, q, hx, hy, fun e => same p b H (by rw [← e] at r; exact r)⟩
theorem monD_ins {C : Addr} {R : Addr → Addr → Bool → Hp → Prop} (hR : ∀ p q b H H', Ext H H' → R p q b H → R p q b H') : MonD (BIns C R) := fun x y b H H' e d => by
  obtain ⟨p, q, dx, dy, fs, gs, hx, hy, h1, h2, r⟩ := d
  exact ⟨p, q, dx, dy, fs, gs, hx, hy, e _ _ h1, e _ _ h2, hR p q b H H' e r⟩
/-- x in y, y a tuple -/
def rInB (K : PySem.W.Frag) (D : EqD) : R2 := fun x y H Q => ∃ p xs e, y = .ref p ∧ SqT K H p xs ∧ (∀ (i : Nat) z, xs[i]? = some z → D z x (e i) H) ∧ ∀ H', Ext H H' → Q (.bl ((List.range xs.length).any e)) H'
theorem op_inB (hD : MonD D) (h : EqB X n D) (hc : Calm X.A) (hr : Room (n + 1) X.A) : OpR X (compareOp .In) (rInB X.K D) := by
  intro pins s σ H x y v u Q I rx ry hq
  obtain ⟨p, xs, e, rfl, sq, hd, q⟩ := hq
  cases ry
  obtain ⟨its, r, o1, z⟩ := I.tuple sq
  have hsz : its.toArray.size = xs.length := by rw [List.size_toArray, ← r.length]
  exact in_tupJ (e := e) (fun s' => LoopI X pins σ H s') o1 (fun i h1 s' l => turnI hD h ⟨hr, rfl⟩ hc hd r rx i h1 s' l) (by rw [hsz]) (fun s' l => by
    obtain ⟨H', I', e'⟩ := l
    exact ⟨.bl _, H', I', rfl, q H' e'⟩) ⟨H, I, Ext.rfl'⟩
end
end Oq
set_option Elab.async false
set_option linter.all false
set_option autoImplicit false
set_option maxRecDepth 100000
set_option maxHeartbeats 4000000
/-! Oi: whether a value of any of some kinds stands in a tuple of texts. -/
namespace Oi
open PySem PySem.Spec PyProof.Rows L2 Vb
/-- a flat value, a list or a tuple -/
def Odd (K : PySem.W.Frag) (H : Hp) (v : V) : Prop := flatV v = true ∨ ∃ a xs, v = .ref a ∧ (SqL K H a xs ∨ SqT K H a xs)
def isT (v : V) (y : Str) : Bool := match v with
  | .str z => decide (z = y)
  | _ => false
def inT (v : V) (ys : List Str) : Bool := ys.any (isT v)
def isU (v : V) (u : Value) : Bool := match u with
  | .str y _ => isT v y
  | _ => false
theorem any_isU {v : V} : ∀ {ys : List Str} {us : List Value}, Vals (ys.map V.str) us → us.any (isU v) = inT v ys
  | [], _, .nil => rfl
  | y :: ys, u :: us, .cons r t => by
    obtain ⟨k, rfl⟩ := (show ∃ t, u = Value.str y t from r)
    rw [List.any_cons, any_isU t]
    rfl
theorem isT_eqV {v : V} (f : flatV v = true) (y : Str) : eqV (.str y) v = isT v y := by
  cases v with
  | str z =>
    by_cases e : y = z
    · subst e; simp [eqV, isT]
    · have e' : ¬ z = y := fun h => e h.symm
      simp [eqV, isT, e, e']
  | _ => first | rfl | exact absurd (show false = true from f) Bool.false_ne_true
section
variable {X : Cx}
theorem eq_odd {A : Around} {pins : List (Addr × Obj)} {σ : L2.St} {H : Hp} {s : Shared} (I : Inv X pins σ H s) (hu : A.units < cLine) {v : V} {x u : Value} (rv : RelV v x) (o : Odd X.K H v) {y : Str} (ru : RelV (.str y) u) : SeqAt.EqAt A s u x (isU v u) := by
  obtain ⟨t, rfl⟩ := (show ∃ t, u = Value.str y t from ru)
  rcases o with f | ⟨a, xs, rfl, h⟩
  · have q := eqAt_V (A := A) (s := s) (show RelV (.str y) (.str y t) from ⟨t, rfl⟩) rv rfl f
    rw [isT_eqV f] at q
    exact q
  · cases rv
    rcases h with h | h
    · obtain ⟨its, r, pl, _⟩ := I.list h
      exact SeqAt.EqAt.str_list y t pl.isList hu
    · obtain ⟨its, r, pl, _⟩ := I.tuple h
      exact SeqAt.EqAt.str_tuple y t pl hu
theorem all_odd {A : Around} {pins : List (Addr × Obj)} {σ : L2.St} {H : Hp} {s : Shared} (I : Inv X pins σ H s) (hu : A.units < cLine) {v : V} {x : Value} (rv : RelV v x) (o : Odd X.K H v) : ∀ {ys : List Str} {us : List Value}, Vals (ys.map V.str) us → ∀ u ∈ us, SeqAt.EqAt A s u x (isU v u)
  | [], _, .nil => fun u hu => by cases hu
  | y :: ys, u :: us, .cons r t => fun u' hu' => by
    rcases List.mem_cons.mp hu' with rfl | h
    · exact eq_odd I hu rv o r
    · exact all_odd I hu rv o t u' h
/-- v in a tuple of texts -/
def rInT (K : PySem.W.Frag) (ng : Bool) : R2 := fun x y H Q => ∃ p ys, y = .ref p ∧ SqT K H p (ys.map V.str) ∧ Odd K H x ∧ Q (.bl (if ng then !inT x ys else inT x ys)) H
theorem op_inT (hu : X.A.in1.units < cLine) : OpR X (compareOp .In) (rInT X.K false) := by
  intro pins s σ H x y v u Q I rx ry h
  obtain ⟨p, ys, rfl, sq, o, q⟩ := h
  cases ry
  obtain ⟨its, r, pl, hz⟩ := I.tuple sq
  refine SeqAt.in_tupleAt (isU x) pl (fun w hw => all_odd I hu rx o r w (by simpa using hw)) ⟨.bl _, H, I, rfl, ?_⟩
  rw [show its.toArray.any (isU x) = its.any (isU x) by simp, any_isU r]
  exact q
theorem op_notInT (hu : X.A.in1.units < cLine) : OpR X (compareOp .NotIn) (rInT X.K true) := by
  intro pins s σ H x y v u Q I rx ry h
  obtain ⟨p, ys, rfl, sq, o, q⟩ := h
  cases ry
  obtain ⟨its, r, pl, hz⟩ := I.tuple sq
  refine SeqAt.notIn_tupleAt (isU x) pl (fun w hw => all_odd I hu rx o r w (by simpa using hw)) ⟨.bl _, H, I, rfl, ?_⟩
  rw [show its.toArray.any (isU x) = its.any (isU x) by simp, any_isU r]
  exact q
end
theorem inT_mem {y : Str} {ys : List Str} : inT (.str y) ys = decide (y ∈ ys) := by
  unfold inT
  rw [Bool.eq_iff_iff, List.any_eq_true, decide_eq_true_eq]
  exact ⟨fun ⟨z, h, e⟩ => by have := of_decide_eq_true e; subst this; exact h, fun h => ⟨y, h, decide_eq_true rfl⟩⟩
/-! ### answers by index -/
def anyE {α : Type} (l : List α) (g : α → Bool) : Nat → Bool := fun i => match l[i]? with
  | some d => g d
  | none => false
theorem any_at {α : Type} (l : List α) (g : α → Bool) : (List.range l.length).any (anyE l g) = l.any g := by
  rw [Bool.eq_iff_iff, List.any_eq_true, List.any_eq_true]
  constructor
  · rintro ⟨i, _, h⟩
    unfold anyE at h
    cases e : l[i]? with
    | none => rw [e] at h; cases h
    | some d =>
      rw [e] at h
      exact ⟨d, List.mem_of_getElem? e, h⟩
  · rintro ⟨d, hd, h⟩
    obtain ⟨i, hi⟩ := List.mem_iff_getElem?.mp hd
    refine ⟨i, List.mem_range.mpr (List.getElem?_eq_some_iff.mp hi).1, ?_⟩
    unfold anyE
    rw [hi]
    exact h
/-! ### v in an object whose class has an own __contains__ -/
open Vb Xv in
def rInO (C : Addr) (sp : Sp) : R2 := fun x y H Q => ∃ (a dx : Addr) (fs : List (Str × V)), y = .ref a ∧ H a = some (.ins C dx fs) ∧ sp [.ref a, x] H (fun v H' => ∃ t, v = .bl t ∧ Q (.bl t) H') E0
open Vb Xv in
theorem op_inO {X : Cx} {k : Nat} {f C : Addr} {fd : FuncData} {ps : List Str} {sp : Sp} (F : FnG X.prog X.w X.K X.mg X.base k f fd ps sp) (hs : PySem.W.findIn X.K (.ref C) "__contains__" = some (some (.ref f))) (hf : PySem.W.isFn X.K (.ref f) = true) (hb : Binds X.K fd ps []) (hc : Calm X.A) (hr : Room k X.A) : OpR X (compareOp .In) (rInO C sp) := by
  intro pins s σ H x y v u Q I rx ry h
  obtain ⟨a, dx, fs, rfl, ha, hq⟩ := h
  cases ry
  obtain ⟨mA, J, _⟩ := ins_get I.hok ha
  obtain ⟨od, J, _⟩ := J.look
  obtain ⟨m, hF⟩ := I.fr
  refine PySem.W.in_K hF I.ok.mod.kin J hs hf (thn (run_deep (vs := [.ref a, x]) rfl F hc hr hb I (.cons rfl (.cons rx .nil)) hq) fun r s' hv => ?_)
  obtain ⟨z, H', I', rz, t, ez, q⟩ := hv
  subst ez
  cases (show r = Value.bool t from rz)
  exact wpAny_truthy_bool ⟨.bl t, H', I', rfl, q⟩
end Oi
set_option Elab.async false
set_option linter.all false
set_option autoImplicit false
set_option maxRecDepth 100000
set_option maxHeartbeats 4000000
namespace K11
open PySem PySem.Spec PyProof.Rows L2 Vb Wd Xd Xo Xi Xm Xr Xv Ts K01 Oq Oi
theorem SchemeAt.same {H H' : Hp} {C CS a : Addr} {b : Str} {ys : List Str} {ds : List FD} (s : Same H H') (S : SchemeAt H C CS a b ys ds) : SchemeAt H' C CS a b ys ds := by
  obtain ⟨⟨dx, t, bn, nm, f, so, kvs, fs, zs, ha, ht, hn, hf, FF, hb, hv, hs, mz, srt, nd⟩, q2, q3, q4, q5, q6, q7⟩ := S
  exact ⟨⟨dx, t, bn, nm, f, so, kvs, fs, zs, s _ _ ha, s _ _ ht, s _ _ hn, s _ _ hf, ⟨FF.len, fun i x d h1 h2 => by
    obtain ⟨ch, ts, FA⟩ := FF.at_ i x d h1 h2
    exact ⟨ch, ts, FA.sm s⟩⟩, s _ _ hb, hv, s _ _ hs, mz, srt, nd⟩, q2, q3, q4, q5, q6, q7⟩
/-- a form at an address is one form -/
theorem kids_uniq {H : Hp} : ∀ {ts : List Addr} {cs cs' : List (Str × Int)}, ts.length = cs.length → ts.length = cs'.length → (∀ (i : Nat) (t : Addr) (c : Str × Int), ts[i]? = some t → cs[i]? = some c → Kid H t c.1 c.2) → (∀ (i : Nat) (t : Addr) (c : Str × Int), ts[i]? = some t → cs'[i]? = some c → Kid H t c.1 c.2) → cs = cs'
  | [], [], [], _, _, _, _ => rfl
  | t :: ts, c :: cs, c' :: cs', l, l', h, h' => by
    have k := (h 0 t c rfl rfl).at_
    have k' := (h' 0 t c' rfl rfl).at_
    rw [k] at k'
    have e : c = c' := by
      obtain ⟨c1, c2⟩ := c
      obtain ⟨d1, d2⟩ := c'
      injection k' with k'
      injection k' with k'
      injection k' with k1 k2
      injection k1 with k1
      injection k2 with k2 _
      injection k2 with k2
      exact Prod.ext k1 k2
    rw [e, kids_uniq (by simpa using l) (by simpa using l') (fun i t c h1 h2 => h (i + 1) t c h1 h2) fun i t c h1 h2 => h' (i + 1) t c h1 h2]
theorem refs_inj : ∀ {ts ts' : List Addr}, ts.map V.ref = ts'.map V.ref → ts = ts'
  | [], [], _ => rfl
  | t :: ts, t' :: ts', h => by
    rw [List.map_cons, List.map_cons] at h
    injection h with h1 h2
    injection h1 with h1
    rw [h1, refs_inj h2]
  | [], _ :: _, h => by cases h
  | _ :: _, [], h => by cases h
theorem FormAt.uniq {H : Hp} {C a ch ch' : Addr} {n so n' so' : Str} {ts ts' : List Addr} {cs cs' : List (Str × Int)} (f : FormAt H C a ch n so ts cs) (g : FormAt H C a ch' n' so' ts' cs') : n = n' ∧ so = so' ∧ cs = cs' := by
  obtain ⟨⟨dx, e⟩, k⟩ := f
  obtain ⟨⟨dx', e'⟩, k'⟩ := g
  rw [e] at e'
  injection e' with e'
  injection e' with _ _ e'
  unfold flds at e'
  injection e' with e1 e'
  injection e' with e2 e'
  injection e' with e3 _
  injection e1 with _ e1
  injection e1 with e1
  injection e2 with _ e2
  injection e2 with e2
  injection e3 with _ e3
  injection e3 with e3
  subst e3
  have ea := k.at_.symm.trans k'.at_
  injection ea with ea
  injection ea with ea
  have et := refs_inj ea
  subst et
  exact ⟨e1, e2, kids_uniq k.len k'.len k.kid k'.kid⟩
abbrev s_S_getitem : Stmt := inB (topS 25) 8
theorem sc_S_getitem : FnScope ["self", "name"] ["self", "name"] (defScope s_S_getitem) := ⟨rfl, rfl, rfl, by decide +kernel, rfl, by decide +kernel, by decide +kernel⟩
abbrev s_S_contains : Stmt := inB (topS 25) 10
theorem sc_S_contains : FnScope ["self", "value"] ["self", "value"] (defScope s_S_contains) := ⟨rfl, rfl, rfl, by decide +kernel, rfl, by decide +kernel, by decide +kernel⟩
/-! ### what they promise -/
def spItemS (K : PySem.W.Frag) (C CS CU : Addr) : Sp := fun vs H Q E => ∃ (a : Addr) (b : Str) (ys : List Str) (ds : List FD) (v : V), vs = [.ref a, v] ∧ SchemeAt H C CS a b ys ds ∧ Odd K H v ∧
  (∀ (d : FD) (x ch : Addr) (ts : List Addr), d ∈ ds → v = .str d.1 → FormAt H C x ch d.1 d.2.1 ts d.2.2 → Q (.ref x) H) ∧ (inT v (ds.map (·.1)) = false → ∀ d, H d = none → E (.ref CU) (some d) (upd H d (.xd [("name", v)])))
/-- == of two forms -/
def RF (C : Addr) : Addr → Addr → Bool → Hp → Prop := fun p q b H => ∃ (ch ch' : Addr) (ts ts' : List Addr) (d d' : FD), FormAt H C p ch d.1 d.2.1 ts d.2.2 ∧ FormAt H C q ch' d'.1 d'.2.1 ts' d'.2.2 ∧ b = decide (d = d')
theorem fd_dec (d d' : FD) : (decide (d.1 = d'.1) && (decide (d.2.1 = d'.2.1) && decide (d.2.2 = d'.2.2))) = decide (d = d') := by
  obtain ⟨n, so, cs⟩ := d
  obtain ⟨n', so', cs'⟩ := d'
  by_cases e1 : n = n' <;> by_cases e2 : so = so' <;> by_cases e3 : cs = cs' <;> simp [e1, e2, e3]
/-- v in the scheme -/
def spInS (K : PySem.W.Frag) (C CS : Addr) : Sp := fun vs H Q _ => ∃ (a : Addr) (b : Str) (ys : List Str) (ds : List FD) (v : V), vs = [.ref a, v] ∧ SchemeAt H C CS a b ys ds ∧
  ((∃ (x ch : Addr) (ts : List Addr) (d : FD), v = .ref x ∧ FormAt H C x ch d.1 d.2.1 ts d.2.2 ∧ ∀ H', Same H H' → Q (.bl (decide (d ∈ ds))) H') ∨
    (Odd K H v ∧ (∃ t, TyX K H v (.type t) ∧ t ∈ ["str", "tuple", "list", "NoneType", "int", "bool"]) ∧ Q (.bl (inT v (ds.map (·.1)))) H))
/-- the getters -/
structure SchemeP (P : Program) (w : World) (K : PySem.W.Frag) (mg : Str → Option Value) (base : Heap) (CS : Addr) : Prop where
  get : ∀ x ∈ [(("bare" : Str), ("_bare" : Str)), ("tops", "_tops"), ("forms", "_forms"), ("names", "_names"), ("sorts", "_sorts")], ∃ (p g : Addr) (fd : FuncData), PropOf K CS x.1 p g ∧ FnG P w K mg base 1 g fd ["self"] (spFld CS x.2) ∧ Binds K fd ["self"] []
/-- == of forms -/
structure FormQ (P : Program) (w : World) (K : PySem.W.Frag) (mg : Str → Option Value) (base : Heap) (C : Addr) : Prop where
  eq : ∃ (f : Addr) (fd : FuncData), FnG P w K mg base 3 f fd ["self", "other"] (spEq K C) ∧ PySem.W.findIn K (.ref C) "__eq__" = some (some (.ref f)) ∧ PySem.W.isFn K (.ref f) = true ∧ Binds K fd ["self", "other"] []
section
variable {P : Program} {w : World} {K : PySem.W.Frag} {mg : Str → Option Value} {base : Heap} {C CS CU : Addr}
theorem ok_S_getitem {f fI : Addr} {fd fdI : FuncData} {psI : List Str} (F : Fun K "__getitem__" "Scheme.__getitem__" s_S_getitem f fd) (T : SchemeC K CS) (TI : EI K CU fI) (no : PySem.W.findIn K (.ref CU) "name" = some none) (FI : FnG P w K mg base 1 fI fdI psI (spSet K CU fI "name")) (bI : Binds K fdI psI []) (gU : mg "UnknownName" = some (.ref CU)) : FnE P w K mg base 4 f fd ["self", "name"] (spItemS K C CS CU) := by
  refine goes_exc F sc_S_getitem (fun vs H Q E h => ?_) (fun cdv A outer s H vs Q E hc hr tk h => ?_)
  · obtain ⟨a, b, ys, ds, v, rfl, _⟩ := h
    rfl
  · obtain ⟨a, b, ys, ds, v, rfl, S, o, q1, q2⟩ := h
    obtain ⟨dx, t, bn, nm, f, so, kvs, fs, zs, ha, ht, hn, hf, FF, hb, hv, hs, mz, srt, nd⟩ := S.ex
    refine ⟨_, (pss_cons (ps_if (pt_cmpR (op_notInT hr.in1.units0) (pv 1) (pe_fld (f := "_names") (pv 0) (by rfl)) (by rfl))
        (pss_one (ps_raise (by rfl) tk (pmk_E (f := "name") TI no FI hc (hr.mono (by decide)) bI (by rfl) gU (pa_cons (pv 1) pa_nil)))) pss_nil)
      (pss_one (ps_ret (pe_dget (hu_of hr) (pe_fld (f := "_by_name") (pv 0) (by rfl)) (pv 1) (fun _ _ => rfl))))), ?_⟩
    refine ⟨_, rfl, _, rfl, a, CS, dx, _, .ref nm, rfl, ha, T.c, T.n _ (by simp), by rfl, nm, _, rfl, .inl (.inl hn), o, _, rfl, ?_⟩
    cases e : inT v (ds.map (·.1)) with
    | false => exact iteT ⟨_, rfl, v, rfl, fun d nd => q2 e d nd⟩
    | true =>
      cases v with
      | str z =>
        rw [inT_mem] at e
        obtain ⟨d, hd, rfl⟩ := List.mem_map.mp (of_decide_eq_true e)
        obtain ⟨i, hi⟩ := List.mem_iff_getElem?.mp hd
        have il := (List.getElem?_eq_some_iff.mp hi).1
        have FL := FF.len
        obtain ⟨x, hx⟩ : ∃ x, fs[i]? = some x := ⟨fs[i], List.getElem?_eq_getElem (by omega)⟩
        obtain ⟨ch, ts, FA⟩ := FF.at_ i x d hx hi
        exact iteF ⟨_, rfl, a, CS, dx, _, .ref bn, rfl, ha, T.c, T.n _ (by simp), by rfl, _, rfl, bn, .ref x, rfl, .inl ⟨kvs, Sum.inr d.1, .inl hb, rfl, (hv i x d hx hi).symm⟩, q1 d x ch ts hd rfl FA⟩
      | _ => simp [inT, isT] at e
theorem mon_RF : ∀ p q b H H', Ext H H' → RF C p q b H → RF C p q b H' := fun p q b H H' e h => by
  obtain ⟨ch, ch', ts, ts', d, d', f, g, eb⟩ := h
  exact ⟨ch, ch', ts, ts', d, d', f.sm e, g.sm e, eb⟩
theorem eqB_form {X : Cx} (W : FormQ X.prog X.w X.K X.mg X.base C) : EqB X 3 (BIns C (RF C)) := by
  obtain ⟨f, fd, F, hs, hf, hb⟩ := W.eq
  refine eqB_ins F hs hf hb (fun p q b H Q h k => ?_) (fun p b H h => ?_)
  · obtain ⟨ch, ch', ts, ts', d, d', f, g, rfl⟩ := h
    refine ⟨p, ch, d.1, d.2.1, ts, d.2.2, .ref q, rfl, f, .inr ⟨q, ch', d'.1, d'.2.1, ts', d'.2.2, rfl, g, ?_⟩⟩
    rw [fd_dec]
    exact k H Ext.rfl'
  · obtain ⟨ch, ch', ts, ts', d, d', f, g, rfl⟩ := h
    obtain ⟨e1, e2, e3⟩ := f.uniq g
    rw [← fd_dec, e1, e2, e3]
    simp
theorem at_form {H : Hp} {x ch x' ch' : Addr} {ts ts' : List Addr} {d d' : FD} (f : FormAt H C x ch d.1 d.2.1 ts d.2.2) (g : FormAt H C x' ch' d'.1 d'.2.1 ts' d'.2.2) : BIns C (RF C) (.ref x) (.ref x') (decide (d = d')) H := by
  obtain ⟨dx, e⟩ := f.at_
  obtain ⟨dx', e'⟩ := g.at_
  exact ⟨x, x', dx, dx', _, _, rfl, rfl, e, e', ch, ch', ts, ts', d, d', f, g, rfl⟩
theorem ok_S_contains {f : Addr} {fd : FuncData} (F : Fun K "__contains__" "Scheme.__contains__" s_S_contains f fd) (T : SchemeC K CS) (TF : FormC K C) (TI : FormI K C) (no2 : ∀ t ∈ ["int", "bool"], PySem.W.kitOne K (.type t) (.ref C) = some false) (W : FormQ P w K mg base C) (gF : mg "Form" = some (.ref C)) (z_isinstance : mg "isinstance" = none) : FnG P w K mg base 5 f fd ["self", "value"] (spInS K C CS) := by
  refine goes_by F sc_S_contains (fun vs H Q E h => ?_) (fun cdv A outer s H vs Q E hc hr h => ?_)
  · obtain ⟨a, b, ys, ds, v, rfl, _⟩ := h
    rfl
  · obtain ⟨a, b, ys, ds, v, rfl, S, h⟩ := h
    obtain ⟨dx, t, bn, nm, f, so, kvs, fs, zs, ha, ht, hn, hf, FF, hb, hv, hs, mz, srt, nd⟩ := S.ex
    refine ⟨_, (pss_cons (ps_if (pt_val (pe_callB call_isi (by rfl) z_isinstance (by decide +kernel) (pa_cons (pv 1) (pa_cons (pe_glob (v := .ref C) (by rfl) gF rfl) pa_nil))))
        (pss_one (ps_ret (pe_cmpR (op_inB (monD_ins mon_RF) (eqB_form W) hc hr) (pv 1) (pe_fld (f := "_forms") (pv 0) (by rfl)) (by rfl)))) pss_nil)
      (pss_one (ps_ret (pe_cmpR (op_inT hr.in1.units0) (pv 1) (pe_fld (f := "_names") (pv 0) (by rfl)) (by rfl))))), ?_⟩
    rcases h with ⟨x, ch, ts, d, rfl, FA, q⟩ | ⟨o, ⟨t', ty, mt⟩, q⟩
    · obtain ⟨dx', hx⟩ := FA.at_
      refine ⟨_, rfl, _, _, _, _, true, rfl, .own C, .base (.ins hx TF.c TI.ca TI.sp TI.tk TI.mo), TI.yes, _, rfl, iteT ?_⟩
      refine ⟨_, rfl, _, rfl, a, CS, dx, _, .ref f, rfl, ha, T.c, T.n _ (by simp), by rfl, f, _, anyE ds fun d' => decide (d' = d), rfl, .inl (.inl hf), fun i z hz => ?_, fun H' s => ?_⟩
      · rw [List.getElem?_map] at hz
        obtain ⟨p, hp, rfl⟩ := Option.map_eq_some_iff.mp hz
        have l1 := FF.len
        have i1 := (List.getElem?_eq_some_iff.mp hp).1
        have e1 : ds[i]? = some ds[i] := List.getElem?_eq_getElem (by omega)
        obtain ⟨ch', ts', FB⟩ := FF.at_ i p _ hp e1
        unfold anyE
        rw [e1]
        exact at_form FB FA
      · rw [List.length_map, FF.len, any_at]
        have e : (ds.any fun d' => decide (d' = d)) = decide (d ∈ ds) := by
          rw [Bool.eq_iff_iff, List.any_eq_true, decide_eq_true_eq]
          exact ⟨fun ⟨z, h, e⟩ => by have := of_decide_eq_true e; subst this; exact h, fun h => ⟨d, h, decide_eq_true rfl⟩⟩
        rw [e]
        exact q H' s
    · have no : PySem.W.kitOne K (.type t') (.ref C) = some false := by
        simp only [List.mem_cons, List.not_mem_nil, or_false] at mt
        rcases mt with rfl | rfl | rfl | rfl | rfl | rfl
        · exact TI.no _ (by simp)
        · exact TI.no _ (by simp)
        · exact TI.no _ (by simp)
        · exact TI.no _ (by simp)
        · exact no2 _ (by simp)
        · exact no2 _ (by simp)
      refine ⟨_, rfl, _, _, _, _, false, rfl, .own C, ty, no, _, rfl, iteF ?_⟩
      exact ⟨_, rfl, _, rfl, a, CS, dx, _, .ref nm, rfl, ha, T.c, T.n _ (by simp), by rfl, nm, _, rfl, .inl (.inl hn), o, q⟩
end
end K11
set_option Elab.async false
set_option linter.all false
set_option autoImplicit false
set_option maxRecDepth 100000
set_option maxHeartbeats 4000000
namespace K11
open PySem PySem.Spec PyProof.Rows L2 Vb Wd Xd Xo Xv SX Pc Zc Oi
/-- a def of the text at a name, which may let an error out -/
def CgE (P : Program) (w : World) (K : PySem.W.Frag) (mg : Str → Option Value) (base : Heap) (k : Nat) (x : Str) (sp : Sp) : Prop :=
  ∃ (f : Addr) (fd : FuncData) (ps : List Str), FnE P w K mg base k f fd ps sp ∧ mg x = some (.ref f) ∧ PySem.W.keepIn K (.ref f) = true ∧ Binds K fd ps []
/-- what a call of such a def asks -/
def tCE (sp : Sp) (E : XK) (t : TA) : TE := fun σ H Q => t σ H fun vs H1 => sp vs H1 Q E
theorem pe_cgE {X : Cx} {W : WX} {j k : Nat} {sp : Sp} {E : XK} {x : Str} {p pos : Pos} {e : Expr} {es : List Expr} {t : TA} (G : CgE X.prog X.w X.K X.mg X.base j x sp) (hc : Calm X.A) (hr : Room k X.A) (hg : Gl X x) (tk : Takes X W) (hW : ∀ cls d σ H, E cls d H → W cls d σ H) (ha : PA X (e :: es) t) (hj : j ≤ k := by decide)
    (hdb : (x == ("__debug__" : Str)) = false := by decide) (he : starEach (e :: es) X.env = (false, eval e X.env) :: starEach es X.env := by rfl) (hpl : (backTo pos (starEach es X.env)).any (·.1) = false := by rfl) : PE X (.Call (.Name x p) (e :: es) [] pos) (tCE sp E t) := by
  obtain ⟨f, fd, ps, F, m, kp, b⟩ := G
  exact pe_callE F hc (hr.mono hj) hg m kp b tk hW ha hdb he hpl
abbrev s_is_formed : Stmt := topS 42
theorem sc_is_formed : FnScope ["scheme", "picture"] ["scheme", "picture"] (defScope s_is_formed) := ⟨rfl, rfl, rfl, by decide +kernel, rfl, by decide +kernel, by decide +kernel⟩
/-- what is known of Scheme's methods that pictures ask -/
structure EnvW (P : Program) (w : World) (K : PySem.W.Frag) (mg : Str → Option Value) (base : Heap) (C CS CU : Addr) : Prop where
  T : SchemeC K CS
  TF : FormC K C
  TP : FormP P w K mg base C
  item : ∃ (f : Addr) (fd : FuncData), FnE P w K mg base 4 f fd ["self", "name"] (spItemS K C CS CU) ∧ PySem.W.findIn K (.ref CS) "__getitem__" = some (some (.ref f)) ∧ PySem.W.fnIn K f = true ∧ PySem.W.isFn K (.ref f) = true ∧ Binds K fd ["self", "name"] []
  inn : ∃ (f : Addr) (fd : FuncData), FnG P w K mg base 5 f fd ["self", "value"] (spInS K C CS) ∧ PySem.W.findIn K (.ref CS) "__contains__" = some (some (.ref f)) ∧ PySem.W.isFn K (.ref f) = true ∧ Binds K fd ["self", "value"] []
  lenF : ∃ (f : Addr) (fd : FuncData), FnG P w K mg base 1 f fd ["self"] (spLenF C) ∧ PySem.W.findIn K (.ref C) "__len__" = some (some (.ref f)) ∧ PySem.W.isFn K (.ref f) = true ∧ Binds K fd ["self"] []
/-- the form of a name -/
def formOf (ds : List FD) (n : List Nat) : Option FD := ds.find? fun d => decide (d.1 = S n)
theorem formOf_mem {ds : List FD} {n : List Nat} {d : FD} (h : formOf ds n = some d) : d ∈ ds ∧ d.1 = S n := ⟨List.mem_of_find?_eq_some h, of_decide_eq_true (List.find?_some (p := fun d : FD => decide (d.1 = S n)) h)⟩
theorem formOf_none {ds : List FD} {n : List Nat} (h : formOf ds n = none) : S n ∉ ds.map (·.1) := fun m => by
  obtain ⟨d, hd, e⟩ := List.mem_map.mp m
  have := List.find?_eq_none.mp h d hd
  simp [e] at this
theorem formOf_some {ds : List FD} {n : List Nat} {d : FD} (h : formOf ds n = some d) : S n ∈ ds.map (·.1) := by
  obtain ⟨a, b⟩ := formOf_mem h
  exact List.mem_map.mpr ⟨d, a, b⟩
theorem once_name {ds : List FD} (nd : (ds.map (·.1)).Nodup) : ∀ {d d' : FD}, d ∈ ds → d' ∈ ds → d.1 = d'.1 → d = d' := by
  induction ds with
  | nil => intro d d' h; cases h
  | cons r ds ih =>
    intro d d' h1 h2 e
    rw [List.map_cons] at nd
    obtain ⟨n1, n2⟩ := List.nodup_cons.mp nd
    rcases List.mem_cons.mp h1 with e1 | h1
    · rcases List.mem_cons.mp h2 with e2 | h2
      · rw [e1, e2]
      · exact (n1 (List.mem_map.mpr ⟨d', h2, by rw [← e, e1]⟩)).elim
    · rcases List.mem_cons.mp h2 with e2 | h2
      · exact (n1 (List.mem_map.mpr ⟨d, h1, by rw [e, e2]⟩)).elim
      · exact ih n2 h1 h2 e
def formed (ds : List FD) : Pic → Bool
  | .hole => false
  | .node n ps => match formOf ds n with
    | none => false
    | some d => decide (d.2.2.length = ps.length)
theorem formed_no {ds : List FD} {n : List Nat} {ps : List Pic} (h : formOf ds n = none) : formed ds (.node n ps) = false := by
  simp [formed, h]
theorem formed_yes {ds : List FD} {n : List Nat} {ps : List Pic} {d : FD} (h : formOf ds n = some d) : formed ds (.node n ps) = decide (d.2.2.length = ps.length) := by
  simp [formed, h]
def spFormed (C CS CP : Addr) : Sp := fun vs H Q _ => ∃ (a : Addr) (b : Str) (ys : List Str) (ds : List FD) (p : Pic) (v : V), vs = [.ref a, v] ∧ SchemeAt H C CS a b ys ds ∧ PicAt H CP p v ∧ Q (.bl (formed ds p)) H
section
variable {P : Program} {w : World} {K : PySem.W.Frag} {mg : Str → Option Value} {base : Heap} {C CS CU CP : Addr}
theorem ok_is_formed (D : Df K mg "_is_formed" s_is_formed ["scheme", "picture"]) (W : EnvW P w K mg base C CS CU) (VQ : EnvQ P w K mg base CP) (z_len : mg "len" = none) : Cg P w K mg base 7 "_is_formed" (spFormed C CS CP) := by
  obtain ⟨p1, g1, fd1, o1, G1, b1⟩ := VQ.TP.get ("called", "_called") (by simp)
  obtain ⟨p2, g2, fd2, o2, G2, b2⟩ := VQ.TP.get ("parts", "_parts") (by simp)
  obtain ⟨fI, fdI, FI, eI, nI, tI, bI⟩ := W.item
  obtain ⟨fN, fdN, FN, eN, tN, bN⟩ := W.inn
  obtain ⟨fL, fdL, FL, eL, tL, bL⟩ := W.lenF
  refine D.ok sc_is_formed (fun vs H Q E h => ?_) (fun cdv A outer s H vs Q E f0 hc hr h => ?_)
  · obtain ⟨a, b, ys, ds, p, v, rfl, _⟩ := h
    rfl
  · obtain ⟨a, b, ys, ds, p, v, rfl, SA, PA, q⟩ := h
    refine ⟨_, (pss_one (ps_ret (pe_and (pe_cmpR (op_inO FN eN tN bN hc (hr.mono (by decide))) (pe_propG (n := "called") (pv 1) VQ.T.c o1 G1 hc (hr.mono (by decide)) b1) (pv 0) (by rfl))
      (pe_one (pe_cmpR op_eq (pe_callB (call_lenO FL eL tL bL hc (hr.mono (by decide))) (by rfl) z_len (by decide +kernel) (pa_cons (pe_itemO (E := fun _ _ _ => False) (W := fun _ _ _ _ => False) (pv 0) (pe_propG (n := "called") (pv 1) VQ.T.c o1 G1 hc (hr.mono (by decide)) b1) FI eI nI tI bI hc (hr.mono (by decide)) LamX.takes0 (fun _ _ _ _ z => z)) pa_nil))
        (pe_callB call_len_seq (by rfl) z_len PySem.boot_len (pa_cons (pe_propG (n := "parts") (pv 1) VQ.T.c o2 G2 hc (hr.mono (by decide)) b2) pa_nil)) (nomark _)))))), ?_⟩
    obtain ⟨x, dx, pt, nt, ws, rfl, h1, h2, h3, h4⟩ := PA.ex
    have SA' := SA
    obtain ⟨dxs, t, bn, nm, f, so, kvs, fs, zs, ha, ht, hn, hf, FF, hb, hv, hs, mz, srt, nd⟩ := SA'.ex
    refine ⟨_, rfl, x, dx, _, rfl, h1, x, dx, _, calledV p, rfl, h1, by rfl, _, rfl, a, dxs, _, rfl, ha, a, b, ys, ds, calledV p, rfl, SA, .inr ⟨.inl ?_, ?_, ?_⟩⟩
    · cases p <;> rfl
    · cases p with
      | hole => exact ⟨"NoneType", .base .non, by simp⟩
      | node n ps => exact ⟨"str", .base (.str _), by simp⟩
    · cases p with
      | hole =>
        refine ⟨_, rfl, false, ?_, iteF q⟩
        simp [calledV, inT, isT]
      | node n ps =>
        cases ef : formOf ds n with
        | none =>
          rw [formed_no ef] at q
          refine ⟨_, rfl, false, ?_, iteF q⟩
          show V.bl (inT (.str (S n)) _) = _
          rw [inT_mem, decide_eq_false (formOf_none ef)]
        | some d =>
          rw [formed_yes ef] at q
          obtain ⟨dm, de⟩ := formOf_mem ef
          refine ⟨_, rfl, true, ?_, iteT ?_⟩
          · show V.bl (inT (.str (S n)) _) = _
            rw [inT_mem, decide_eq_true (formOf_some ef)]
          refine ⟨_, rfl, _, rfl, x, dx, _, rfl, h1, x, dx, _, .str (S n), rfl, h1, by rfl, a, dxs, _, rfl, ha, a, b, ys, ds, .str (S n), rfl, SA, .inl rfl, fun d' x' ch ks hd' e FA => ?_, fun no => ?_⟩
          · have ed : d' = d := once_name SA.once hd' dm (by rw [de]; exact (V.str.inj e).symm)
            subst ed
            obtain ⟨dx', fa⟩ := FA.at_
            have kl := FA.kids.len
            have k4 := FA.kids.hi
            refine ⟨x', dx', _, rfl, fa, x', ch, _, _, ks, _, rfl, FA, _, rfl, by omega, by omega, _, rfl, x, dx, _, rfl, h1, x, dx, _, .ref pt, rfl, h1, by rfl, pt, ws, rfl, .inr (.inl (.inl h2)), rfl, ?_⟩
            have wl := h4.len
            have e1 : decide (V.int (ks.length : Nat) = V.int (ws.length : Nat)) = decide (d'.2.2.length = ps.length) := by
              refine decide_eq_decide.mpr ⟨fun z => ?_, fun z => ?_⟩
              · have := V.int.inj z
                have w2 : ws.length = ps.length := wl
                omega
              · have w2 : ws.length = ps.length := wl
                rw [V.int.injEq]
                omega
            rw [e1]
            exact q
          · rw [inT_mem] at no
            exact (of_decide_eq_false no (formOf_some ef)).elim
end
end K11
set_option Elab.async false
set_option linter.all false
set_option autoImplicit false
set_option maxRecDepth 100000
set_option maxHeartbeats 4000000
namespace K11
open PySem PySem.Spec PyProof.Rows L2 Vb Wd Xd Xo Xv SX Pc Zc Oi RZ
theorem walk_zipT {K : PySem.W.Frag} {a b : Addr} {xs ys : List V} (hl : xs.length = ys.length) : Walk (ItzT K a b) xs.length (fun H => SqT K H a xs ∧ SqT K H b ys) (YPair (fun i => xs[i]?) (fun i => ys[i]?)) := by
  refine ⟨fun i _ hi q => ?_, fun _ q => ⟨xs, ys, q.1, q.2, .inl (Nat.le_refl _)⟩, fun i H v H' _ q y => ?_⟩
  · have h2 : i < ys.length := by omega
    exact ⟨xs, ys, xs[i], ys[i], q.1, q.2, by simp [hi], by simp [h2]⟩
  · obtain ⟨T, x, z, h1, h2, h3, h4, h5⟩ := y
    exact ⟨T, x, z, h1, h2, h3, h4 xs q.1, h5 ys q.2⟩
theorem lc_zipT {K : PySem.W.Frag} {a b : Addr} {xs ys : List V} {g : TG} {tt : TT} {te : TE} {vs : List Nat} {σ : L2.St} {H1 : Hp} {D : Addr} {Qd : Hp → Prop} (hl : xs.length = ys.length) (Pv : Nat → Hp → Prop) (h0 : Pv 0 (upd H1 D (.lst []))) (hG : ∀ i H, i ≤ xs.length → Pv i H → SqT K H a xs ∧ SqT K H b ys)
    (hs : ∀ (i : Nat) (x y : V) (T : Addr) (H : Hp), xs[i]? = some x → ys[i]? = some y → Pv i H → H T = none → g (.ref T) (wipe σ vs) (upd H T (.tup [x, y])) fun σ2 H2 => wipe σ2 vs = wipe σ vs ∧ tt σ2 H2 fun b H3 =>
      if b = true then te σ2 H3 fun y H4 => ∃ acc, H4 D = some (.lst acc) ∧ acc.length < sizeLine ∧ Pv (i + 1) (upd H4 D (.lst (acc ++ [y]))) else Pv (i + 1) H3) (hd : ∀ H, Pv xs.length H → Qd H) :
    ∃ W : Nat → Nat → Hp → Prop, (∃ m, W 0 m (upd H1 D (.lst []))) ∧ ∀ i m H, W i m H →
      ((ItzT K a b).stop i H ∧ Qd H) ∨ ((ItzT K a b).go i H ∧ ∃ Nx : Hp → Prop, (∀ H', Nx H' → ∃ m', m' < m ∧ W (i + 1) m' H') ∧ ∀ x H', (ItzT K a b).yld i H x H' → g x (wipe σ vs) H' fun σ2 H2 => wipe σ2 vs = wipe σ vs ∧ tt σ2 H2 fun b H3 =>
        if b = true then te σ2 H3 fun y H4 => ∃ acc, H4 D = some (.lst acc) ∧ acc.length < sizeLine ∧ Nx (upd H4 D (.lst (acc ++ [y]))) else Nx H3) :=
  lc_it (walk_zipT (K := K) (a := a) (b := b) hl) Pv h0 hG (fun i v H H' hi h y => by
    obtain ⟨T, x, z, rfl, nT, rfl, h1, h2⟩ := y
    exact hs i x z T H h1 h2 h nT) hd
abbrev s_is_sound_picture : Stmt := topS 35
theorem sc_is_sound_picture : FnScope ["scheme", "value", "children", "part", "child"] ["scheme", "value"] (defScope s_is_sound_picture) := ⟨rfl, rfl, rfl, by decide +kernel, rfl, by decide +kernel, by decide +kernel⟩
abbrev s_is_sound_part : Stmt := topS 43
theorem sc_is_sound_part : FnScope ["scheme", "part", "sort"] ["scheme", "part", "sort"] (defScope s_is_sound_part) := ⟨rfl, rfl, rfl, by decide +kernel, rfl, by decide +kernel, by decide +kernel⟩
def isHole : Pic → Bool
  | .hole => true
  | .node _ _ => false
def sortOk (ds : List FD) (so : Str) : Pic → Bool
  | .hole => false
  | .node m _ => match formOf ds m with
    | some d => decide (d.2.1 = so)
    | none => false
def kidsOf (ds : List FD) : Pic → List (Str × Int)
  | .hole => []
  | .node n _ => match formOf ds n with
    | some d => d.2.2
    | none => []
mutual
def sound (ds : List FD) : Pic → Bool
  | .hole => false
  | .node n ps => formed ds (.node n ps) && soundL ds ps (kidsOf ds (.node n []))
def soundL (ds : List FD) : List Pic → List (Str × Int) → Bool
  | [], _ => true
  | p :: ps, cs => match cs with
    | [] => true
    | c :: cs => (isHole p || (sound ds p && sortOk ds c.1 p)) && soundL ds ps cs
end
def soundP (ds : List FD) (p : Pic) (so : Str) : Bool := isHole p || (sound ds p && sortOk ds so p)
theorem soundL_all (ds : List FD) : ∀ (ps : List Pic) (cs : List (Str × Int)), soundL ds ps cs = (List.zipWith (fun p (c : Str × Int) => soundP ds p c.1) ps cs).all id
  | [], cs => by simp [soundL]
  | p :: ps, [] => by simp [soundL]
  | p :: ps, c :: cs => by
    rw [List.zipWith_cons_cons, List.all_cons, ← soundL_all ds ps cs]
    rfl
theorem sound_formed {ds : List FD} {p : Pic} (h : sound ds p = true) : formed ds p = true := by
  cases p with
  | hole => cases h
  | node n ps =>
    have h' : (formed ds (.node n ps) && soundL ds ps (kidsOf ds (.node n []))) = true := h
    rw [Bool.and_eq_true] at h'
    exact h'.1
theorem formed_form {ds : List FD} {n : List Nat} {ps : List Pic} (h : formed ds (.node n ps) = true) : ∃ d, formOf ds n = some d ∧ d.2.2.length = ps.length := by
  cases e : formOf ds n with
  | none =>
    rw [formed_no e] at h
    cases h
  | some d =>
    rw [formed_yes e] at h
    exact ⟨d, rfl, of_decide_eq_true h⟩
theorem sortOk_some {ds : List FD} {n : List Nat} {ps : List Pic} {d : FD} {so : Str} (h : formOf ds n = some d) : sortOk ds so (.node n ps) = decide (d.2.1 = so) := by
  simp [sortOk, h]
theorem sound_node {ds : List FD} {n : List Nat} {ps : List Pic} {d : FD} (h : formOf ds n = some d) : sound ds (.node n ps) = (formed ds (.node n ps) && soundL ds ps d.2.2) := by
  have e : kidsOf ds (.node n []) = d.2.2 := by simp [kidsOf, h]
  rw [← e]
  rfl
/-- a value of a kind that is no object of the class -/
def NotOf (K : PySem.W.Frag) (H : Hp) (v : V) (C : Addr) : Prop := ∃ t, TyX K H v t ∧ PySem.W.kitOne K t (.ref C) = some false
def spSoundX (K : PySem.W.Frag) (C CS CP CI : Addr) (n : Nat) : Sp := fun vs H Q E => ∃ (u v : V), vs = [u, v] ∧
  ((NotOf K H u CS ∧ E (.ref CI) none H) ∨
   (∃ (a : Addr) (b : Str) (ys : List Str) (ds : List FD), u = .ref a ∧ SchemeAt H C CS a b ys ds ∧
     ((NotOf K H v CP ∧ Q (.bl false) H) ∨
      (∃ p : Pic, PicAt H CP p v ∧ p.Ok ∧ p.lev < n ∧ ∀ H', Same H H' → Q (.bl (sound ds p)) H'))))
def spPartS (C CS CP : Addr) (n : Nat) : Sp := fun vs H Q _ => ∃ (a : Addr) (b : Str) (ys : List Str) (ds : List FD) (p : Pic) (v : V) (so : Str), vs = [.ref a, v, .str so] ∧ SchemeAt H C CS a b ys ds ∧ PicAt H CP p v ∧ p.Ok ∧ p.lev < n ∧ ∀ H', Same H H' → Q (.bl (soundP ds p so)) H'
section
variable {P : Program} {w : World} {K : PySem.W.Frag} {mg : Str → Option Value} {base : Heap} {C CS CU CP CI : Addr}
theorem ok_part_of {n k : Nat} (D : Df K mg "_is_sound_part" s_is_sound_part ["scheme", "part", "sort"]) (W : EnvW P w K mg base C CS CU) (VQ : EnvQ P w K mg base CP) (G_sound : CgE P w K mg base k "is_sound_picture" (spSoundX K C CS CP CI n)) (hk : 5 ≤ k) : CgE P w K mg base (k + 1) "_is_sound_part" (spPartS C CS CP n) := by
  obtain ⟨p1, g1, fd1, o1, G1, b1⟩ := VQ.TP.get ("called", "_called") (by simp)
  obtain ⟨p2, g2, fd2, o2, G2, b2⟩ := W.TP.get ("sort_name", "_sort_name") (by simp)
  obtain ⟨fI, fdI, FI, eI, nI, tI, bI⟩ := W.item
  obtain ⟨f, fd, F, m, b⟩ := D
  refine ⟨f, fd, _, goes_exc F sc_is_sound_part (fun vs H Q E h => ?_) (fun cdv A outer s H vs Q E hc hr tk h => ?_), m, F.kp, b⟩
  · obtain ⟨a, b, ys, ds, p, v, so, rfl, _⟩ := h
    rfl
  · obtain ⟨a, b, ys, ds, p, v, so, rfl, SA, PA, ok, ln, q⟩ := h
    have hr5 := hr.mono hk
    refine ⟨_, (pss_cons (ps_if (pt_cmpR op_isN (pe_propG (n := "called") (pv 1) VQ.T.c o1 G1 hc (hr5.mono (by decide)) b1) pe_non (nomark _))
      (pss_one (ps_ret pe_bl))
      pss_nil)
      (pss_one (ps_ret (pe_and (pe_cgE (E := fun _ _ _ => False) (W := fun _ _ _ _ => False) G_sound hc hr (by rfl) LamX.takes0 (fun _ _ _ _ z => z) (pa_cons (pv 0) (pa_cons (pv 1) pa_nil)) (hj := Nat.le_refl _)) (pe_one (pe_cmpR op_eq (pe_propG (n := "sort_name") (pe_itemO (E := fun _ _ _ => False) (W := fun _ _ _ _ => False) (pv 0) (pe_propG (n := "called") (pv 1) VQ.T.c o1 G1 hc (hr5.mono (by decide)) b1) FI eI nI tI bI hc hr5 LamX.takes0 (fun _ _ _ _ z => z)) W.TF.c o2 G2 hc (hr5.mono (by decide)) b2) (pv 2) (nomark _))))))), ?_⟩
    obtain ⟨x, dx, pt, nt, ws, rfl, h1, h2, h3, h4⟩ := PA.ex
    refine ⟨_, rfl, x, dx, _, rfl, h1, x, dx, _, calledV p, rfl, h1, by rfl, rfl, ?_⟩
    cases p with
    | hole => exact ⟨true, rfl, iteT (q H (Same.refl H))⟩
    | node n' ps =>
      have es : soundP ds (.node n' ps) so = (sound ds (.node n' ps) && sortOk ds so (.node n' ps)) := by
        unfold soundP isHole
        exact Bool.false_or _
      rw [es] at q
      refine ⟨false, rfl, iteF ⟨_, rfl, _, rfl, _, _, rfl, .inr ⟨a, b, ys, ds, rfl, SA, .inr ⟨_, PA, ok, ln, fun H1 s1 => ⟨_, rfl, ?_⟩⟩⟩⟩⟩
      cases e1 : sound ds (.node n' ps) with
      | false =>
        rw [e1, Bool.false_and] at q
        exact iteF (q H1 s1)
      | true =>
        rw [e1, Bool.true_and] at q
        obtain ⟨d, ef, _⟩ := formed_form (sound_formed e1)
        obtain ⟨dm, de⟩ := formOf_mem ef
        have SA1 := SA.same s1
        have SA1' := SA1
        obtain ⟨dxs, t, bn, nm, f, so', kvs, fs, zs, ha, ht, hn, hf, FF, hb, hv, hs, mz, srt, nd⟩ := SA1'.ex
        refine iteT ⟨_, rfl, _, rfl, x, dx, _, rfl, s1 _ _ h1, x, dx, _, .str (S n'), rfl, s1 _ _ h1, by rfl, a, dxs, _, rfl, ha, a, b, ys, ds, .str (S n'), rfl, SA1, .inl rfl, fun d' x' ch ks hd' e FA => ?_, fun no => ?_⟩
        · have ed : d' = d := once_name SA.once hd' dm (by rw [de]; exact (V.str.inj e).symm)
          subst ed
          obtain ⟨dx', fa⟩ := FA.at_
          refine ⟨x', dx', _, rfl, fa, x', ch, dx', _, _, .str d'.2.1, rfl, fa, by rfl, _, rfl, rfl, ?_⟩
          have e2 : decide (V.str d'.2.1 = V.str so) = sortOk ds so (.node n' ps) := by
            rw [sortOk_some ef]
            exact decide_eq_decide.mpr ⟨fun z => V.str.inj z, fun z => congrArg V.str z⟩
          rw [e2]
          exact q H1 s1
        · rw [inT_mem] at no
          exact (of_decide_eq_false no (formOf_some ef)).elim
theorem ok_sound_of {n k : Nat} (D : Df K mg "is_sound_picture" s_is_sound_picture ["scheme", "value"]) (W : EnvW P w K mg base C CS CU) (VQ : EnvQ P w K mg base CP) (TIS : FormI K CS) (TIP : FormI K CP) (gS : mg "Scheme" = some (.ref CS)) (TE : ErrC K mg "InvalidScheme" CI) (G_is_formed : Cg P w K mg base 7 "_is_formed" (spFormed C CS CP)) (G_part : CgE P w K mg base k "_is_sound_part" (spPartS C CS CP n)) (hk : 7 ≤ k)
    (z_isinstance : mg "isinstance" = none) (z_all : mg "all" = none) (z_zip : mg "zip" = none) : CgE P w K mg base (k + 1) "is_sound_picture" (spSoundX K C CS CP CI (n + 1)) := by
  obtain ⟨p1, g1, fd1, o1, G1, b1⟩ := VQ.TP.get ("called", "_called") (by simp)
  obtain ⟨p3, g3, fd3, o3, G3, b3⟩ := VQ.TP.get ("parts", "_parts") (by simp)
  obtain ⟨p2, g2, fd2, o2, G2, b2⟩ := W.TP.get ("children", "_children") (by simp)
  obtain ⟨fI, fdI, FI, eI, nI, tI, bI⟩ := W.item
  obtain ⟨f, fd, F, m, b⟩ := D
  refine ⟨f, fd, _, goes_exc F sc_is_sound_picture (fun vs H Q E h => ?_) (fun cdv A outer s H vs Q E hc hr tk h => ?_), m, F.kp, b⟩
  · obtain ⟨u, v, rfl, _⟩ := h
    rfl
  · obtain ⟨u, v, rfl, h⟩ := h
    have hr7 := hr.mono hk
    refine ⟨_, (pss_cons (ps_if (pt_not (pt_val (pe_callB call_isi (by rfl) z_isinstance (by decide +kernel) (pa_cons (pv 0) (pa_cons (pe_glob (v := .ref CS) (by rfl) gS rfl) pa_nil)))))
      (pss_one (ps_raise (by rfl) tk (pmk_own PySem.F.excBase_ValueError TE.e TE.g TE.k (raises_own TE.b TE.t) (by rfl))))
      pss_nil)
      (pss_cons (ps_if (PW.pt (pw_or (pt_not (pt_val (pe_callB call_isi (by rfl) z_isinstance (by decide +kernel) (pa_cons (pv 1) (pa_cons (pe_glob (v := .ref CP) (by rfl) VQ.g rfl) pa_nil))))) (pw_or1 (pt_not (pt_val (pe_cg G_is_formed hc hr7 (by rfl) (pa_cons (pv 0) (pa_cons (pv 1) pa_nil)) (hx := pass0)))))))
      (pss_one (ps_ret pe_bl))
      pss_nil)
      (pss_cons (ps_set (i := 2) sc_is_sound_picture.nd rfl (Or.inl rfl) (pe_propG (n := "children") (pe_itemO (E := fun _ _ _ => False) (W := fun _ _ _ _ => False) (pv 0) (pe_propG (n := "called") (pv 1) VQ.T.c o1 G1 hc (hr7.mono (by decide)) b1) FI eI nI tI bI hc (hr7.mono (by decide)) LamX.takes0 (fun _ _ _ _ z => z)) W.TF.c o2 G2 hc (hr7.mono (by decide)) b2))
      (pss_one (ps_ret (pe_callB (cr_all rfl) (by rfl) z_all (by decide +kernel) (pa_cons (pe_lc (own := [("part", 3), ("child", 4)]) (g := gTup K 2 (gCons (gName 3) (gCons (gName 4) gNil))) (by rfl) sc_is_sound_picture.nd
        (pi_zipA (by rfl) z_zip (pa_cons (pe_propG (n := "parts") (pv 1) VQ.T.c o3 G3 hc (hr7.mono (by decide)) b3) (pa_cons (pv 2) pa_nil)))
        (blkOk_by (own := [("part", 3), ("child", 4)]) (N := ["scheme", "value", "children", "part", "child"]) (sc := defScope s_is_sound_picture) (by decide +kernel)) (fun _ _ _ _ _ => pg_tup (by rfl) (pgs_cons (pg_name (i := 3) sc_is_sound_picture.nd rfl (Or.inl rfl)) (pgs_cons (pg_name (i := 4) sc_is_sound_picture.nd rfl (Or.inl rfl)) pgs_nil))) (fun _ _ _ _ _ => pts_nil)
        (fun _ _ _ _ _ => (pe_cgE (E := fun _ _ _ => False) (W := fun _ _ _ _ => False) G_part hc hr (by rfl) LamX.takes0 (fun _ _ _ _ z => z) (pa_cons (pv 0) (pa_cons (pv 3) (pa_cons (pe_ix (ix_tup : IxR _ (rIxT K)) (pv 4) pe_int (fun _ _ => rfl)) pa_nil))) (hj := Nat.le_refl _)))) pa_nil))))))), ?_⟩
    rcases h with ⟨⟨t, ty, no⟩, q⟩ | ⟨a, b, ys, ds, rfl, SA, h⟩
    · exact ⟨_, rfl, _, _, _, _, false, rfl, .own CS, ty, no, _, rfl, iteT q⟩
    have SA' := SA
    obtain ⟨dxs, t, bn, nm, f, so', kvs, fs, zs, ha, ht, hn, hf, FF, hb, hv, hs, mz, srt, nd⟩ := SA'.ex
    refine ⟨_, rfl, _, _, _, _, true, rfl, .own CS, .base (.ins ha W.T.c TIS.ca TIS.sp TIS.tk TIS.mo), TIS.yes, _, rfl, iteF ?_⟩
    rcases h with ⟨⟨t', ty, no⟩, q⟩ | ⟨p, PA, ok, ln, q⟩
    · exact ⟨_, rfl, _, _, _, _, false, rfl, .own CP, ty, no, _, rfl, iteT (iteT q)⟩
    obtain ⟨x, dx, pt, nt, ws, rfl, h1, h2, h3, h4⟩ := PA.ex
    refine ⟨_, rfl, _, _, _, _, true, rfl, .own CP, .base (.ins h1 VQ.T.c TIP.ca TIP.sp TIP.tk TIP.mo), TIP.yes, _, rfl, iteF ?_⟩
    refine ⟨_, rfl, _, rfl, a, b, ys, ds, p, .ref x, rfl, SA, PA, _, rfl, ?_⟩
    cases p with
    | hole => exact iteT (q H (Same.refl H))
    | node n' ps =>
    cases e1 : formed ds (.node n' ps) with
    | false =>
      have es : sound ds (.node n' ps) = false := by
        cases e2 : sound ds (.node n' ps) with
        | false => rfl
        | true => rw [sound_formed e2] at e1; cases e1
      rw [es] at q
      exact iteT (q H (Same.refl H))
    | true =>
    obtain ⟨d, ef, dl⟩ := formed_form e1
    have es := sound_node (ps := ps) ef
    rw [e1, Bool.true_and, soundL_all] at es
    rw [es] at q
    obtain ⟨dm, de⟩ := formOf_mem ef
    refine iteF ⟨_, rfl, _, rfl, x, dx, _, rfl, h1, x, dx, _, .str (S n'), rfl, h1, by rfl, a, dxs, _, rfl, ha, a, b, ys, ds, .str (S n'), rfl, SA, .inl rfl, fun d' x' ch ks hd' e FA => ?_, fun no => ?_⟩
    · have ed : d' = d := once_name SA.once hd' dm (by rw [de]; exact (V.str.inj e).symm)
      subst ed
      obtain ⟨⟨dx', fa⟩, kk⟩ := FA
      have kl := kk.len
      have wl : ws.length = ps.length := h4.len
      have k4 := kk.hi
      refine ⟨x', dx', _, rfl, fa, x', ch, dx', _, _, .ref ch, rfl, fa, by rfl, ?_⟩
      refine ⟨_, rfl, x, dx, _, rfl, h1, x, dx, _, .ref pt, rfl, h1, by rfl, _, rfl, pt, ch, ws, ks.map V.ref, rfl, .inr ⟨.inl (.inl h2), .inl (.inl kk.at_), fun D nD => ?_⟩⟩
      generalize ezs : List.zipWith (fun p (c : Str × Int) => soundP ds p c.1) ps d'.2.2 = zs at q
      have zl : zs.length = ps.length := by rw [← ezs, List.length_zipWith, dl, Nat.min_self]
      refine lc_zipT (K := K) (a := pt) (b := ch) (xs := ws) (ys := ks.map V.ref) (by rw [List.length_map]; omega) (fun i H' => Same H H' ∧ H' D = some (.lst ((zs.take i).map V.bl))) ⟨same_put nD (Same.refl _), upd_same⟩ (fun i H' _ h => ⟨.inl (.inl (h.1 _ _ h2)), .inl (.inl (h.1 _ _ kk.at_))⟩) (fun i y1 y2 T H1 hy1 hy2 h nT => ?_) (fun H1 h => ?_)
      · obtain ⟨s1, e1'⟩ := h
        rw [List.getElem?_map] at hy2
        obtain ⟨t1, ht1, rfl⟩ := Option.map_eq_some_iff.mp hy2
        obtain ⟨⟨c1, c2⟩, hc', kt⟩ := kk.get ht1
        have il : i < ps.length := by
          have := (List.getElem?_eq_some_iff.mp hy1).1
          omega
        have hp : ps[i]? = some ps[i] := List.getElem?_eq_getElem il
        have pi := h4.get hp hy1
        have pm : ps[i] ∈ (Pic.node n' ps).parts := List.getElem_mem il
        have lp := lev_part pm
        have okp := ok_part ok pm
        have ezi : zs[i]? = some (soundP ds ps[i] c1) := by rw [← ezs, List.getElem?_zipWith, hp, hc']
        generalize ps[i] = pp at hp pi lp okp ezi
        have sT := same_new (o := .tup [y1, .ref t1]) nT
        have DT : D ≠ T := ne_of_none e1' nT
        have s2 := s1.trans sT
        have e2 : (upd H1 T (.tup [y1, .ref t1])) D = some (.lst ((zs.take i).map V.bl)) := sT _ _ e1'
        have eT : (upd H1 T (.tup [y1, .ref t1])) T = some (.tup [y1, .ref t1]) := upd_same
        generalize upd H1 T (.tup [y1, .ref t1]) = H2 at s2 e2 eT ⊢
        refine ⟨T, _, rfl, .inl (.inl eT), rfl, y1, _, rfl, .ref t1, _, rfl, rfl, rfl, ?_⟩
        refine ⟨_, rfl, _, rfl, _, rfl, t1, _, 0, _, rfl, rfl, .inl (.inl (s2 _ _ kt.at_)), rfl, a, b, ys, ds, pp, y1, c1, rfl, SA.same s2, pi.keep (KeepP.of s2) _ _, okp, by omega, fun H3 s3 => ?_⟩
        refine ⟨_, s3 _ _ e2, ?_, same_put nD (s2.trans s3), ?_⟩
        · rw [List.length_map, List.length_take]
          exact Nat.lt_of_le_of_lt (show _ ≤ 4 by omega) (by decide)
        · rw [upd_same, List.take_add_one, ezi, List.map_append]
          rfl
      · obtain ⟨s1, e1'⟩ := h
        rw [wl, ← zl, List.take_of_length_le (Nat.le_refl _)] at e1'
        exact ⟨D, zs, rfl, .inl (.inl e1'), q _ s1⟩
    · rw [inT_mem] at no
      exact (of_decide_eq_false no (formOf_some ef)).elim
end
end K11
set_option Elab.async false
set_option linter.all false
set_option autoImplicit false
set_option maxRecDepth 100000
set_option maxHeartbeats 4000000
/-! Od: == and != where the right side is a dict and the left side is of another kind. -/
namespace Od
open PySem PySem.SeqAt PySem.AutoSeq1 PySem.MeetsSeq PySem.MeetsSeq2 PySem.MeetsSeq3
/-- a dict stands at l -/
def DictAt (s : Shared) (l : Addr) : Prop := ∃ o es ep, s.heap.get? l = some o ∧ o.cls = .type "dict" ∧ o.data = .dict es ep
theorem DictAt.ty {s : Shared} {l : Addr} (d : DictAt s l) : s.TypeIs (.ref l) "dict" := by
  obtain ⟨o, es, ep, h, c, _⟩ := d
  exact ⟨o, h, c⟩
end Od
set_option Elab.async false
set_option linter.all false
set_option autoImplicit false
set_option maxRecDepth 100000
set_option maxHeartbeats 4000000
/-! Oe: values of many kinds, dicts too: in a tuple of texts; != an empty dict; repr of an empty dict. -/
namespace Oe
open PySem PySem.Spec PySem.SeqAt PyProof.Rows L2 Vb Od Oi
end Oe
set_option Elab.async false
set_option linter.all false
set_option autoImplicit false
set_option maxRecDepth 100000
set_option maxHeartbeats 4000000
/-! Of: values of many kinds as data (dicts with at most one key among them), in lists, tuples and dicts that are tracked. -/
namespace Of
open PySem PySem.Spec PyProof.Rows L2 Vb Wd Oe Oi
mutual
inductive Dt (H : Hp) : V → PyData → Prop
  | non : Dt H .non .none
  | bl (b : Bool) : Dt H (.bl b) (.bool b)
  | int (i : Int) : Dt H (.int i) (.int i)
  | str (x : Str) : Dt H (.str x) (.str x)
  | lst {a : Addr} {xs : List V} {ds : List PyData} : H a = some (.lst xs) → DtAll H xs ds → Dt H (.ref a) (.list ds)
  | tup {a : Addr} {xs : List V} {ds : List PyData} : H a = some (.tup xs) → DtAll H xs ds → Dt H (.ref a) (.tuple ds)
  | d0 {a : Addr} : H a = some (.dK []) → Dt H (.ref a) (.dict [])
  | d1 {a : Addr} {k v : Str} : H a = some (.dK [(Sum.inr k, .str v)]) → Dt H (.ref a) (.dict [(.str k, .str v)])
inductive DtAll (H : Hp) : List V → List PyData → Prop
  | nil : DtAll H [] []
  | cons {v : V} {vs : List V} {d : PyData} {ds : List PyData} : Dt H v d → DtAll H vs ds → DtAll H (v :: vs) (d :: ds)
end
theorem DtAll.len {H : Hp} : ∀ {xs : List V} {ds : List PyData}, DtAll H xs ds → xs.length = ds.length
  | _, _, .nil => rfl
  | _, _, .cons _ t => by rw [List.length_cons, List.length_cons, t.len]
theorem DtAll.get {H : Hp} : ∀ {xs : List V} {ds : List PyData}, DtAll H xs ds → ∀ {i : Nat} {x : V}, xs[i]? = some x → ∃ d, ds[i]? = some d ∧ Dt H x d
  | _, _, .nil, _, _, h => by simp at h
  | _, _, .cons q t, 0, _, h => by
    injection h with h
    subst h
    exact ⟨_, rfl, q⟩
  | _, _, .cons q t, i + 1, _, h => t.get (by simpa using h)
theorem DtAll.app {H : Hp} : ∀ {xs : List V} {ds : List PyData}, DtAll H xs ds → ∀ {ys : List V} {es : List PyData}, DtAll H ys es → DtAll H (xs ++ ys) (ds ++ es)
  | _, _, .nil, _, _, k => k
  | _, _, .cons q t, _, _, k => .cons q (t.app k)
mutual
/-- strings and numbers of no great size -/
def okD : PyData → Bool
  | .none => true
  | .bool _ => true
  | .int i => decide (i.natAbs < 10 ^ 100)
  | .str z => decide (z.length ≤ 1000) && z.cps.toList.all fun c => decide (c < 128)
  | .list ds => okDs ds
  | .tuple ds => okDs ds
  | .dict _ => true
def okDs : List PyData → Bool
  | [] => true
  | d :: ds => okD d && okDs ds
end
def isI : PyData → Bool
  | .int _ => true
  | _ => false
mutual
/-- no list of three numbers in it: it cannot be the dice -/
def noDz : PyData → Bool
  | .list ds => !(decide (ds.length = 3) && ds.all isI) && noDzs ds
  | .tuple ds => noDzs ds
  | _ => true
def noDzs : List PyData → Bool
  | [] => true
  | d :: ds => noDz d && noDzs ds
end
/-- what of a heap stays: lists, tuples and dicts but the dice -/
def Keeps (H H' : Hp) : Prop := (∀ a xs, (∀ g s c : Int, xs ≠ [.int g, .int s, .int c]) → H a = some (.lst xs) → H' a = some (.lst xs)) ∧ (∀ a xs, H a = some (.tup xs) → H' a = some (.tup xs)) ∧ ∀ a kvs, H a = some (.dK kvs) → H' a = some (.dK kvs)
theorem Keeps.same {H H' : Hp} (s : Same H H') : Keeps H H' := ⟨fun a xs _ h => s _ _ h, fun a xs h => s _ _ h, fun a kvs h => s _ _ h⟩
theorem DtAll.noDz {H : Hp} {xs : List V} {ds : List PyData} (h : DtAll H xs ds) (n : (decide (ds.length = 3) && ds.all isI) = false) : ∀ g s c : Int, xs ≠ [.int g, .int s, .int c] := fun g s c e => by
  subst e
  obtain ⟨d1, e1, q1⟩ := h.get (i := 0) rfl
  obtain ⟨d2, e2, q2⟩ := h.get (i := 1) rfl
  obtain ⟨d3, e3, q3⟩ := h.get (i := 2) rfl
  have l := h.len
  match ds, l, e1, e2, e3 with
  | [x, y, z], _, e1, e2, e3 =>
    cases e1
    cases e2
    cases e3
    cases q1
    cases q2
    cases q3
    simp [isI] at n
mutual
theorem Dt.keep {H H' : Hp} (k : Keeps H H') : ∀ (d : PyData) (v : V), noDz d = true → Dt H v d → Dt H' v d
  | .none, _, _, h => by
    cases h
    exact .non
  | .bool b, _, _, h => by
    cases h
    exact .bl b
  | .int i, _, _, h => by
    cases h
    exact .int i
  | .str z, _, _, h => by
    cases h
    exact .str z
  | .list ds, _, n, h => by
    cases h with
    | lst e a =>
      unfold noDz at n
      rw [Bool.and_eq_true] at n
      exact .lst (k.1 _ _ (a.noDz ((Bool.not_eq_true' _).mp n.1)) e) (DtAll.keep k ds _ n.2 a)
  | .tuple ds, _, n, h => by
    cases h with
    | tup e a =>
      unfold noDz at n
      exact .tup (k.2.1 _ _ e) (DtAll.keep k ds _ n a)
  | .dict _, _, _, h => by
    cases h with
    | d0 e => exact .d0 (k.2.2 _ _ e)
    | d1 e => exact .d1 (k.2.2 _ _ e)
theorem DtAll.keep {H H' : Hp} (k : Keeps H H') : ∀ (ds : List PyData) (vs : List V), noDzs ds = true → DtAll H vs ds → DtAll H' vs ds
  | [], _, _, h => by
    cases h
    exact .nil
  | d :: ds, _, n, h => by
    cases h with
    | cons q t =>
      unfold noDzs at n
      rw [Bool.and_eq_true] at n
      exact .cons (Dt.keep k d _ n.1 q) (DtAll.keep k ds _ n.2 t)
end
mutual
theorem Dt.same {H H' : Hp} (k : Same H H') : ∀ (d : PyData) (v : V), Dt H v d → Dt H' v d
  | .none, _, h => by
    cases h
    exact .non
  | .bool b, _, h => by
    cases h
    exact .bl b
  | .int i, _, h => by
    cases h
    exact .int i
  | .str z, _, h => by
    cases h
    exact .str z
  | .list ds, _, h => by
    cases h with
    | lst e a => exact .lst (k _ _ e) (DtAll.same k ds _ a)
  | .tuple ds, _, h => by
    cases h with
    | tup e a => exact .tup (k _ _ e) (DtAll.same k ds _ a)
  | .dict _, _, h => by
    cases h with
    | d0 e => exact .d0 (k _ _ e)
    | d1 e => exact .d1 (k _ _ e)
theorem DtAll.same {H H' : Hp} (k : Same H H') : ∀ (ds : List PyData) (vs : List V), DtAll H vs ds → DtAll H' vs ds
  | [], _, h => by
    cases h
    exact .nil
  | d :: ds, _, h => by
    cases h with
    | cons q t => exact .cons (Dt.same k d _ q) (DtAll.same k ds _ t)
end
theorem okDs_mem {ds : List PyData} (h : okDs ds = true) : ∀ d ∈ ds, okD d = true := by
  induction ds with
  | nil => exact fun d hd => nomatch hd
  | cons x ds ih =>
    unfold okDs at h
    rw [Bool.and_eq_true] at h
    exact fun d hd => (List.mem_cons.mp hd).elim (fun e => e ▸ h.1) (ih h.2 d)
theorem okDs_of {ds : List PyData} (h : ∀ d ∈ ds, okD d = true) : okDs ds = true := by
  induction ds with
  | nil => rfl
  | cons x ds ih =>
    unfold okDs
    rw [h x List.mem_cons_self, ih fun d hd => h d (List.mem_cons_of_mem _ hd)]
    rfl
/-- judges may be asked of it -/
theorem Dt.judged {H : Hp} {v : V} {d : PyData} (h : Dt H v d) (o : okD d = true) : Judged H v := by
  cases h with
  | non => exact True.intro
  | bl b => exact True.intro
  | int i =>
    show i.natAbs < 10 ^ 100
    exact of_decide_eq_true o
  | str z =>
    unfold okD at o
    rw [Bool.and_eq_true] at o
    exact ⟨of_decide_eq_true o.1, asc_lit o.2⟩
  | lst e _ => exact .inl ⟨_, e⟩
  | tup e _ => exact .inr (.inl ⟨_, e⟩)
  | d0 e => exact .inr (.inr ⟨_, e⟩)
  | d1 e => exact .inr (.inr ⟨_, e⟩)
def kndOf : PyData → String
  | .none => "NoneType"
  | .bool _ => "bool"
  | .int _ => "int"
  | .str _ => "str"
  | .list _ => "list"
  | .tuple _ => "tuple"
  | .dict _ => "dict"
theorem Dt.ty {K : PySem.W.Frag} {H : Hp} {v : V} {d : PyData} (h : Dt H v d) : TyX K H v (.type (kndOf d)) := by
  cases h with
  | non => exact .base .non
  | bl b => exact .base (.bl b)
  | int i => exact .base (.int i)
  | str z => exact .base (.str z)
  | lst e _ => exact .base (.lst e)
  | tup e _ => exact .base (.tup e)
  | d0 e => exact .base (.dK e)
  | d1 e => exact .base (.dK e)
mutual
theorem Dt.dp {K : PySem.W.Frag} {H : Hp} : ∀ (d : PyData) (v : V), d.hasDict = false → Dt H v d → Dp K H v d
  | .none, _, _, h => by
    cases h
    exact .non
  | .bool b, _, _, h => by
    cases h
    exact .bl b
  | .int i, _, _, h => by
    cases h
    exact .int i
  | .str z, _, _, h => by
    cases h
    exact .str z
  | .list ds, _, n, h => by
    cases h with
    | lst e a => exact .lst (.inl (.inl e)) (DtAll.dp ds _ n a)
  | .tuple ds, _, n, h => by
    cases h with
    | tup e a => exact .tup (.inl (.inl e)) (DtAll.dp ds _ n a)
  | .dict _, _, n, h => by cases n
theorem DtAll.dp {K : PySem.W.Frag} {H : Hp} : ∀ (ds : List PyData) (vs : List V), PyData.hasDictAll ds = false → DtAll H vs ds → DpAll K H vs ds
  | [], _, _, h => by
    cases h
    exact .nil
  | d :: ds, _, n, h => by
    cases h with
    | cons q t =>
      have n' : (d.hasDict || PyData.hasDictAll ds) = false := n
      rw [Bool.or_eq_false_iff] at n'
      exact .cons (Dt.dp d _ n'.1 q) (DtAll.dp ds _ n'.2 t)
end
/-- names, as data -/
def namD : PyData → Bool
  | .str z => isNam (.str z)
  | _ => false
theorem Dt.nam {H : Hp} {v : V} {d : PyData} (h : Dt H v d) : isNam v = namD d := by
  cases h <;> rfl
end Of
set_option Elab.async false
set_option linter.all false
set_option autoImplicit false
set_option maxRecDepth 100000
set_option maxHeartbeats 4000000
namespace K11
open PySem PySem.Spec PyProof.Rows L2 Vb Wd Xd Xo Xv SX Pc Zc Oi RZ Oe Of
abbrev s_is_spot : Stmt := topS 44
theorem sc_is_spot : FnScope ["value"] ["value"] (defScope s_is_spot) := ⟨rfl, rfl, rfl, by decide +kernel, rfl, by decide +kernel, by decide +kernel⟩
def intD : PyData → Bool
  | .int i => decide (i.natAbs < 10 ^ 60)
  | _ => false
def spotD : PyData → Bool
  | .tuple [x, y] => namD x && intD y
  | _ => false
theorem int_dt {H : Hp} {v : V} {d : PyData} (h : Dt H v d) : isInt v = intD d := by
  cases h <;> rfl
def spSpotD : Sp := fun vs H Q _ => ∃ (v : V) (d : PyData), vs = [v] ∧ Dt H v d ∧ okD d = true ∧ ∀ H', Same H H' → Q (.bl (spotD d)) H'
theorem kit_noT {T : String} (h : T ∈ ["NoneType", "bool", "int", "str", "list", "dict"]) : kitB T "tuple" = some false := by
  simp only [List.mem_cons, List.not_mem_nil, or_false] at h
  rcases h with rfl | rfl | rfl | rfl | rfl | rfl <;> decide +kernel
/-- a tuple, or of another kind -/
theorem tup_orS (d : PyData) : (∃ ds, d = .tuple ds) ∨ (kndOf d ∈ ["NoneType", "bool", "int", "str", "list", "dict"] ∧ spotD d = false) := by
  cases d with
  | tuple ds => exact .inl ⟨ds, rfl⟩
  | none => exact .inr ⟨by simp [kndOf], rfl⟩
  | bool b => exact .inr ⟨by simp [kndOf], rfl⟩
  | int b => exact .inr ⟨by simp [kndOf], rfl⟩
  | str b => exact .inr ⟨by simp [kndOf], rfl⟩
  | list b => exact .inr ⟨by simp [kndOf], rfl⟩
  | dict b => exact .inr ⟨by simp [kndOf], rfl⟩
section
variable {P : Program} {w : World} {K : PySem.W.Frag} {mg : Str → Option Value} {base : Heap}
theorem ok_is_spot (D : Df K mg "_is_spot" s_is_spot ["value"]) (G_is_name : Cg P w K mg base 1 "is_name" (spOf isNam)) (G_is_integer : Cg P w K mg base 1 "is_integer" (spOf isInt)) (z_isinstance : mg "isinstance" = none) (z_tuple : mg "tuple" = none) (z_len : mg "len" = none) : Cg P w K mg base 2 "_is_spot" spSpotD := by
  refine D.ok sc_is_spot (fun vs H Q E h => ?_) (fun cdv A outer s H vs Q E f hc hr h => ?_)
  · obtain ⟨v, d, rfl, _⟩ := h
    rfl
  · obtain ⟨v, d, rfl, k, o, q⟩ := h
    refine ⟨_, (pss_one (ps_ret (pe_and (pe_callB call_isi (by rfl) z_isinstance (by decide +kernel) (pa_cons (pv 0) (pa_cons (pe_bltn (v := .ty "tuple") (by rfl) z_tuple (by decide +kernel) rfl) pa_nil))) (pe_and (pe_cmpR op_eq (pe_callB call_len_seq (by rfl) z_len PySem.boot_len (pa_cons (pv 0) pa_nil)) pe_int (nomark _)) (pe_and (pe_cg G_is_name hc hr (by rfl) (pa_cons (pe_ix (ix_tup : IxR _ (rIxT K)) (pv 0) pe_int (fun _ _ => rfl)) pa_nil)) (pe_one (pe_cg G_is_integer hc hr (by rfl) (pa_cons (pe_ix (ix_tup : IxR _ (rIxT K)) (pv 0) pe_int (fun _ _ => rfl)) pa_nil)))))))), ?_⟩
    rcases tup_orS d with ⟨ds, rfl⟩ | ⟨m, e1⟩
    · cases k with
      | @tup a xs _ ha al =>
        have ln := al.len
        have ody : ∀ d ∈ ds, okD d = true := okDs_mem o
        refine ⟨_, rfl, _, _, _, _, true, rfl, .ty _, .base (.tup ha), kit_ty (by decide +kernel), _, rfl, iteT ⟨_, rfl, a, _, rfl, .inr (.inl (.inl ha)), rfl, ?_⟩⟩
        refine ⟨_, rfl, ?_⟩
        match xs, ds, al, ln, ody with
        | [], [], _, _, _ => exact iteF (q H (Same.refl H))
        | [x], [dx], _, _, _ => exact iteF (q H (Same.refl H))
        | [x, y], [dx, dy], .cons kx (.cons ky .nil), _, ody =>
          refine iteT ⟨_, rfl, a, _, _, _, rfl, rfl, .inl (.inl ha), rfl, x, rfl, kx.judged (ody dx (by simp)), fun H1 s1 => ⟨_, rfl, ?_⟩⟩
          have e : spotD (.tuple [dx, dy]) = (namD dx && intD dy) := rfl
          rw [e] at q
          rw [kx.nam]
          cases en : namD dx with
          | false =>
            rw [en] at q
            exact iteF (q H1 s1)
          | true =>
            rw [en, Bool.true_and] at q
            refine iteT ⟨_, rfl, a, _, _, _, rfl, rfl, .inl (.inl (s1 _ _ ha)), rfl, y, rfl, (ky.judged (ody dy (by simp))).same s1, fun H2 s2 => ?_⟩
            rw [int_dt ky]
            exact q H2 (s1.trans s2)
        | x :: y :: z :: r, dx :: dy :: dz :: rd, _, _, _ =>
          have e : decide (V.int ((x :: y :: z :: r).length : Int) = V.int 2) = false := decide_eq_false fun e => by
            have := V.int.inj e
            simp only [List.length_cons] at this
            omega
          rw [e]
          exact iteF (q H (Same.refl H))
    · rw [e1] at q
      refine ⟨_, rfl, _, _, _, _, false, rfl, .ty _, k.ty, kit_ty (kit_noT m), _, rfl, iteF (q H (Same.refl H))⟩
end
end K11
set_option Elab.async false
set_option linter.all false
set_option autoImplicit false
set_option maxRecDepth 100000
set_option maxHeartbeats 4000000
namespace K11
open PySem PySem.Spec PyProof.Rows L2 Vb Wd Xd Xo Xv SX Pc Zc Oi RZ
abbrev s_spots_below : Stmt := topS 45
theorem sc_spots_below : FnScope ["scheme", "picture", "level", "spots", "part", "sort", "step"] ["scheme", "picture", "level"] (defScope s_spots_below) := ⟨rfl, rfl, rfl, by decide +kernel, rfl, by decide +kernel, by decide +kernel⟩
theorem holesL_take {ps : List Pic} {i : Nat} {q : Pic} (h : ps[i]? = some q) : holesL (ps.take (i + 1)) = holesL (ps.take i) + q.holes := by
  rw [holes_sum, holes_sum, List.take_add_one, h, List.map_append, List.sum_append]
  simp
theorem holes_le (p : Pic) : p.Ok → p.holes ≤ 4 ^ p.lev := by
  refine Pic.ind (P := fun p => p.Ok → p.holes ≤ 4 ^ p.lev) (fun _ => Nat.le_refl _) (fun n ps ih ok => ?_) p
  obtain ⟨w, l2, l4, oks⟩ := ok_node ok
  have hb : ∀ p ∈ ps, p.holes ≤ 4 ^ levL ps := fun p hp => Nat.le_trans (ih p hp (oks p hp)) (Nat.pow_le_pow_right (by decide) (lev_le hp))
  have all : ∀ qs : List Pic, (∀ p ∈ qs, p.holes ≤ 4 ^ levL ps) → holesL qs ≤ qs.length * 4 ^ levL ps := fun qs => by
    induction qs with
    | nil => intro _; exact Nat.zero_le _
    | cons q qs ihq =>
      intro h
      have h1 := h q (List.mem_cons_self ..)
      have h2 := ihq fun x hx => h x (List.mem_cons_of_mem _ hx)
      show q.holes + holesL qs ≤ _
      rw [List.length_cons, Nat.succ_mul]
      omega
  have h3 := all ps hb
  have h4 : ps.length * 4 ^ levL ps ≤ 4 * 4 ^ levL ps := Nat.mul_le_mul_right _ l4
  show holesL ps ≤ 4 ^ (1 + levL ps)
  rw [Nat.add_comm 1, Nat.pow_succ]
  omega
theorem holesL_le {ps : List Pic} {i : Nat} : holesL (ps.take i) ≤ holesL ps := by
  have e1 : holesL ps = holesL (ps.take i) + holesL (ps.drop i) := by
    conv => lhs; rw [← List.take_append_drop i ps]
    rw [holes_sum, holes_sum, holes_sum, List.map_append, List.sum_append]
  omega
theorem holes256 {p : Pic} (ok : p.Ok) (l : p.lev ≤ 4) : p.holes ≤ 256 := Nat.le_trans (holes_le p ok) (Nat.le_trans (Nat.pow_le_pow_right (by decide) l) (by decide))
/-- a part that a sound picture has is a hole or sound -/
theorem sound_part {ds : List FD} {n : List Nat} {ps : List Pic} {d : FD} (h : sound ds (.node n ps) = true) (ef : formOf ds n = some d) {i : Nat} {q : Pic} (hq : ps[i]? = some q) : isHole q = true ∨ sound ds q = true := by
  rw [sound_node ef, Bool.and_eq_true, soundL_all] at h
  obtain ⟨hf, ha⟩ := h
  rw [formed_yes ef, decide_eq_true_eq] at hf
  have il := (List.getElem?_eq_some_iff.mp hq).1
  have hc : d.2.2[i]? = some (d.2.2[i]'(by omega)) := List.getElem?_eq_getElem _
  have hz : (List.zipWith (fun p (c : Str × Int) => soundP ds p c.1) ps d.2.2)[i]? = some (soundP ds q (d.2.2[i]'(by omega)).1) := by
    rw [List.getElem?_zipWith, hq, hc]
  have := List.all_eq_true.mp ha _ (List.mem_of_getElem? hz)
  have h2 : (isHole q || (sound ds q && sortOk ds (d.2.2[i]'(by omega)).1 q)) = true := this
  rw [Bool.or_eq_true, Bool.and_eq_true] at h2
  exact h2.imp id And.left
end K11
set_option Elab.async false
set_option linter.all false
set_option autoImplicit false
set_option maxRecDepth 100000
set_option maxHeartbeats 4000000
namespace K11
open PySem PySem.Spec PyProof.Rows L2 Vb Wd Xd Xo Xv SX Pc Zc Oi RZ
abbrev s_spot_held : Stmt := topS 46
abbrev nSH : List Str := ["scheme", "picture", "spots", "form", "levels", "begin", "part", "sort", "step", "spot"]
theorem sc_spot_held : FnScope nSH ["scheme", "picture", "spots"] (defScope s_spot_held) := ⟨rfl, rfl, rfl, by decide +kernel, rfl, by decide +kernel, by decide +kernel⟩
/-- a spot: a text and a number -/
def SpotV (H : Hp) (x : V) : Prop := ∃ (t : Addr) (z : Str) (i : Int), x = .ref t ∧ H t = some (.tup [.str z, .int i])
theorem SpotV.same {H H' : Hp} {x : V} (s : Same H H') (h : SpotV H x) : SpotV H' x := by
  obtain ⟨t, z, i, e, h⟩ := h
  exact ⟨t, z, i, e, s _ _ h⟩
theorem holes_pos (p : Pic) : p.Ok → 1 ≤ p.holes := by
  refine Pic.ind (P := fun p => p.Ok → 1 ≤ p.holes) (fun _ => Nat.le_refl _) (fun n ps ih ok => ?_) p
  obtain ⟨w, l2, l4, oks⟩ := ok_node ok
  cases ps with
  | nil => simp at l2
  | cons q qs =>
    have := ih q (List.mem_cons_self ..) (oks q (List.mem_cons_self ..))
    show 1 ≤ q.holes + holesL qs
    omega
theorem holesL_pos {ps : List Pic} (h : ∀ p ∈ ps, p.Ok) : ps.length ≤ holesL ps := by
  induction ps with
  | nil => exact Nat.le_refl _
  | cons q qs ih =>
    have h1 := holes_pos q (h q (List.mem_cons_self ..))
    have h2 := ih fun x hx => h x (List.mem_cons_of_mem _ hx)
    show qs.length + 1 ≤ q.holes + holesL qs
    omega
/-- the spots of a part are not all -/
theorem not_whole {ps : List Pic} {i : Nat} {q : Pic} (h : ∀ p ∈ ps, p.Ok) (l2 : 2 ≤ ps.length) (hq : ps[i]? = some q) : ¬ (holesL (ps.take i) = 0 ∧ holesL (ps.take i) + q.holes = holesL ps) := fun ⟨z1, z2⟩ => by
  have e1 : holesL ps = holesL (ps.take (i + 1)) + holesL (ps.drop (i + 1)) := by
    conv => lhs; rw [← List.take_append_drop (i + 1) ps]
    rw [holes_sum, holes_sum, holes_sum, List.map_append, List.sum_append]
  have h1 := holesL_pos (ps := ps.take i) fun p hp => h p (List.mem_of_mem_take hp)
  have h2 := holesL_pos (ps := ps.drop (i + 1)) fun p hp => h p (List.mem_of_mem_drop hp)
  have il := (List.getElem?_eq_some_iff.mp hq).1
  rw [holesL_take hq] at e1
  rw [List.length_take] at h1
  rw [List.length_drop] at h2
  omega
end K11
set_option Elab.async false
set_option linter.all false
set_option autoImplicit false
set_option maxRecDepth 100000
set_option maxHeartbeats 4000000
namespace K11
open PySem SX Pc
/-! ### spots that a picture holds, as data -/
abbrev SpT := Str × Int
def okRes : List (Str × Int) → List (Option SpT) → Option (List Int)
  | [], [] => some []
  | c :: cs, r :: rs => match r with
    | none => none
    | some s => if s.1 = c.1 then (okRes cs rs).map ((s.2 + c.2) :: ·) else none
  | [], _ :: _ => none
  | _ :: _, [] => none
def sameL : List Int → Bool
  | [] => true
  | x :: xs => xs.all fun y => decide (y = x)
def closeS (d : FD) (r : Option (List Int)) : Option SpT := match r with
  | none => none
  | some ls => if sameL ls = true then some (d.2.1, ls.headD 0) else none
mutual
def held (ds : List FD) : Pic → List SpT → Option SpT
  | .hole, ss => ss.head?
  | .node n ps, ss => match formOf ds n with
    | none => none
    | some d => closeS d (okRes d.2.2 (heldL ds ps ss))
def heldL (ds : List FD) : List Pic → List SpT → List (Option SpT)
  | [], _ => []
  | p :: ps, ss => held ds p (ss.take p.holes) :: heldL ds ps (ss.drop p.holes)
end
mutual
def below (ds : List FD) : Pic → Int → List SpT
  | .hole, _ => []
  | .node n ps, lv => match formOf ds n with
    | none => []
    | some d => belowL ds ps d.2.2 lv
def belowL (ds : List FD) : List Pic → List (Str × Int) → Int → List SpT
  | [], _, _ => []
  | p :: ps, cs, lv => match cs with
    | [] => []
    | c :: cs => (if isHole p = true then [(c.1, lv - c.2)] else below ds p (lv - c.2)) ++ belowL ds ps cs lv
end
mutual
def spotT (b : Str) (ds : List FD) : Pic → Option SpT
  | .hole => some (b, 0)
  | .node n ts => match formOf ds n with
    | none => none
    | some d => closeS d (okRes d.2.2 (spotTL b ds ts))
def spotTL (b : Str) (ds : List FD) : List Pic → List (Option SpT)
  | [] => []
  | t :: ts => spotT b ds t :: spotTL b ds ts
end
mutual
def fill : Pic → List Pic → Pic
  | .hole, ts => ts.headD .hole
  | .node n ps, ts => .node n (fillL ps ts)
def fillL : List Pic → List Pic → List Pic
  | [], _ => []
  | p :: ps, ts => fill p (ts.take p.holes) :: fillL ps (ts.drop p.holes)
end
mutual
def fits (ds : List FD) : Pic → Bool
  | .hole => true
  | .node n ps => formed ds (.node n ps) && fitsL ds ps
def fitsL (ds : List FD) : List Pic → Bool
  | [] => true
  | p :: ps => fits ds p && fitsL ds ps
end
theorem held_node {ds : List FD} {n : List Nat} {ps : List Pic} {d : FD} {ss : List SpT} (h : formOf ds n = some d) : held ds (.node n ps) ss = closeS d (okRes d.2.2 (heldL ds ps ss)) := by
  simp [held, h]
theorem spotT_node {b : Str} {ds : List FD} {n : List Nat} {ps : List Pic} {d : FD} (h : formOf ds n = some d) : spotT b ds (.node n ps) = closeS d (okRes d.2.2 (spotTL b ds ps)) := by
  simp [spotT, h]
theorem below_node {ds : List FD} {n : List Nat} {ps : List Pic} {d : FD} {lv : Int} (h : formOf ds n = some d) : below ds (.node n ps) lv = belowL ds ps d.2.2 lv := by
  simp [below, h]
theorem heldL_len {ds : List FD} : ∀ {ps : List Pic} {ss : List SpT}, (heldL ds ps ss).length = ps.length
  | [], _ => rfl
  | p :: ps, ss => by
    show (heldL ds ps _).length + 1 = _
    rw [heldL_len]
    rfl
theorem spotTL_map {b : Str} {ds : List FD} : ∀ ts : List Pic, spotTL b ds ts = ts.map (spotT b ds)
  | [] => rfl
  | t :: ts => by
    show spotT b ds t :: spotTL b ds ts = _
    rw [spotTL_map ts]
    rfl
theorem fitsL_all {ds : List FD} : ∀ ps : List Pic, fitsL ds ps = ps.all (fits ds)
  | [] => rfl
  | p :: ps => by
    show (fits ds p && fitsL ds ps) = _
    rw [fitsL_all ps]
    rfl
theorem okRes_some : ∀ {cs : List (Str × Int)} {rs : List (Option SpT)} {ls : List Int}, okRes cs rs = some ls → rs.length = cs.length ∧ ls.length = cs.length ∧
    ∀ (i : Nat) (c : Str × Int), cs[i]? = some c → ∃ s : SpT, rs[i]? = some (some s) ∧ s.1 = c.1 ∧ ls[i]? = some (s.2 + c.2)
  | [], [], ls, h => by
    cases h
    exact ⟨rfl, rfl, fun i c h => by simp at h⟩
  | c :: cs, none :: rs, ls, h => by cases h
  | c :: cs, some s :: rs, ls, h => by
    have h : (if s.1 = c.1 then (okRes cs rs).map ((s.2 + c.2) :: ·) else none) = some ls := h
    by_cases e : s.1 = c.1
    · rw [if_pos e] at h
      cases q : okRes cs rs with
      | none => rw [q] at h; cases h
      | some l2 =>
        rw [q] at h
        cases h
        obtain ⟨h1, h2, h3⟩ := okRes_some q
        refine ⟨by simp [h1], by simp [h2], fun i c' hc => ?_⟩
        cases i with
        | zero =>
          cases hc
          exact ⟨s, rfl, e, rfl⟩
        | succ i =>
          obtain ⟨s', e1, e2, e3⟩ := h3 i c' (by simpa using hc)
          exact ⟨s', by simpa using e1, e2, by simpa using e3⟩
    · rw [if_neg e] at h
      cases h
  | [], _ :: _, ls, h => by cases h
  | _ :: _, [], ls, h => by cases h
/-- how it is told by its items -/
theorem okRes_of : ∀ {cs : List (Str × Int)} {rs : List (Option SpT)} {ls : List Int}, rs.length = cs.length → ls.length = cs.length →
    (∀ (i : Nat) (c : Str × Int), cs[i]? = some c → ∃ s : SpT, rs[i]? = some (some s) ∧ s.1 = c.1 ∧ ls[i]? = some (s.2 + c.2)) → okRes cs rs = some ls
  | [], [], [], _, _, _ => rfl
  | [], [], _ :: _, _, h, _ => by simp at h
  | [], _ :: _, _, h, _, _ => by simp at h
  | c :: cs, [], _, h, _, _ => by simp at h
  | c :: cs, r :: rs, [], _, h, _ => by simp at h
  | c :: cs, r :: rs, l :: ls, h1, h2, h => by
    obtain ⟨s, e1, e2, e3⟩ := h 0 c rfl
    have e1 : r = some s := by simpa using e1
    have e3 : l = s.2 + c.2 := by simpa using e3
    subst e1 e3
    show (if s.1 = c.1 then (okRes cs rs).map ((s.2 + c.2) :: ·) else none) = _
    rw [if_pos e2, okRes_of (cs := cs) (rs := rs) (ls := ls) (by simpa using h1) (by simpa using h2) fun i c' hc => by
      obtain ⟨s', f1, f2, f3⟩ := h (i + 1) c' (by simpa using hc)
      exact ⟨s', by simpa using f1, f2, by simpa using f3⟩]
    rfl
theorem okRes_none {cs : List (Str × Int)} {rs : List (Option SpT)} {i : Nat} {c : Str × Int} (hc : cs[i]? = some c) (h : ∀ s : SpT, rs[i]? = some (some s) → s.1 ≠ c.1) : okRes cs rs = none := by
  cases q : okRes cs rs with
  | none => rfl
  | some ls =>
    obtain ⟨_, _, h3⟩ := okRes_some q
    obtain ⟨s, e1, e2, _⟩ := h3 i c hc
    exact (h s e1 e2).elim
theorem okRes_len {cs : List (Str × Int)} {rs : List (Option SpT)} (h : rs.length ≠ cs.length) : okRes cs rs = none := by
  cases q : okRes cs rs with
  | none => rfl
  | some ls => exact (h (okRes_some q).1).elim
/-! ### a picture that does not fit holds nothing -/
theorem heldL_at {ds : List FD} : ∀ {ps : List Pic} {ss : List SpT} {i : Nat} {p : Pic}, ps[i]? = some p → (heldL ds ps ss)[i]? = some (held ds p ((ss.drop (holesL (ps.take i))).take p.holes))
  | [], _, _, _, h => by simp at h
  | q :: ps, ss, 0, p, h => by
    have : q = p := by simpa using h
    subst this
    rfl
  | q :: ps, ss, i + 1, p, h => by
    show (heldL ds ps (ss.drop q.holes))[i]? = _
    rw [heldL_at (by simpa using h), List.drop_drop]
    rfl
theorem unfit_none {ds : List FD} (p : Pic) : fits ds p = false → ∀ ss, held ds p ss = none := by
  refine Pic.ind (P := fun p => fits ds p = false → ∀ ss, held ds p ss = none) (fun h => by cases h) (fun n ps ih h ss => ?_) p
  have h : (formed ds (.node n ps) && fitsL ds ps) = false := h
  cases e : formOf ds n with
  | none => simp [held, e]
  | some d =>
    rw [held_node e]
    by_cases l : d.2.2.length = ps.length
    · rw [formed_yes e, decide_eq_true l, Bool.true_and, fitsL_all, List.all_eq_false] at h
      obtain ⟨q, hq, uq⟩ := h
      obtain ⟨i, hi, ei⟩ := List.mem_iff_getElem.mp hq
      have hqi : ps[i]? = some q := by rw [List.getElem?_eq_getElem hi, ei]
      have ic : i < d.2.2.length := by omega
      rw [okRes_none (i := i) (c := d.2.2[i]) (List.getElem?_eq_getElem ic) fun s hs => ?_]
      · rfl
      · rw [heldL_at hqi, ih q hq (by simpa using uq)] at hs
        cases hs
    · rw [okRes_len (by rw [heldL_len]; exact fun z => l z.symm)]
      rfl
/-! ### trees set in -/
theorem fillL_len : ∀ {ps : List Pic} {ts : List Pic}, (fillL ps ts).length = ps.length
  | [], _ => rfl
  | p :: ps, ts => by
    show (fillL ps _).length + 1 = _
    rw [fillL_len]
    rfl
theorem spot_fill {b : Str} {ds : List FD} (p : Pic) : ∀ (ts : List Pic) (ss : List SpT), ts.length = p.holes → ts.map (spotT b ds) = ss.map some → spotT b ds (fill p ts) = held ds p ss := by
  refine Pic.ind (P := fun p => ∀ (ts : List Pic) (ss : List SpT), ts.length = p.holes → ts.map (spotT b ds) = ss.map some → spotT b ds (fill p ts) = held ds p ss) (fun ts ss l h => ?_) (fun n ps ih ts ss l h => ?_) p
  · match ts, ss, l, h with
    | [t], [s], _, h =>
      have h : spotT b ds t = some s := by simpa using h
      exact h
    | [t], [], _, h => simp at h
    | [t], _ :: _ :: _, _, h => simp at h
  · have all : ∀ (qs : List Pic) (ts : List Pic) (ss : List SpT), (∀ q ∈ qs, q ∈ ps) → ts.length = holesL qs → ts.map (spotT b ds) = ss.map some → spotTL b ds (fillL qs ts) = heldL ds qs ss := fun qs => by
      induction qs with
      | nil => intro _ _ _ _ _; rfl
      | cons q qs ihq =>
        intro ts ss sub l h
        have l : ts.length = q.holes + holesL qs := l
        show spotT b ds (fill q (ts.take q.holes)) :: spotTL b ds (fillL qs (ts.drop q.holes)) = held ds q (ss.take q.holes) :: heldL ds qs (ss.drop q.holes)
        rw [ih q (sub q (List.mem_cons_self ..)) (ts.take q.holes) (ss.take q.holes) (by rw [List.length_take]; omega) (by rw [List.map_take, List.map_take, h]),
          ihq (ts.drop q.holes) (ss.drop q.holes) (fun x hx => sub x (List.mem_cons_of_mem _ hx)) (by rw [List.length_drop]; omega) (by rw [List.map_drop, List.map_drop, h])]
    cases e : formOf ds n with
    | none => simp [held, fill, spotT, e]
    | some d =>
      show spotT b ds (.node n (fillL ps ts)) = _
      rw [spotT_node e, held_node e, all ps ts ss (fun q hq => hq) l h]
/-! ### the spots below a sound picture -/
theorem belowL_step {ds : List FD} {p : Pic} {ps : List Pic} {c : Str × Int} {cs : List (Str × Int)} {lv : Int} : belowL ds (p :: ps) (c :: cs) lv = (if isHole p = true then [(c.1, lv - c.2)] else below ds p (lv - c.2)) ++ belowL ds ps cs lv := rfl
theorem below_shift {ds : List FD} {m : Int} (p : Pic) : ∀ lv : Int, (below ds p lv).map (fun s => (s.1, s.2 + m)) = below ds p (lv + m) := by
  refine Pic.ind (P := fun p => ∀ lv : Int, (below ds p lv).map (fun s => (s.1, s.2 + m)) = below ds p (lv + m)) (fun lv => rfl) (fun n ps ih lv => ?_) p
  cases e : formOf ds n with
  | none => simp [below, e]
  | some d =>
    rw [below_node e, below_node e]
    have all : ∀ (qs : List Pic) (cs : List (Str × Int)), (∀ q ∈ qs, q ∈ ps) → (belowL ds qs cs lv).map (fun s => (s.1, s.2 + m)) = belowL ds qs cs (lv + m) := fun qs => by
      induction qs with
      | nil => intro _ _; rfl
      | cons q qs ihq =>
        intro cs sub
        cases cs with
        | nil => rfl
        | cons c cs =>
          rw [belowL_step, belowL_step, List.map_append, ihq cs fun x hx => sub x (List.mem_cons_of_mem _ hx)]
          have e2 : lv + m - c.2 = lv - c.2 + m := by omega
          by_cases hq : isHole q = true
          · rw [if_pos hq, if_pos hq, e2]
            rfl
          · rw [if_neg hq, if_neg hq, e2, ih q (sub q (List.mem_cons_self ..))]
    exact all ps d.2.2 fun q hq => hq
theorem all_head {ls : List Int} {x : Int} (l : 1 ≤ ls.length) (h : ∀ y ∈ ls, y = x) : sameL ls = true ∧ ls.headD 0 = x := by
  cases ls with
  | nil => simp at l
  | cons y ys =>
    have e := h y (List.mem_cons_self ..)
    refine ⟨List.all_eq_true.mpr fun z hz => decide_eq_true (by rw [h z (List.mem_cons_of_mem _ hz), e]), e⟩
/-- the sort of a picture's name -/
def topS' (ds : List FD) : Pic → Str
  | .hole => ""
  | .node n _ => match formOf ds n with
    | some d => d.2.1
    | none => ""
theorem sound_below {ds : List FD} (p : Pic) : p.Ok → sound ds p = true → ∀ lv : Int, (below ds p lv).length = p.holes ∧ held ds p (below ds p lv) = some (topS' ds p, lv) := by
  refine Pic.ind (P := fun p => p.Ok → sound ds p = true → ∀ lv : Int, (below ds p lv).length = p.holes ∧ held ds p (below ds p lv) = some (topS' ds p, lv)) (fun _ h => by cases h) (fun n ps ih ok h lv => ?_) p
  obtain ⟨wn, l2, l4, oks⟩ := ok_node ok
  obtain ⟨d, e, ld⟩ := formed_form (sound_formed h)
  have part : ∀ (i : Nat) (q : Pic) (c : Str × Int), ps[i]? = some q → d.2.2[i]? = some c → isHole q = true ∨ (sound ds q = true ∧ sortOk ds c.1 q = true) := fun i q c hq hc => by
    rw [sound_node e, Bool.and_eq_true, soundL_all] at h
    have hz : (List.zipWith (fun p (c : Str × Int) => soundP ds p c.1) ps d.2.2)[i]? = some (soundP ds q c.1) := by
      rw [List.getElem?_zipWith, hq, hc]
    have := List.all_eq_true.mp h.2 _ (List.mem_of_getElem? hz)
    have h2 : (isHole q || (sound ds q && sortOk ds c.1 q)) = true := this
    rw [Bool.or_eq_true, Bool.and_eq_true] at h2
    exact h2
  rw [below_node e, held_node e]
  have one : ∀ (q : Pic) (c : Str × Int), q ∈ ps → (isHole q = true ∨ (sound ds q = true ∧ sortOk ds c.1 q = true)) →
      (if isHole q = true then [(c.1, lv - c.2)] else below ds q (lv - c.2)).length = q.holes ∧ held ds q (if isHole q = true then [(c.1, lv - c.2)] else below ds q (lv - c.2)) = some (c.1, lv - c.2) := fun q c hq two => by
    cases q with
    | hole => exact ⟨rfl, rfl⟩
    | node m qs =>
      have two : sound ds (.node m qs) = true ∧ sortOk ds c.1 (.node m qs) = true := two.resolve_left fun z => by cases z
      obtain ⟨d', e', _⟩ := formed_form (sound_formed two.1)
      rw [if_neg (show ¬ isHole (.node m qs) = true from fun z => by cases z)]
      obtain ⟨h1, h2⟩ := ih _ hq (oks _ hq) two.1 (lv - c.2)
      refine ⟨h1, ?_⟩
      have es := two.2
      rw [sortOk_some e', decide_eq_true_eq] at es
      rw [h2]
      show some ((match formOf ds m with | some d => d.2.1 | none => ""), lv - c.2) = _
      rw [e']
      show some (d'.2.1, lv - c.2) = _
      rw [es]
  have all : ∀ (qs : List Pic) (cs : List (Str × Int)), (∀ q ∈ qs, q ∈ ps) → cs.length = qs.length → (∀ (i : Nat) (q : Pic) (c : Str × Int), qs[i]? = some q → cs[i]? = some c → isHole q = true ∨ (sound ds q = true ∧ sortOk ds c.1 q = true)) →
      (belowL ds qs cs lv).length = holesL qs ∧ okRes cs (heldL ds qs (belowL ds qs cs lv)) = some (cs.map fun _ => lv) := fun qs => by
    induction qs with
    | nil =>
      intro cs _ l _
      have : cs = [] := List.length_eq_zero_iff.mp l
      subst this
      exact ⟨rfl, rfl⟩
    | cons q qs ihq =>
      intro cs sub l two
      cases cs with
      | nil => simp at l
      | cons c cs =>
        obtain ⟨h1, h2⟩ := one q c (sub q (List.mem_cons_self ..)) (two 0 q c rfl rfl)
        obtain ⟨h3, h4⟩ := ihq cs (fun x hx => sub x (List.mem_cons_of_mem _ hx)) (by simpa using l) fun i q c h1 h2 => two (i + 1) q c (by simpa using h1) (by simpa using h2)
        rw [belowL_step]
        generalize (if isHole q = true then [(c.1, lv - c.2)] else below ds q (lv - c.2)) = A at h1 h2 ⊢
        refine ⟨by rw [List.length_append, h1, h3]; rfl, ?_⟩
        show okRes (c :: cs) (held ds q ((A ++ belowL ds qs cs lv).take q.holes) :: heldL ds qs ((A ++ belowL ds qs cs lv).drop q.holes)) = _
        rw [List.take_left' h1, List.drop_left' h1, h2]
        show (if c.1 = c.1 then (okRes cs (heldL ds qs (belowL ds qs cs lv))).map ((lv - c.2 + c.2) :: ·) else none) = _
        rw [if_pos rfl, h4, Int.sub_add_cancel]
        rfl
  obtain ⟨h1, h2⟩ := all ps d.2.2 (fun q hq => hq) ld part
  refine ⟨h1, ?_⟩
  rw [h2]
  obtain ⟨a1, a2⟩ := all_head (ls := d.2.2.map fun _ => lv) (x := lv) (by rw [List.length_map]; omega) fun y hy => by
    obtain ⟨_, _, rfl⟩ := List.mem_map.mp hy
    rfl
  show (if sameL _ = true then some (d.2.1, _) else none) = some ((match formOf ds n with | some d => d.2.1 | none => ""), lv)
  rw [if_pos a1, a2, e]
/-! ### one spot bent -/
theorem heldL_set {ds : List FD} : ∀ {ps : List Pic} {ss : List SpT} {k : Nat} {x : SpT}, k < holesL ps → ss.length = holesL ps → ∃ (i j : Nat) (q : Pic), ps[i]? = some q ∧ j < q.holes ∧ holesL (ps.take i) + j = k ∧
    heldL ds ps (ss.set k x) = (heldL ds ps ss).set i (held ds q (((ss.drop (holesL (ps.take i))).take q.holes).set j x))
  | [], _, k, _, h, _ => by cases h
  | p :: ps, ss, k, x, h, l => by
    have h : k < p.holes + holesL ps := h
    have l : ss.length = p.holes + holesL ps := l
    by_cases hk : k < p.holes
    · refine ⟨0, k, p, rfl, hk, by show 0 + k = k; omega, ?_⟩
      show held ds p ((ss.set k x).take p.holes) :: heldL ds ps ((ss.set k x).drop p.holes) = held ds p (((ss.drop 0).take p.holes).set k x) :: heldL ds ps (ss.drop p.holes)
      rw [List.take_set, List.drop_set_of_lt hk]
      rfl
    · obtain ⟨i, j, q, hq, hj, e1, e2⟩ := heldL_set (ds := ds) (ps := ps) (ss := ss.drop p.holes) (k := k - p.holes) (x := x) (by omega) (by rw [List.length_drop]; omega)
      refine ⟨i + 1, j, q, by simpa using hq, hj, by show p.holes + holesL (ps.take i) + j = k; omega, ?_⟩
      show held ds p ((ss.set k x).take p.holes) :: heldL ds ps ((ss.set k x).drop p.holes) = held ds p (ss.take p.holes) :: (heldL ds ps (ss.drop p.holes)).set i _
      have e3 : (ss.set k x).take p.holes = ss.take p.holes := by rw [List.take_set_of_le (by omega)]
      have e4 : (ss.set k x).drop p.holes = (ss.drop p.holes).set (k - p.holes) x := by rw [List.drop_set, if_neg (by omega)]
      rw [e3, e4, e2, List.drop_drop]
      rfl
theorem bent_none {ds : List FD} {z : Str} (hz : ∀ d ∈ ds, ∀ c ∈ d.2.2, c.1 ≠ z) (p : Pic) : p.Ok → ∀ (ss : List SpT) (k : Nat) (s x x' : SpT), ss.length = p.holes → held ds p ss = some s → ss[k]? = some x → (x'.1 = z ∨ x'.2 ≠ x.2) →
    (∀ s', held ds p (ss.set k x') = some s' → s'.1 = z ∨ s'.2 ≠ s.2) ∧ (isHole p = false → held ds p (ss.set k x') = none) := by
  refine Pic.ind (P := fun p => p.Ok → ∀ (ss : List SpT) (k : Nat) (s x x' : SpT), ss.length = p.holes → held ds p ss = some s → ss[k]? = some x → (x'.1 = z ∨ x'.2 ≠ x.2) →
    (∀ s', held ds p (ss.set k x') = some s' → s'.1 = z ∨ s'.2 ≠ s.2) ∧ (isHole p = false → held ds p (ss.set k x') = none)) (fun _ ss k s x x' l h hx bad => ?_) (fun n ps ih ok ss k s x x' l h hx bad => ?_) p
  · match ss, l with
    | [y], _ =>
      have kz : k = 0 := by
        have := (List.getElem?_eq_some_iff.mp hx).1
        simpa using this
      subst kz
      have e1 : y = x := by simpa using hx
      have e2 : y = s := by
        have h : some y = some s := h
        simpa using h
      subst e1
      subst e2
      refine ⟨fun s' h' => ?_, fun hh => by cases hh⟩
      have h' : some x' = some s' := h'
      cases h'
      exact bad
  · obtain ⟨wn, l2, l4, oks⟩ := ok_node ok
    have l : ss.length = holesL ps := l
    have none_ : held ds (.node n ps) (ss.set k x') = none := by
      cases e : formOf ds n with
      | none => simp [held, e]
      | some d =>
        rw [held_node e] at h ⊢
        have kl : k < holesL ps := by
          have := (List.getElem?_eq_some_iff.mp hx).1
          omega
        obtain ⟨i, j, q, hq, hj, ek, es⟩ := heldL_set (ds := ds) (ps := ps) (ss := ss) (k := k) (x := x') kl l
        rw [es]
        cases eo : okRes d.2.2 (heldL ds ps ss) with
        | none => rw [eo] at h; cases h
        | some ls =>
          obtain ⟨r1, r2, r3⟩ := okRes_some eo
          rw [heldL_len] at r1
          have ip := (List.getElem?_eq_some_iff.mp hq).1
          have ic : d.2.2[i]? = some (d.2.2[i]'(by omega)) := List.getElem?_eq_getElem _
          generalize d.2.2[i]'(by omega) = c at ic
          obtain ⟨s0, f1, f2, f3⟩ := r3 i c ic
          rw [heldL_at hq] at f1
          have f1 : held ds q ((ss.drop (holesL (ps.take i))).take q.holes) = some s0 := by simpa using f1
          have hm : holesL (ps.take i) + q.holes ≤ holesL ps := by
            rw [← holesL_take hq]
            exact holesL_le
          have hx2 : ((ss.drop (holesL (ps.take i))).take q.holes)[j]? = some x := by
            rw [List.getElem?_take, if_pos hj, List.getElem?_drop, ek]
            exact hx
          have hl2 : ((ss.drop (holesL (ps.take i))).take q.holes).length = q.holes := by
            rw [List.length_take, List.length_drop]
            omega
          have weak := (ih q (List.mem_of_getElem? hq) (oks q (List.mem_of_getElem? hq)) _ j s0 x x' hl2 f1 hx2 bad).1
          have cz : c.1 ≠ z := hz d (formOf_mem e).1 c (List.mem_of_getElem? ic)
          cases eo' : okRes d.2.2 ((heldL ds ps ss).set i (held ds q (((ss.drop (holesL (ps.take i))).take q.holes).set j x'))) with
          | none => rfl
          | some ls' =>
            obtain ⟨t1, t2, t3⟩ := okRes_some eo'
            obtain ⟨s1, g1, g2, g3⟩ := t3 i c ic
            have ih' : i < (heldL ds ps ss).length := by rw [heldL_len]; exact ip
            rw [List.getElem?_set_self ih'] at g1
            have g1 : held ds q (((ss.drop (holesL (ps.take i))).take q.holes).set j x') = some s1 := by simpa using g1
            have ne : s1.2 ≠ s0.2 := (weak s1 g1).resolve_left fun w => cz (g2.symm.trans w)
            -- another part
            have ⟨i2, hi2, ni2⟩ : ∃ i2, i2 < ps.length ∧ i2 ≠ i := by
              by_cases z0 : i = 0
              · exact ⟨1, by omega, by omega⟩
              · exact ⟨0, by omega, fun z => z0 z.symm⟩
            have ic2 : d.2.2[i2]? = some (d.2.2[i2]'(by omega)) := List.getElem?_eq_getElem _
            generalize d.2.2[i2]'(by omega) = c2 at ic2
            obtain ⟨s2, k1, k2, k3⟩ := r3 i2 c2 ic2
            obtain ⟨s3, m1, m2, m3⟩ := t3 i2 c2 ic2
            rw [List.getElem?_set_ne (fun z => ni2 z.symm), k1] at m1
            have m1 : s2 = s3 := by simpa using m1
            subst m1
            -- all alike before
            have same : ∀ y ∈ ls, ∀ y' ∈ ls, sameL ls = true → y = y' := fun y hy y' hy' hs => by
              cases ls with
              | nil => cases hy
              | cons u us =>
                have hs := List.all_eq_true.mp hs
                have a : ∀ w ∈ u :: us, w = u := fun w hw => by
                  rcases List.mem_cons.mp hw with rfl | hw
                  · rfl
                  · exact of_decide_eq_true (hs w hw)
                rw [a y hy, a y' hy']
            have same' : ∀ y ∈ ls', ∀ y' ∈ ls', sameL ls' = true → y = y' := fun y hy y' hy' hs => by
              cases ls' with
              | nil => cases hy
              | cons u us =>
                have hs := List.all_eq_true.mp hs
                have a : ∀ w ∈ u :: us, w = u := fun w hw => by
                  rcases List.mem_cons.mp hw with rfl | hw
                  · rfl
                  · exact of_decide_eq_true (hs w hw)
                rw [a y hy, a y' hy']
            rw [eo] at h
            have hs : sameL ls = true := by
              cases q : sameL ls with
              | true => rfl
              | false =>
                have h : (if sameL ls = true then some (d.2.1, ls.headD 0) else none) = some s := h
                rw [q, if_neg (by simp)] at h
                cases h
            show (if sameL ls' = true then some (d.2.1, ls'.headD 0) else none) = none
            refine if_neg fun hs' => ?_
            have a1 := same _ (List.mem_of_getElem? f3) _ (List.mem_of_getElem? k3) hs
            have a2 := same' _ (List.mem_of_getElem? g3) _ (List.mem_of_getElem? m3) hs'
            omega
    exact ⟨fun s' h' => (by rw [none_] at h'; cases h'), fun _ => none_⟩
end K11
set_option Elab.async false
set_option linter.all false
set_option autoImplicit false
set_option maxRecDepth 100000
set_option maxHeartbeats 4000000
/-! Og: expressions that yield such data; what is tracked stays. -/
namespace Og
open PySem PySem.Spec PyProof.Rows L2 Vb Wd Of
def Yd (t : TE) (σ : L2.St) (H : Hp) (d : PyData) : Prop := ∀ H1 Q, Same H H1 → (∀ v H', Same H1 H' → Dt H' v d → Q v H') → t σ H1 Q
def YdN (t : TE) (σ : L2.St) (H : Hp) (ds : List PyData) : Prop := ∀ H1 Q, Same H H1 → (∀ p Hb xs, Same H1 Hb → Hb p = none → DtAll Hb xs ds → Q (.ref p) (upd Hb p (.lst xs))) → t σ H1 Q
def YdA (t : TA) (σ : L2.St) (H : Hp) (ds : List PyData) : Prop := ∀ H1 Q, Same H H1 → (∀ vs H', Same H1 H' → DtAll H' vs ds → Q vs H') → t σ H1 Q
section
variable {σ : L2.St} {H : Hp}
theorem yd_nil : YdA tNil σ H [] := fun H1 Q s k => k [] H1 (Same.refl _) .nil
theorem yd_cons {t : TE} {ts : TA} {d : PyData} {ds : List PyData} (a : Yd t σ H d) (b : YdA ts σ H ds) : YdA (tCons t ts) σ H (d :: ds) := fun H1 Q s k =>
  a H1 _ s fun v H2 s2 h2 => b H2 _ (s.trans s2) fun vs H3 s3 h3 => k (v :: vs) H3 (s2.trans s3) (.cons (Dt.same s3 d v h2) h3)
theorem yd_str {x : Str} : Yd (tC (.str x)) σ H (.str x) := fun H1 Q s k => k _ H1 (Same.refl _) (.str x)
theorem yd_int {i : Int} : Yd (tC (.int i)) σ H (.int i) := fun H1 Q s k => k _ H1 (Same.refl _) (.int i)
theorem yd_non : Yd (tC .non) σ H .none := fun H1 Q s k => k _ H1 (Same.refl _) .non
theorem yd_bl {b : Bool} : Yd (tC (.bl b)) σ H (.bool b) := fun H1 Q s k => k _ H1 (Same.refl _) (.bl b)
theorem yd_var {i : Nat} {v : V} {d : PyData} (h : σ[i]? = some (some v)) (r : Dt H v d) : Yd (tVar i) σ H d := fun H1 Q s k => ⟨v, h, k v H1 (Same.refl _) (Dt.same s d v r)⟩
theorem yd_lst {t : TA} {ds : List PyData} (g : YdA t σ H ds) (few : ds.length ≤ sizeLine) : YdN (tLst t) σ H ds := fun H1 Q s k =>
  g H1 _ s fun vs H2 s2 h2 => ⟨by rw [h2.len]; exact few, fun p np => k p H2 vs s2 np h2⟩
theorem yd_tup {t : TA} {ds : List PyData} (g : YdA t σ H ds) (few : ds.length ≤ sizeLine) : Yd (tTup t) σ H (.tuple ds) := fun H1 Q s k =>
  g H1 _ s fun vs H2 s2 h2 => ⟨by rw [h2.len]; exact few, fun p np => k (.ref p) _ (s2.trans (same_new np)) (.tup upd_same (DtAll.same (same_new np) ds vs h2))⟩
theorem YdN.data {t : TE} {ds : List PyData} (g : YdN t σ H ds) : Yd t σ H (.list ds) := fun H1 Q s k =>
  g H1 _ s fun p Hb xs s2 np h => k (.ref p) _ (s2.trans (same_new np)) (.lst upd_same (DtAll.same (same_new np) ds xs h))
theorem Yd.at {t : TE} {d : PyData} {Q : VK} (g : Yd t σ H d) (k : ∀ v H', Same H H' → Dt H' v d → Q v H') : t σ H Q := g H _ (Same.refl _) k
theorem YdN.at {t : TE} {ds : List PyData} {Q : VK} (g : YdN t σ H ds) (k : ∀ p Hb xs, Same H Hb → Hb p = none → DtAll Hb xs ds → Q (.ref p) (upd Hb p (.lst xs))) : t σ H Q := g H _ (Same.refl _) k
theorem asg_yd {te : TE} {g : TG} {rest : TS} {D : Ends} {d : PyData} (G : Yd te σ H d) (k : ∀ v H', Same H H' → Dt H' v d → g v σ H' (fun σ2 H2 => rest D σ2 H2)) : tSeq (tAsg te g) rest D σ H := G H _ (Same.refl _) k
theorem asg_at {te : TE} {g : TG} {rest : TS} {D : Ends} (h : te σ H fun v H' => g v σ H' (fun σ2 H2 => rest D σ2 H2)) : tSeq (tAsg te g) rest D σ H := h
end
end Og
set_option Elab.async false
set_option linter.all false
set_option autoImplicit false
set_option maxRecDepth 100000
set_option maxHeartbeats 4000000
/-! Oh: tuples of such data cut and joined. -/
namespace Oh
open PySem PySem.Spec PyProof.Rows L2 Vb Wd Of Og
def cutP (ds : List PyData) (lo hi : Option Int) : List PyData := (ds.drop (HT.sIx ds.length 0 lo)).take (HT.sIx ds.length ds.length hi - HT.sIx ds.length 0 lo)
theorem DtAll.drop {H : Hp} : ∀ (n : Nat) {xs : List V} {ds : List PyData}, DtAll H xs ds → DtAll H (xs.drop n) (ds.drop n)
  | 0, _, _, h => h
  | n + 1, _, _, .nil => .nil
  | n + 1, _, _, .cons _ t => DtAll.drop n t
theorem DtAll.take {H : Hp} : ∀ (n : Nat) {xs : List V} {ds : List PyData}, DtAll H xs ds → DtAll H (xs.take n) (ds.take n)
  | 0, _, _, _ => .nil
  | n + 1, _, _, .nil => .nil
  | n + 1, _, _, .cons q t => .cons q (DtAll.take n t)
theorem DtAll.cut {H : Hp} {xs : List V} {ds : List PyData} (h : DtAll H xs ds) (lo hi : Option Int) : DtAll H (cutV xs lo hi) (cutP ds lo hi) := by
  unfold cutV cutP
  rw [h.len]
  exact DtAll.take _ (DtAll.drop _ h)
theorem dt_tup {H : Hp} {v : V} {ds : List PyData} (h : Dt H v (.tuple ds)) : ∃ a xs, v = .ref a ∧ H a = some (.tup xs) ∧ DtAll H xs ds := by
  cases h with
  | tup e al => exact ⟨_, _, rfl, e, al⟩
/-- a part of a slice that is known -/
def Po (t : TO) (σ : L2.St) (o : Option Int) : Prop := ∀ (H : Hp) (Q : Option Int → Hp → Prop), Q o H → t σ H Q
section
variable {K : PySem.W.Frag} {σ : L2.St} {H : Hp}
theorem po_no : Po tNoPart σ none := fun _ _ q => q
theorem po_v {k : Nat} {i : Int} (h : σ[k]? = some (some (.int i))) : Po (tPart (tVar k)) σ (some i) := fun _ _ q => ⟨.int i, h, i, rfl, q⟩
theorem po_v1 {k : Nat} {i j : Int} (h : σ[k]? = some (some (.int i))) : Po (tPart (tOp (rI0 fun i j => .int (i + j)) (tVar k) (tC (.int j)))) σ (some (i + j)) := fun _ _ q => ⟨.int i, h, i, j, rfl, rfl, i + j, rfl, q⟩
theorem yd_sl {te : TE} {tl th : TO} {ds : List PyData} {lo hi : Option Int} (g : Yd te σ H (.tuple ds)) (l : Po tl σ lo) (h : Po th σ hi) : Yd (tSl (rSlA K) te tl th) σ H (.tuple (cutP ds lo hi)) := fun H1 Q s k =>
  g H1 _ s fun v H2 s2 kd => l H2 _ (h H2 _ (by
    obtain ⟨a, xs, rfl, e, al⟩ := dt_tup kd
    refine ⟨a, xs, rfl, .inl (.inl e), fun ⟨w1, w2⟩ => ?_, fun _ p np => ?_⟩
    · have : cutP ds lo hi = ds := by
        unfold cutP
        rw [al.len] at w1 w2
        rw [w1, w2, List.drop_zero, Nat.sub_zero, List.take_length]
      rw [this] at k
      exact k _ H2 s2 (.tup e al)
    · have sp := same_new (o := .tup (cutV xs lo hi)) np
      exact k _ _ (s2.trans sp) (.tup upd_same (DtAll.same sp _ _ (DtAll.cut al lo hi)))))
theorem yd_catA {te tu : TE} {ds es : List PyData} (g : Yd te σ H (.tuple ds)) (g' : Yd tu σ H (.tuple es)) (few : ds.length + es.length ≤ sizeLine) : Yd (tOp (rCatA K) te tu) σ H (.tuple (ds ++ es)) := fun H1 Q s k =>
  g H1 _ s fun v H2 s2 kd => g' H2 _ (s.trans s2) fun u H3 s3 ke => by
    obtain ⟨a, xs, rfl, e, al⟩ := dt_tup kd
    obtain ⟨b, ys, rfl, e', al'⟩ := dt_tup ke
    have al3 := DtAll.same s3 ds xs al
    refine ⟨a, b, xs, ys, rfl, rfl, .inl (.inl (s3 _ _ e)), .inl (.inl e'), by rw [al.len, al'.len]; exact few, fun z => ?_, fun _ z => ?_, fun _ _ p np => ?_⟩
    · subst z
      have : ds = [] := List.length_eq_zero_iff.mp al.len.symm
      rw [this, List.nil_append] at k
      exact k _ H3 (s2.trans s3) (.tup e' al')
    · subst z
      have : es = [] := List.length_eq_zero_iff.mp al'.len.symm
      rw [this, List.append_nil] at k
      exact k _ H3 (s2.trans s3) (.tup (s3 _ _ e) al3)
    · have sp := same_new (o := .tup (xs ++ ys)) np
      exact k _ _ ((s2.trans s3).trans sp) (.tup upd_same (DtAll.same sp _ _ (al3.app al')))
end
end Oh
set_option Elab.async false
set_option linter.all false
set_option autoImplicit false
set_option maxRecDepth 100000
set_option maxHeartbeats 4000000
/-! Zt: what stays while dice, lists and dicts change: tuples; small helps. -/
namespace Zt
open PySem PySem.Spec PyProof.Rows L2 Vb Wd
/-- all tuples stay -/
def Tups (H H' : Hp) : Prop := ∀ b xs, H b = some (.tup xs) → H' b = some (.tup xs)
theorem Tups.refl (H : Hp) : Tups H H := fun _ _ e => e
theorem Tups.trans {H H1 H2 : Hp} (s : Tups H H1) (t : Tups H1 H2) : Tups H H2 := fun b xs e => t b xs (s b xs e)
theorem Tups.of {H H1 : Hp} (s : Same H H1) : Tups H H1 := fun b xs e => s b _ e
theorem Tups.past {d : Addr} {H H1 : Hp} (hd : Dice H d) (p : Past d H H1) : Tups H H1 := fun b xs e => p.1 b _ (fun z => by
  obtain ⟨g, s, c, q⟩ := hd
  rw [z, q] at e
  cases e) e
theorem Tups.put {H : Hp} {a : Addr} (o : HO) (n : ∀ xs, H a ≠ some (.tup xs)) : Tups H (upd H a o) := fun b xs e => by
  have ne : b ≠ a := fun z => by
    rw [z] at e
    exact n xs e
  rw [upd_ne ne]
  exact e
theorem Tups.putL {H : Hp} {a : Addr} {ys : List V} (o : HO) (h : H a = some (.lst ys)) : Tups H (upd H a o) := Tups.put o fun xs e => by
  rw [h] at e
  cases e
theorem Tups.putD {H : Hp} {a : Addr} {kvs : List (L2.Key × V)} (o : HO) (h : H a = some (.dK kvs)) : Tups H (upd H a o) := Tups.put o fun xs e => by
  rw [h] at e
  cases e
theorem Tups.new {H : Hp} {a : Addr} (o : HO) (h : H a = none) : Tups H (upd H a o) := Tups.put o fun xs e => by
  rw [h] at e
  cases e
/-- a new thing changes, the dice roll -/
theorem past_put {d D : Addr} {H H' : Hp} {o : HO} (nD : H D = none) (ne : D ≠ d) (p : Past d H H') : Past d H (upd H' D o) := by
  obtain ⟨k, g, s, c, q⟩ := p
  refine ⟨fun b x n e => ?_, g, s, c, ?_⟩
  · rw [upd_ne (ne_of_none e nD)]
    exact k b x n e
  · rw [upd_ne ne.symm]
    exact q
theorem nat_of {r : Int} (h : 0 ≤ r) : ∃ k : Nat, r = k := ⟨r.toNat, (Int.toNat_of_nonneg h).symm⟩
theorem fresh_of {d p : Addr} {H H' : Hp} (q : Past d H H') (n : H' p = none) (ne : p ≠ d) : H p = none := by
  cases z : H p with
  | none => rfl
  | some o =>
    rw [q.1 _ _ ne z] at n
    cases n
theorem units65 {k : Nat} {A : Around} (r : Room k A) : A.units + 65 < cLine := by
  have := r.un
  omega
theorem ne_dice {d a : Addr} {H : Hp} {o : HO} (hd : Dice H d) (e : H a = some o) (n : ∀ g s c, o ≠ dz g s c) : a ≠ d := fun z => by
  obtain ⟨g, s, c, q⟩ := hd
  rw [z, q] at e
  cases e
  exact n g s c rfl
/-- a new thing, by a name for the heap -/
theorem opened {d p : Addr} {H : Hp} (hd : Dice H d) (np : H p = none) (o : HO) : ∃ H1, upd H p o = H1 ∧ Past d H H1 ∧ H1 p = some o ∧ p ≠ d := ⟨_, rfl, Past.new hd np, upd_same, hd.ne np⟩
/-- .. right behind a name was given a value -/
theorem name_join {s u : TS} {D : Ends} {σ : L2.St} {H : Hp} {i : Nat} {x : V} (I : L2.St → Hp → Prop) (hs : ∀ nx : L2.St → Hp → Prop, (∀ σ H, I σ H → nx σ H) → s { D with nx := nx } (σ.set i (some x)) H) (hu : ∀ σ H, I σ H → u D σ H) {rt : VK} {bk ct : L2.St → Hp → Prop} : gName i x σ H (Ends.mk (tSeq s u D) rt bk ct).nx := hs _ hu
/-! ### data that can be compared -/
def Lays (n : Nat) (d : PyData) : Prop := d.canLay0 = true ∧ d.depth ≤ n
theorem Lays.le {n m : Nat} {d : PyData} (h : Lays n d) (l : n ≤ m) : Lays m d := ⟨h.1, Nat.le_trans h.2 l⟩
theorem lays_str {z : Str} (a : Asc z) : Lays 0 (.str z) := ⟨by
  show z.cps.all (· < 0x110000) = true
  rw [← Array.all_toList, List.all_eq_true]
  exact fun c hc => decide_eq_true (Nat.lt_trans (a c hc) (by decide)), Nat.le_refl _⟩
theorem lays_int (i : Int) : Lays 0 (.int i) := ⟨rfl, Nat.le_refl _⟩
theorem lays_all {n : Nat} : ∀ {ds : List PyData}, (∀ d ∈ ds, Lays n d) → PyData.canLayAll0 ds = true ∧ PyData.depthAll ds ≤ n
  | [], _ => ⟨rfl, Nat.zero_le _⟩
  | d :: ds, h => by
    obtain ⟨h1, h2⟩ := h d List.mem_cons_self
    obtain ⟨h3, h4⟩ := lays_all fun x hx => h x (List.mem_cons_of_mem _ hx)
    refine ⟨?_, ?_⟩
    · show (PyData.canLay0 d && PyData.canLayAll0 ds) = true
      rw [h1, h3]
      rfl
    · show max (PyData.depth d) (PyData.depthAll ds) ≤ n
      omega
theorem lays_tup {n : Nat} {ds : List PyData} (h : ∀ d ∈ ds, Lays n d) : Lays (n + 1) (.tuple ds) := ⟨(lays_all h).1, Nat.succ_le_succ (lays_all h).2⟩
theorem lays_lst {n : Nat} {ds : List PyData} (h : ∀ d ∈ ds, Lays n d) : Lays (n + 1) (.list ds) := ⟨(lays_all h).1, Nat.succ_le_succ (lays_all h).2⟩
theorem Lays.shaped {n : Nat} {d : PyData} (h : Lays n d) (l : n ≤ 64) : SeqAt.shaped d = true := by
  show (PyData.canLay0 d && decide (PyData.depth d ≤ 64)) = true
  rw [h.1, Bool.true_and]
  exact decide_eq_true (Nat.le_trans h.2 l)
/-- one of some small numbers -/
theorem pick_nat {xs : List Int} {lo hi : Nat} (h : (xs.all fun x => decide ((lo : Int) ≤ x) && decide (x ≤ (hi : Int))) = true) : ∀ v ∈ xs.map V.int, ∃ m : Nat, v = .int m ∧ lo ≤ m ∧ m ≤ hi := fun v hv => by
  obtain ⟨x, hx, rfl⟩ := List.mem_map.mp hv
  have q := List.all_eq_true.mp h x hx
  rw [Bool.and_eq_true, decide_eq_true_eq, decide_eq_true_eq] at q
  obtain ⟨m, rfl⟩ := nat_of (r := x) (by omega)
  exact ⟨m, rfl, by omega, by omega⟩
end Zt
set_option Elab.async false
set_option linter.all false
set_option autoImplicit false
set_option maxRecDepth 100000
set_option maxHeartbeats 4000000
/-! Ot: data of tuples, texts, numbers: they stay where tuples stay. -/
namespace Ot
open PySem PySem.Spec PyProof.Rows L2 Vb Zt Of Oh
mutual
def onlyT : PyData → Bool
  | .none => true
  | .bool _ => true
  | .int _ => true
  | .str _ => true
  | .tuple ds => onlyTs ds
  | _ => false
def onlyTs : List PyData → Bool
  | [] => true
  | d :: ds => onlyT d && onlyTs ds
end
theorem onlyTs_all : ∀ ds : List PyData, onlyTs ds = ds.all onlyT
  | [] => rfl
  | d :: ds => by
    show (onlyT d && onlyTs ds) = _
    rw [onlyTs_all ds]
    rfl
mutual
theorem Dt.tups {H H' : Hp} (k : Tups H H') : ∀ (d : PyData) (v : V), onlyT d = true → Dt H v d → Dt H' v d
  | .none, _, _, h => by
    cases h
    exact .non
  | .bool b, _, _, h => by
    cases h
    exact .bl b
  | .int i, _, _, h => by
    cases h
    exact .int i
  | .str z, _, _, h => by
    cases h
    exact .str z
  | .tuple ds, _, o, h => by
    cases h with
    | tup e a => exact .tup (k _ _ e) (DtAll.tups k ds _ o a)
  | .list _, _, o, _ => by cases o
  | .dict _, _, o, _ => by cases o
theorem DtAll.tups {H H' : Hp} (k : Tups H H') : ∀ (ds : List PyData) (vs : List V), onlyTs ds = true → DtAll H vs ds → DtAll H' vs ds
  | [], _, _, h => by
    cases h
    exact .nil
  | d :: ds, _, o, h => by
    have o : (onlyT d && onlyTs ds) = true := o
    rw [Bool.and_eq_true] at o
    cases h with
    | cons a b => exact .cons (Dt.tups k d _ o.1 a) (DtAll.tups k ds _ o.2 b)
end
theorem DtAll.of {H : Hp} : ∀ {xs : List V} {ds : List PyData}, xs.length = ds.length → (∀ (i : Nat) (x : V) (d : PyData), xs[i]? = some x → ds[i]? = some d → Dt H x d) → DtAll H xs ds
  | [], [], _, _ => .nil
  | [], _ :: _, l, _ => by simp at l
  | _ :: _, [], l, _ => by simp at l
  | x :: xs, d :: ds, l, h => .cons (h 0 x d rfl rfl) (DtAll.of (by simpa using l) fun i y e h1 h2 => h (i + 1) y e (by simpa using h1) (by simpa using h2))
theorem DtAll.at {H : Hp} {xs : List V} {ds : List PyData} (h : DtAll H xs ds) {i : Nat} {d : PyData} (hd : ds[i]? = some d) : ∃ x, xs[i]? = some x ∧ Dt H x d := by
  have il : i < xs.length := by
    rw [h.len]
    exact (List.getElem?_eq_some_iff.mp hd).1
  obtain ⟨d', e, k⟩ := h.get (List.getElem?_eq_getElem il)
  rw [hd] at e
  cases e
  exact ⟨_, List.getElem?_eq_getElem il, k⟩
/-- a spot -/
def spP (s : Str × Int) : PyData := .tuple [.str s.1, .int s.2]
theorem spP_only (ss : List (Str × Int)) : onlyTs (ss.map spP) = true := by
  rw [onlyTs_all, List.all_eq_true]
  intro d hd
  obtain ⟨s, _, rfl⟩ := List.mem_map.mp hd
  rfl
theorem spP_inv {H : Hp} {v : V} {s : Str × Int} (h : Dt H v (spP s)) : ∃ t, v = .ref t ∧ H t = some (.tup [.str s.1, .int s.2]) := by
  obtain ⟨a, xs, rfl, ha, al⟩ := dt_tup h
  cases al with
  | cons x al =>
    cases al with
    | cons y al =>
      cases al
      cases x
      cases y
      exact ⟨a, rfl, ha⟩
theorem spP_mk {H : Hp} {t : Addr} {s : Str × Int} (h : H t = some (.tup [.str s.1, .int s.2])) : Dt H (.ref t) (spP s) := .tup h (.cons (.str _) (.cons (.int _) .nil))
/-- a spot or None -/
def spO : Option (Str × Int) → PyData
  | none => .none
  | some s => spP s
end Ot
set_option Elab.async false
set_option linter.all false
set_option autoImplicit false
set_option maxRecDepth 100000
set_option maxHeartbeats 4000000
namespace K11
open PySem PySem.Spec PyProof.Rows L2 Vb Wd Xd Xo Xv SX Pc Zc Oi RZ Zt Of Oh Ot
/-- what is below a picture, spot by spot -/
def spBelow (C CS CP : Addr) (n : Nat) : Sp := fun vs H Q _ => ∃ (a : Addr) (b : Str) (ys : List Str) (ds : List FD) (p : Pic) (v : V) (lv : Int), vs = [.ref a, v, .int lv] ∧ SchemeAt H C CS a b ys ds ∧ PicAt H CP p v ∧ p.Ok ∧ p.lev < n ∧ p.lev ≤ 4 ∧ sound ds p = true ∧
  ∀ l xs H', Same H H' → H l = none → H' l = some (.lst xs) → DtAll H' xs ((below ds p lv).map spP) → Q (.ref l) H'
theorem belowL_snoc {ds : List FD} {lv : Int} {p : Pic} {c : Str × Int} : ∀ {ps : List Pic} {cs : List (Str × Int)}, ps.length = cs.length → belowL ds (ps ++ [p]) (cs ++ [c]) lv = belowL ds ps cs lv ++ (if isHole p = true then [(c.1, lv - c.2)] else below ds p (lv - c.2))
  | [], [], _ => by
    show (if isHole p = true then [(c.1, lv - c.2)] else below ds p (lv - c.2)) ++ [] = [] ++ _
    rw [List.append_nil, List.nil_append]
  | [], _ :: _, h => by simp at h
  | _ :: _, [], h => by simp at h
  | q :: ps, c' :: cs, h => by
    show (if isHole q = true then [(c'.1, lv - c'.2)] else below ds q (lv - c'.2)) ++ belowL ds (ps ++ [p]) (cs ++ [c]) lv = ((if isHole q = true then [(c'.1, lv - c'.2)] else below ds q (lv - c'.2)) ++ belowL ds ps cs lv) ++ _
    rw [belowL_snoc (by simpa using h), List.append_assoc]
section
variable {P : Program} {w : World} {K : PySem.W.Frag} {mg : Str → Option Value} {base : Heap} {C CS CU CP CI : Addr}
theorem ok_below (D : Df K mg "_spots_below" s_spots_below ["scheme", "picture", "level"]) (W : EnvW P w K mg base C CS CU) (VQ : EnvQ P w K mg base CP) (z_zip : mg "zip" = none) : ∀ n, Cg P w K mg base (7 + n) "_spots_below" (spBelow C CS CP n)
  | 0 => by
    obtain ⟨f, fd, F, m, b⟩ := D
    exact ⟨f, fd, _, ⟨fun vs H Q E h => by obtain ⟨_, _, _, _, p, _, _, _, _, _, _, l, _⟩ := h; omega, fun A outer s H args us vs Q E hc hr e0 hb r h => by obtain ⟨_, _, _, _, p, _, _, _, _, _, _, l, _⟩ := h; omega⟩, m, F.kp, b⟩
  | n + 1 => by
    have IH := ok_below D W VQ z_zip n
    obtain ⟨p1, g1, fd1, o1, G1, b1⟩ := VQ.TP.get ("called", "_called") (by simp)
    obtain ⟨p3, g3, fd3, o3, G3, b3⟩ := VQ.TP.get ("parts", "_parts") (by simp)
    obtain ⟨p2, g2, fd2, o2, G2, b2⟩ := W.TP.get ("children", "_children") (by simp)
    obtain ⟨fI, fdI, FI, eI, nI, tI, bI⟩ := W.item
    refine D.ok (k := 7 + n) sc_spots_below (fun vs H Q E h => ?_) (fun cdv A outer s H vs Q E f0 hc hr h => ?_)
    · obtain ⟨a, b, ys, ds, p, v, lv, rfl, _⟩ := h
      rfl
    · obtain ⟨a, b, ys, ds, p, v, lv, rfl, SA, PA, ok, ln, l4, sd, q⟩ := h
      have hr7 := hr.mono (show 7 ≤ 7 + n by omega)
      refine ⟨_, (pss_cons (ps_set (i := 3) sc_spots_below.nd rfl (Or.inl rfl) (pe_lst pa_nil))
      (pss_cons (ps_for PassesOwn.never rfl (pi_zipA (by rfl) z_zip (pa_cons (pe_propG (n := "parts") (pv 1) VQ.T.c o3 G3 hc (hr7.mono (by decide)) b3) (pa_cons (pe_propG (n := "children") (pe_itemO (E := fun _ _ _ => False) (W := fun _ _ _ _ => False) (pv 0) (pe_propG (n := "called") (pv 1) VQ.T.c o1 G1 hc (hr7.mono (by decide)) b1) FI eI nI tI bI hc (hr7.mono (by decide)) LamX.takes0 (fun _ _ _ _ z => z)) W.TF.c o2 G2 hc (hr7.mono (by decide)) b2) pa_nil)))
        (pg_tup (by rfl) (pgs_cons (pg_name (i := 4) sc_spots_below.nd rfl (Or.inl rfl)) (pgs_cons (pg_tup (by rfl) (pgs_cons (pg_name (i := 5) sc_spots_below.nd rfl (Or.inl rfl)) (pgs_cons (pg_name (i := 6) sc_spots_below.nd rfl (Or.inl rfl)) pgs_nil))) pgs_nil)))
      (pss_one (ps_if (pt_cmpR op_isN (pe_propG (n := "called") (pv 4) VQ.T.c o1 G1 hc (hr7.mono (by decide)) b1) pe_non (nomark _))
      (pss_one (ps_expr (pe_bm PySem.F.plainAttrs_list PySem.F.slot_list_append PySem.F.type_list_append mt_append (pv 3) (pa_cons (pe_tup (pa_cons (pv 5) (pa_cons (pe_op op_sub (pv 2) (pv 6)) pa_nil))) pa_nil))))
      (pss_one (ps_expr (pe_bm PySem.F.plainAttrs_list PySem.F.slot_list_extend PySem.F.type_list_extend mt_extend (pv 3) (pa_cons (pe_cg IH hc hr (by rfl) (pa_cons (pv 0) (pa_cons (pv 4) (pa_cons (pe_op op_sub (pv 2) (pv 6)) pa_nil))) (Nat.le_refl _)) pa_nil)))))))
      (pss_one (ps_ret (pv 3))))), ?_⟩
      cases p with
      | hole => cases sd
      | node n' ps =>
      have fm := sound_formed sd
      obtain ⟨d, ef, dl⟩ := formed_form fm
      obtain ⟨dm, de⟩ := formOf_mem ef
      refine ⟨by show 0 ≤ sizeLine; decide, fun l nl => ?_⟩
      have sl := same_new (o := .lst []) nl
      have PA1 := PA.keep (KeepP.of sl) _ _
      have SA1 := SA.same sl
      have el : (upd H l (.lst [])) l = some (.lst []) := upd_same
      generalize upd H l (.lst []) = H1 at sl PA1 SA1 el ⊢
      obtain ⟨x, dx, pt, nt, ws, rfl, h1, h2, h3, h4⟩ := PA1.ex
      have SA1' := SA1
      obtain ⟨dxs, t, bn, nm, f, so', kvs, fs, zs, ha, ht, hn, hf, FF, hb, hv, hs, mz, srt, nd⟩ := SA1'.ex
      refine ⟨_, rfl, x, dx, _, rfl, h1, x, dx, _, .ref pt, rfl, h1, by rfl, _, rfl, _, rfl, x, dx, _, rfl, h1, x, dx, _, .str (S n'), rfl, h1, by rfl, a, dxs, _, rfl, ha, a, b, ys, ds, .str (S n'), rfl, SA1, .inl rfl, fun d' x' ch ks hd' e FA => ?_, fun no => ?_⟩
      · have ed : d' = d := once_name SA.once hd' dm (by rw [de]; exact (V.str.inj e).symm)
        subst ed
        obtain ⟨⟨dx', fa⟩, kk⟩ := FA
        have kl := kk.len
        have wl : ws.length = ps.length := h4.len
        have k4 := kk.hi
        have big : ∀ {n : Nat}, n ≤ 600 → n < sizeLine := fun h => Nat.lt_of_le_of_lt h (by decide)
        have h256 := holes256 ok l4
        have hps : (Pic.node n' ps).holes = holesL ps := rfl
        refine ⟨x', dx', _, rfl, fa, x', ch, dx', _, _, .ref ch, rfl, fa, by rfl, pt, ch, ws, ks.map V.ref, rfl, .inr ⟨.inl (.inl h2), .inl (.inl kk.at_), ?_⟩⟩
        refine for_zipT (K := K) (a := pt) (b := ch) (xs := ws) (ys := ks.map V.ref) (by rw [List.length_map]; omega) (fun i σ H' => (∃ o4 o5 o6 : Option V, σ = [some (.ref a), some (.ref x), some (.int lv), some (.ref l), o4, o5, o6]) ∧ (∀ b o, b ≠ l → H1 b = some o → H' b = some o) ∧ ∃ xs, H' l = some (.lst xs) ∧ xs.length = holesL (ps.take i) ∧ DtAll H' xs ((belowL ds (ps.take i) (d'.2.2.take i) lv).map spP))
          ⟨⟨none, none, none, rfl⟩, fun _ _ _ e => e, [], el, rfl, .nil⟩ (fun i σ H' h => ?_) (fun i y1 y2 T σ H2 hy1 hy2 h nT => ?_) (fun σ H2 h => ?_)
        · have s2 : Same H H' := fun b o hb => h.2.1 _ _ (ne_of_none hb nl) (sl _ _ hb)
          have lpt : pt ≠ l := fun z => by rw [z, el] at h2; cases h2
          have lch : ch ≠ l := fun z => by
            have q := kk.at_
            rw [z, el] at q
            cases q
          exact ⟨.inl (.inl (h.2.1 _ _ lpt h2)), .inl (.inl (h.2.1 _ _ lch kk.at_))⟩
        · obtain ⟨⟨o4, o5, o6, rfl⟩, k2, xs, e2, xl, dx2⟩ := h
          have k1 : KeepP H1 H2 := fun b o hb kd => k2 _ _ (fun z => by
            rw [z, el] at hb
            cases hb
            rcases kd with ⟨_, _, _, z, _⟩ | ⟨_, z⟩ <;> cases z) hb
          have s2 : Same H H2 := fun b o hb => k2 _ _ (ne_of_none hb nl) (sl _ _ hb)
          rw [List.getElem?_map] at hy2
          obtain ⟨t1, ht1, rfl⟩ := Option.map_eq_some_iff.mp hy2
          obtain ⟨⟨c1, c2⟩, hc', kt⟩ := kk.get ht1
          have il : i < ps.length := by
            have := (List.getElem?_eq_some_iff.mp hy1).1
            omega
          have hp : ps[i]? = some ps[i] := List.getElem?_eq_getElem il
          have pi := (h4.get hp hy1).keep k1
          have pm : ps[i] ∈ (Pic.node n' ps).parts := List.getElem_mem il
          have lp := lev_part pm
          have okp := ok_part ok pm
          have hor := sound_part sd ef hp
          have hh := holesL_take hp
          have hle := holesL_le (ps := ps) (i := i + 1)
          have ebl : belowL ds (ps.take (i + 1)) (d'.2.2.take (i + 1)) lv = belowL ds (ps.take i) (d'.2.2.take i) lv ++ (if isHole ps[i] = true then [(c1, lv - c2)] else below ds ps[i] (lv - c2)) := by
            rw [List.take_add_one, List.take_add_one, hp, hc']
            exact belowL_snoc (by rw [List.length_take, List.length_take, dl])
          generalize ps[i] = pp at hp pi lp okp hor hh ebl
          have t1l : t1 ≠ l := fun z => by
            have q := kt.at_
            rw [z, el] at q
            cases q
          have et1 := k2 _ _ t1l kt.at_
          have sT := same_new (o := .tup [y1, .ref t1]) nT
          have lT : l ≠ T := ne_of_none e2 nT
          have s3 := s2.trans sT
          have e3 := sT _ _ e2
          have dx3 := DtAll.same sT _ _ dx2
          have pi3 := pi.keep (KeepP.of sT)
          have et3 := sT _ _ et1
          have k3 : ∀ b o, b ≠ l → H1 b = some o → (upd H2 T (.tup [y1, .ref t1])) b = some o := fun b o n hb => sT _ _ (k2 _ _ n hb)
          have eT : (upd H2 T (.tup [y1, .ref t1])) T = some (.tup [y1, .ref t1]) := upd_same
          generalize upd H2 T (.tup [y1, .ref t1]) = H3 at s3 e3 pi3 et3 eT k3 dx3 ⊢
          obtain ⟨xa, dxa, pta, nta, wsa, rfl, g1, g2, g3, g4⟩ := pi3.ex
          refine ⟨T, _, rfl, .inl (.inl eT), rfl, .ref xa, _, rfl, .ref t1, _, rfl, t1, _, rfl, .inl (.inl et3), rfl, .str c1, _, rfl, .int c2, _, rfl, rfl, rfl, ?_⟩
          refine ⟨_, rfl, xa, dxa, _, rfl, g1, xa, dxa, _, calledV pp, rfl, g1, by rfl, rfl, ?_⟩
          cases pp with
          | hole =>
            have h1' : Pic.hole.holes = 1 := rfl
            refine ⟨true, rfl, iteT ⟨.ref l, rfl, .inl ⟨rfl, _, .inl (.inl e3)⟩, _, rfl, _, rfl, _, rfl, _, _, rfl, rfl, by show 2 ≤ sizeLine; decide, fun r nr => ?_⟩⟩
            have sr := same_new (o := .tup [.str c1, .int (lv - c2)]) nr
            refine ⟨l, _, _, rfl, rfl, sr _ _ e3, big (by omega), ⟨_, _, _, rfl⟩, fun b o n hb => ?_, _, upd_same, ?_⟩
            · rw [upd_ne n]
              exact sr _ _ (k3 _ _ n hb)
            · rw [List.length_append, xl, hh]
              exact ⟨rfl, by
                rw [ebl, List.map_append]
                refine DtAll.tups (Tups.putL _ (sr _ _ e3)) _ _ (by rw [onlyTs_all, List.all_append, ← onlyTs_all, ← onlyTs_all, spP_only]; rfl) ?_
                exact (DtAll.same sr _ _ dx3).app (.cons (spP_mk (s := (c1, lv - c2)) upd_same) .nil)⟩
          | node m qs =>
            have sdp : sound ds (.node m qs) = true := hor.resolve_left (by intro z; cases z)
            refine ⟨false, rfl, iteF ⟨.ref l, rfl, .inl ⟨rfl, _, .inl (.inl e3)⟩, _, rfl, _, rfl, _, rfl, _, rfl, _, _, rfl, rfl, a, b, ys, ds, .node m qs, .ref xa, lv - c2, rfl, SA.same s3, pi3, okp, by omega, by omega, sdp, fun l2 xs2 H4 s4 n4 e4 dx4 => ?_⟩⟩
            have x2 : xs2.length = (Pic.node m qs).holes := by rw [dx4.len, List.length_map]; exact (sound_below _ okp sdp _).1
            have e34 := s4 _ _ e3
            refine ⟨l, l2, xs, xs2, rfl, rfl, e34, e4, Nat.le_of_lt (big (by omega)), ⟨_, _, _, rfl⟩, fun b o n hb => ?_, _, upd_same, ?_⟩
            · rw [upd_ne n]
              exact s4 _ _ (k3 _ _ n hb)
            · rw [List.length_append, xl, x2, hh]
              exact ⟨rfl, by
                rw [ebl, List.map_append]
                refine DtAll.tups (Tups.putL _ e34) _ _ (by rw [onlyTs_all, List.all_append, ← onlyTs_all, ← onlyTs_all, spP_only, spP_only]; rfl) ?_
                exact (DtAll.same s4 _ _ dx3).app dx4⟩
        · obtain ⟨⟨o4, o5, o6, rfl⟩, k2, xs, e2, xl, dx2⟩ := h
          have s2 : Same H H2 := fun b o hb => k2 _ _ (ne_of_none hb nl) (sl _ _ hb)
          rw [wl, List.take_of_length_le (Nat.le_refl _), List.take_of_length_le (by omega), ← below_node ef] at dx2
          exact ⟨_, rfl, q l xs H2 s2 nl e2 dx2⟩
      · rw [inT_mem] at no
        exact (of_decide_eq_false no (formOf_some ef)).elim
end
end K11
set_option Elab.async false
set_option linter.all false
set_option autoImplicit false
set_option maxRecDepth 100000
set_option maxHeartbeats 4000000
namespace K11
open PySem PySem.Spec PyProof.Rows L2 Vb Wd Xd Xo Xv SX Pc Zc Oi RZ Zt Of Oh Ot
/-- the spot that a picture holds -/
def spHeld (C CS CP : Addr) (n : Nat) : Sp := fun vs H Q _ => ∃ (a sp : Addr) (b : Str) (ys : List Str) (ds : List FD) (p : Pic) (v : V) (xs : List V) (ss : List SpT), vs = [.ref a, v, .ref sp] ∧ SchemeAt H C CS a b ys ds ∧ PicAt H CP p v ∧ p.Ok ∧ p.lev < n ∧ p.lev ≤ 4 ∧
  H sp = some (.tup xs) ∧ DtAll H xs (ss.map spP) ∧ ss.length = p.holes ∧ ∀ r H', Same H H' → Dt H' r (spO (held ds p ss)) → Q r H'
theorem okRes_snoc {c : Str × Int} {r : Option SpT} : ∀ {cs : List (Str × Int)} {rs : List (Option SpT)} {ls : List Int}, okRes cs rs = some ls → ∀ {s : SpT}, r = some s → s.1 = c.1 → okRes (cs ++ [c]) (rs ++ [r]) = some (ls ++ [s.2 + c.2])
  | [], [], ls, h, s, e, e1 => by
    cases h
    subst e
    show (if s.1 = c.1 then (okRes [] []).map ((s.2 + c.2) :: ·) else none) = _
    rw [if_pos e1]
    rfl
  | [], _ :: _, ls, h, _, _, _ => by cases h
  | _ :: _, [], ls, h, _, _, _ => by cases h
  | c' :: cs, none :: rs, ls, h, _, _, _ => by cases h
  | c' :: cs, some s' :: rs, ls, h, s, e, e1 => by
    have h : (if s'.1 = c'.1 then (okRes cs rs).map ((s'.2 + c'.2) :: ·) else none) = some ls := h
    by_cases e2 : s'.1 = c'.1
    · rw [if_pos e2] at h
      cases q : okRes cs rs with
      | none => rw [q] at h; cases h
      | some l2 =>
        rw [q] at h
        cases h
        show (if s'.1 = c'.1 then (okRes (cs ++ [c]) (rs ++ [r])).map ((s'.2 + c'.2) :: ·) else none) = _
        rw [if_pos e2, okRes_snoc q e e1]
        rfl
    · rw [if_neg e2] at h
      cases h
theorem minmax {ns : List Int} {a b : Int} (ha : a ∈ ns) (la : ∀ y ∈ ns, a ≤ y) (hb : b ∈ ns) (lb : ∀ y ∈ ns, y ≤ b) : decide (V.int a = V.int b) = sameL ns := by
  cases ns with
  | nil => cases ha
  | cons x xs =>
    show _ = xs.all fun y => decide (y = x)
    by_cases e : a = b
    · rw [decide_eq_true (by rw [e])]
      have h : ∀ y ∈ x :: xs, y = a := fun y hy => by
        have := la y hy
        have := lb y hy
        omega
      exact (List.all_eq_true.mpr fun y hy => decide_eq_true (by rw [h y (List.mem_cons_of_mem _ hy), h x (List.mem_cons_self ..)])).symm
    · rw [decide_eq_false fun z => e (V.int.inj z)]
      refine (Bool.eq_false_iff.mpr fun z => e ?_).symm
      have h : ∀ y ∈ x :: xs, y = x := fun y hy => by
        rcases List.mem_cons.mp hy with r | r
        · exact r
        · exact of_decide_eq_true (List.all_eq_true.mp z y r)
      rw [h a ha, h b hb]
section
variable {P : Program} {w : World} {K : PySem.W.Frag} {mg : Str → Option Value} {base : Heap} {C CS CU CP CI : Addr}
theorem ok_held (D : Df K mg "_spot_held" s_spot_held ["scheme", "picture", "spots"]) (W : EnvW P w K mg base C CS CU) (VQ : EnvQ P w K mg base CP) (G_is_formed : Cg P w K mg base 7 "_is_formed" (spFormed C CS CP)) (z_zip : mg "zip" = none) (z_min : mg "min" = none) (z_max : mg "max" = none) : ∀ n, Cg P w K mg base (8 + n) "_spot_held" (spHeld C CS CP n)
  | 0 => by
    obtain ⟨f, fd, F, m, b⟩ := D
    exact ⟨f, fd, _, ⟨fun vs H Q E h => by obtain ⟨_, _, _, _, _, p, _, _, _, _, _, _, _, l, _⟩ := h; omega, fun A outer s H args us vs Q E hc hr e0 hb r h => by obtain ⟨_, _, _, _, _, p, _, _, _, _, _, _, _, l, _⟩ := h; omega⟩, m, F.kp, b⟩
  | n + 1 => by
    have IH := ok_held D W VQ G_is_formed z_zip z_min z_max n
    obtain ⟨p1, g1, fd1, o1, G1, b1⟩ := VQ.TP.get ("called", "_called") (by simp)
    obtain ⟨p3, g3, fd3, o3, G3, b3⟩ := VQ.TP.get ("parts", "_parts") (by simp)
    obtain ⟨p4, g4, fd4, o4, G4, b4⟩ := VQ.TP.get ("holes", "_holes") (by simp)
    obtain ⟨p2, g2, fd2, o2, G2, b2⟩ := W.TP.get ("children", "_children") (by simp)
    obtain ⟨p5, g5, fd5, o5, G5, b5⟩ := W.TP.get ("sort_name", "_sort_name") (by simp)
    obtain ⟨fI, fdI, FI, eI, nI, tI, bI⟩ := W.item
    refine D.ok (k := 8 + n) sc_spot_held (fun vs H Q E h => ?_) (fun cdv A outer s H vs Q E f0 hc hr h => ?_)
    · obtain ⟨a, sp, b, ys, ds, p, v, xs, ss, rfl, _⟩ := h
      rfl
    · obtain ⟨a, sp, b, ys, ds, p, v, xs, ss, rfl, SA, PA, ok, ln, l4, hsp, hx, sl', q⟩ := h
      have xl : xs.length = p.holes := by rw [hx.len, List.length_map]; exact sl'
      have hr7 := hr.mono (show 7 ≤ 8 + n by omega)
      refine ⟨_, (pss_cons (ps_if (pt_cmpR op_isN (pe_propG (n := "called") (pv 1) VQ.T.c o1 G1 hc (hr7.mono (by decide)) b1) pe_non (nomark _))
      (pss_one (ps_ret (pe_ix (ix_tup : IxR _ (rIxT K)) (pv 2) pe_int (fun _ _ => rfl))))
      pss_nil)
      (pss_cons (ps_if (pt_not (pt_val (pe_cg G_is_formed hc hr7 (by rfl) (pa_cons (pv 0) (pa_cons (pv 1) pa_nil)))))
      (pss_one (ps_ret pe_non))
      pss_nil)
      (pss_cons (ps_set (i := 3) sc_spot_held.nd rfl (Or.inl rfl) (pe_itemO (E := fun _ _ _ => False) (W := fun _ _ _ _ => False) (pv 0) (pe_propG (n := "called") (pv 1) VQ.T.c o1 G1 hc (hr7.mono (by decide)) b1) FI eI nI tI bI hc (hr7.mono (by decide)) LamX.takes0 (fun _ _ _ _ z => z)))
      (pss_cons (ps_set (i := 4) sc_spot_held.nd rfl (Or.inl rfl) (pe_lst pa_nil))
      (pss_cons (ps_set (i := 5) sc_spot_held.nd rfl (Or.inl rfl) pe_int)
      (pss_cons (ps_for PassesOwn.never rfl (pi_zipA (by rfl) z_zip (pa_cons (pe_propG (n := "parts") (pv 1) VQ.T.c o3 G3 hc (hr7.mono (by decide)) b3) (pa_cons (pe_propG (n := "children") (pv 3) W.TF.c o2 G2 hc (hr7.mono (by decide)) b2) pa_nil)))
        (pg_tup (by rfl) (pgs_cons (pg_name (i := 6) sc_spot_held.nd rfl (Or.inl rfl)) (pgs_cons (pg_tup (by rfl) (pgs_cons (pg_name (i := 7) sc_spot_held.nd rfl (Or.inl rfl)) (pgs_cons (pg_name (i := 8) sc_spot_held.nd rfl (Or.inl rfl)) pgs_nil))) pgs_nil)))
      (pss_cons (ps_set (i := 9) sc_spot_held.nd rfl (Or.inl rfl) (pe_cg IH hc hr (by rfl) (pa_cons (pv 0) (pa_cons (pv 6) (pa_cons (pe_slice (sl_tup : SlR _ (rSlT K)) (pv 2) (po_some (pv 5)) (po_some (pe_op op_add (pv 5) (pe_propG (n := "holes") (pv 6) VQ.T.c o4 G4 hc (hr7.mono (by decide)) b4)))) pa_nil))) (Nat.le_refl _)))
      (pss_cons (ps_if (PW.pt (pw_or (pt_cmpR op_isN (pv 9) pe_non (nomark _)) (pw_or1 (pt_cmpR op_ne (pe_ix (ix_tup : IxR _ (rIxT K)) (pv 9) pe_int (fun _ _ => rfl)) (pv 7) (nomark _)))))
      (pss_one (ps_ret pe_non))
      pss_nil)
      (pss_cons (ps_expr (pe_bm PySem.F.plainAttrs_list PySem.F.slot_list_append PySem.F.type_list_append mt_append (pv 4) (pa_cons (pe_op op_add (pe_ix (ix_tup : IxR _ (rIxT K)) (pv 9) pe_int (fun _ _ => rfl)) (pv 8)) pa_nil)))
      (pss_one (ps_aug (i := 5) sc_spot_held.nd rfl (Or.inl rfl) (pe_propG (n := "holes") (pv 6) VQ.T.c o4 G4 hc (hr7.mono (by decide)) b4) ip_add))))))
      (pss_one (ps_ret (pe_ifExp (pt_cmpR op_eq (pe_callB (cr_min rfl) (by rfl) z_min (by decide +kernel) (pa_cons (pv 4) pa_nil)) (pe_callB (cr_max rfl) (by rfl) z_max (by decide +kernel) (pa_cons (pv 4) pa_nil)) (nomark _)) (pe_tup (pa_cons (pe_propG (n := "sort_name") (pv 3) W.TF.c o5 G5 hc (hr7.mono (by decide)) b5) (pa_cons (pe_ix (ix_list : IxR _ (rIxL K)) (pv 4) pe_int (fun _ _ => rfl)) pa_nil))) pe_non))))))))), ?_⟩
      obtain ⟨x, dx, pt, nt, ws, rfl, h1, h2, h3, h4⟩ := PA.ex
      have SA' := SA
      obtain ⟨dxs, t, bn, nm, f, so', kvs, fs, zs, ha, ht, hn, hf, FF, hb, hv, hs, mz, srt, nd⟩ := SA'.ex
      refine ⟨_, rfl, x, dx, _, rfl, h1, x, dx, _, calledV p, rfl, h1, by rfl, rfl, ?_⟩
      cases p with
      | hole =>
        match xs, xl, hx, hsp with
        | [x0], _, hx, hsp =>
          match ss, sl', hx, q with
          | [s0], _, .cons k0 _, q => exact ⟨true, rfl, iteT ⟨_, rfl, sp, _, 0, _, rfl, rfl, .inl (.inl hsp), rfl, q _ H (Same.refl H) k0⟩⟩
      | node n' ps =>
      obtain ⟨wn, l2, lm4, oks⟩ := ok_node ok
      refine ⟨false, rfl, iteF ⟨_, rfl, _, rfl, a, b, ys, ds, _, .ref x, rfl, SA, PA, _, rfl, ?_⟩⟩
      cases e1 : formed ds (.node n' ps) with
      | false =>
        have en : held ds (.node n' ps) ss = none := unfit_none (.node n' ps) (by show (formed ds (.node n' ps) && fitsL ds ps) = false; rw [e1]; rfl) ss
        rw [en] at q
        exact iteT (q _ H (Same.refl H) .non)
      | true =>
      obtain ⟨d, ef, dl⟩ := formed_form e1
      obtain ⟨dm, de⟩ := formOf_mem ef
      refine iteF ⟨_, rfl, _, rfl, x, dx, _, rfl, h1, x, dx, _, .str (S n'), rfl, h1, by rfl, a, dxs, _, rfl, ha, a, b, ys, ds, .str (S n'), rfl, SA, .inl rfl, fun d' x' ch ks hd' e FA => ?_, fun no => ?_⟩
      · have ed : d' = d := once_name SA.once hd' dm (by rw [de]; exact (V.str.inj e).symm)
        subst ed
        obtain ⟨⟨dx', fa⟩, kk⟩ := FA
        have kl := kk.len
        have wl : ws.length = ps.length := h4.len
        have k4 := kk.hi
        have big : ∀ {n : Nat}, n ≤ 600 → n < sizeLine := fun h => Nat.lt_of_le_of_lt h (by decide)
        have h256 := holes256 ok l4
        have hps : (Pic.node n' ps).holes = holesL ps := rfl
        refine ⟨by show 0 ≤ sizeLine; decide, fun L nL => ?_⟩
        have sl := same_new (o := .lst []) nL
        have eL : (upd H L (.lst [])) L = some (.lst []) := upd_same
        generalize upd H L (.lst []) = H1 at sl eL ⊢
        refine ⟨_, rfl, x, dx, _, rfl, sl _ _ h1, x, dx, _, .ref pt, rfl, sl _ _ h1, by rfl, _, rfl, x', dx', _, rfl, sl _ _ fa, x', ch, dx', _, _, .ref ch, rfl, sl _ _ fa, by rfl, pt, ch, ws, ks.map V.ref, rfl, .inr ⟨.inl (.inl (sl _ _ h2)), .inl (.inl (sl _ _ kk.at_)), ?_⟩⟩
        refine for_zipT (K := K) (a := pt) (b := ch) (xs := ws) (ys := ks.map V.ref) (by rw [List.length_map]; omega) (fun i σ H' => (∃ o6 o7 o8 o9 : Option V, σ = [some (.ref a), some (.ref x), some (.ref sp), some (.ref x'), some (.ref L), some (.int (holesL (ps.take i) : Nat)), o6, o7, o8, o9]) ∧ (∀ b o, b ≠ L → H1 b = some o → H' b = some o) ∧ ∃ ns : List Int, H' L = some (.lst (ns.map V.int)) ∧ ns.length = i ∧ okRes (d'.2.2.take i) ((heldL ds ps ss).take i) = some ns)
          ⟨⟨none, none, none, none, rfl⟩, fun _ _ _ e => e, [], eL, rfl, rfl⟩ (fun i σ H' h => ?_) (fun i y1 y2 T σ H2 hy1 hy2 h nT => ?_) (fun σ H2 h => ?_)
        · have s2 : Same H H' := fun b o hb => h.2.1 _ _ (ne_of_none hb nL) (sl _ _ hb)
          exact ⟨.inl (.inl (s2 _ _ h2)), .inl (.inl (s2 _ _ kk.at_))⟩
        · obtain ⟨⟨o6, o7, o8, o9, rfl⟩, k2, ns, e2, nsl, okn⟩ := h
          have s2 : Same H H2 := fun b o hb => k2 _ _ (ne_of_none hb nL) (sl _ _ hb)
          rw [List.getElem?_map] at hy2
          obtain ⟨t1, ht1, rfl⟩ := Option.map_eq_some_iff.mp hy2
          obtain ⟨⟨c1, c2⟩, hc', kt⟩ := kk.get ht1
          have il : i < ps.length := by
            have := (List.getElem?_eq_some_iff.mp hy1).1
            omega
          have hp : ps[i]? = some ps[i] := List.getElem?_eq_getElem il
          have pi := (h4.get hp hy1)
          have pm : ps[i] ∈ (Pic.node n' ps).parts := List.getElem_mem il
          have lp := lev_part pm
          have okp := ok_part ok pm
          have hh := holesL_take hp
          have hle := holesL_le (ps := ps) (i := i + 1)
          have nw := not_whole oks l2 hp
          have hat := heldL_at (ds := ds) (ss := ss) hp
          generalize ps[i] = pp at hp pi lp okp hh nw hat
          have sT := same_new (o := .tup [y1, .ref t1]) nT
          have lT : L ≠ T := ne_of_none e2 nT
          have s3 := s2.trans sT
          have e3 := sT _ _ e2
          have k3 : ∀ b o, b ≠ L → H1 b = some o → (upd H2 T (.tup [y1, .ref t1])) b = some o := fun b o n hb => sT _ _ (k2 _ _ n hb)
          have eT : (upd H2 T (.tup [y1, .ref t1])) T = some (.tup [y1, .ref t1]) := upd_same
          generalize upd H2 T (.tup [y1, .ref t1]) = H3 at s3 e3 eT k3 ⊢
          have pi3 := pi.keep (KeepP.of s3)
          have et3 := s3 _ _ kt.at_
          obtain ⟨xa, dxa, pta, nta, wsa, rfl, g1, g2, g3, g4⟩ := pi3.ex
          refine ⟨T, _, rfl, .inl (.inl eT), rfl, .ref xa, _, rfl, .ref t1, _, rfl, t1, _, rfl, .inl (.inl et3), rfl, .str c1, _, rfl, .int c2, _, rfl, rfl, rfl, ?_⟩
          refine ⟨_, rfl, _, rfl, _, rfl, _, rfl, (holesL (ps.take i) : Nat), rfl, _, rfl, _, rfl, xa, dxa, _, rfl, g1, xa, dxa, _, .int (pp.holes : Nat), rfl, g1, by rfl, _, _, rfl, rfl, _, rfl, sp, xs, rfl, .inl (.inl (s3 _ _ hsp)), ?_, fun r nr => ?_⟩
          · have ec : ((holesL (ps.take i) : Nat) : Int) + ((pp.holes : Nat) : Int) = ((holesL (ps.take i) + pp.holes : Nat) : Int) := by omega
            rw [ec, HT.sIx_nat, HT.sIx_nat, xl]
            omega
          have ec : ((holesL (ps.take i) : Nat) : Int) + ((pp.holes : Nat) : Int) = ((holesL (ps.take i) + pp.holes : Nat) : Int) := by omega
          have ecut : cutV xs (some ((holesL (ps.take i) : Nat) : Int)) (some (((holesL (ps.take i) : Nat) : Int) + ((pp.holes : Nat) : Int))) = (xs.drop (holesL (ps.take i))).take pp.holes := by
            unfold cutV
            rw [ec, HT.sIx_nat, HT.sIx_nat, xl]
            have e1 : min (holesL (List.take i ps)) (Pic.node n' ps).holes = holesL (ps.take i) := by omega
            have e2 : min (holesL (List.take i ps) + pp.holes) (Pic.node n' ps).holes = holesL (ps.take i) + pp.holes := by omega
            rw [e1, e2]
            congr 1
            omega
          rw [ecut]
          have s4 := same_new (o := .tup ((xs.drop (holesL (ps.take i))).take pp.holes)) nr
          have s34 := s3.trans s4
          refine ⟨a, r, b, ys, ds, pp, .ref xa, _, (ss.drop (holesL (ps.take i))).take pp.holes, rfl, SA.same s34, pi3.keep (KeepP.of s4) _ _, okp, by omega, by omega, upd_same, by rw [List.map_take, List.map_drop]; exact Oh.DtAll.take _ (Oh.DtAll.drop _ (DtAll.same s34 _ _ hx)), by rw [List.length_take, List.length_drop]; omega, fun rv H5 s5 hv => ?_⟩
          have s15 := s4.trans s5
          have s05 := s3.trans s15
          have e5 := s15 _ _ e3
          have g5' := s15 _ _ g1
          have bad : (∀ s : SpT, held ds pp ((ss.drop (holesL (ps.take i))).take pp.holes) = some s → s.1 ≠ c1) → held ds (.node n' ps) ss = none := fun hb => by
            rw [held_node ef, okRes_none hc' fun s hs => hb s (by rw [hat] at hs; simpa using hs)]
            rfl
          cases eh : held ds pp ((ss.drop (holesL (ps.take i))).take pp.holes) with
          | none =>
            rw [eh] at hv bad
            cases hv
            have := bad fun s z => by cases z
            rw [this] at q
            exact ⟨_, rfl, rfl, true, rfl, iteT (iteT (q _ _ s05 .non))⟩
          | some s0 =>
            rw [eh] at hv bad
            obtain ⟨t', rfl, e'⟩ := spP_inv hv
            obtain ⟨z', i'⟩ := s0
            refine ⟨_, rfl, rfl, false, rfl, iteF ⟨_, rfl, t', _, 0, _, rfl, rfl, .inl (.inl e'), rfl, _, rfl, rfl, _, rfl, ?_⟩⟩
            cases ed : (!decide (V.str z' = V.str c1)) with
            | true =>
              have := bad fun s z => by
                cases z
                intro z2
                rw [show z' = c1 from z2, decide_eq_true rfl] at ed
                cases ed
              rw [this] at q
              exact iteT (q _ _ s05 .non)
            | false =>
              refine iteF ⟨.ref L, rfl, .inl ⟨rfl, _, .inl (.inl e5)⟩, _, rfl, t', _, 1, _, rfl, rfl, .inl (.inl e'), rfl, _, rfl, _, _, rfl, rfl, L, _, _, rfl, rfl, e5, by rw [List.length_map]; exact big (by omega), ?_⟩
              have xaL : xa ≠ L := fun z => by rw [z, e5] at g5'; cases g5'
              have g6 : (upd H5 L (.lst (ns.map V.int ++ [.int (i' + c2)]))) xa = some (.ins CP dxa (fldsP pp pta nta)) := by
                rw [upd_ne xaL]
                exact g5'
              refine ⟨.int (holesL (ps.take i) : Nat), rfl, _, rfl, xa, dxa, _, rfl, g6, xa, dxa, _, .int (pp.holes : Nat), rfl, g6, by rfl, _, _, rfl, rfl, ⟨some (.ref xa), some (.str c1), some (.int c2), some (.ref t'), ?_⟩, fun b o n hb => ?_, ns ++ [i' + c2], ?_, by rw [List.length_append, nsl]; rfl, ?_⟩
              · have ei : (fun i j => i + j) ((holesL (ps.take i) : Nat) : Int) ((pp.holes : Nat) : Int) = ((holesL (ps.take (i + 1)) : Nat) : Int) := by
                  rw [hh]
                  exact ec
                rw [ei]
                rfl
              · rw [upd_ne n]
                exact s15 _ _ (k3 _ _ n hb)
              · rw [upd_same, List.map_append]
                rfl
              · have ez : z' = c1 := by
                  have := of_decide_eq_true (Bool.not_eq_false' .. ▸ ed : decide (V.str z' = V.str c1) = true)
                  exact V.str.inj this
                rw [List.take_add_one, List.take_add_one, hc', hat, eh]
                exact okRes_snoc (c := (c1, c2)) okn (s := (z', i')) rfl ez
        · obtain ⟨⟨o6, o7, o8, o9, rfl⟩, k2, ns, e2, nsl, okn⟩ := h
          have s2 : Same H H2 := fun b o hb => k2 _ _ (ne_of_none hb nL) (sl _ _ hb)
          have fa2 := s2 _ _ fa
          have np : 0 < ns.length := by omega
          refine ⟨_, rfl, L, ns, rfl, .inl (.inl e2), np, fun mn hm1 hm2 => ⟨_, rfl, L, ns, rfl, .inl (.inl e2), np, fun mx hm3 hm4 => ⟨rfl, _, rfl, ?_⟩⟩⟩
          rw [List.take_of_length_le (show (heldL ds ps ss).length ≤ ws.length by rw [heldL_len]; omega), List.take_of_length_le (show d'.2.2.length ≤ ws.length by omega)] at okn
          rw [held_node ef, okn] at q
          rw [minmax hm1 hm2 hm3 hm4]
          cases esm : sameL ns with
          | false =>
            have q' : ∀ r H', Same H H' → Dt H' r (spO (if sameL ns = true then some (d'.2.1, ns.headD 0) else none)) → Q r H' := q
            rw [esm] at q'
            exact iteF (q' _ _ s2 .non)
          | true =>
            have q' : ∀ r H', Same H H' → Dt H' r (spO (if sameL ns = true then some (d'.2.1, ns.headD 0) else none)) → Q r H' := q
            rw [esm] at q'
            match ns, np, e2, q' with
            | n0 :: nr, _, e2, q' =>
              refine iteT ⟨_, rfl, x', dx', _, rfl, fa2, x', ch, dx', _, _, .str d'.2.1, rfl, fa2, by rfl, _, rfl, L, _, 0, .int n0, rfl, rfl, .inl (.inl e2), atI_nat (j := 0) rfl, by show 2 ≤ sizeLine; decide, fun t nt => ?_⟩
              have st := same_new (o := .tup [.str d'.2.1, .int n0]) nt
              exact q' _ _ (s2.trans st) (spP_mk (s := (d'.2.1, n0)) upd_same)
      · rw [inT_mem] at no
        exact (of_decide_eq_false no (formOf_some ef)).elim
end
end K11
set_option Elab.async false
set_option linter.all false
set_option autoImplicit false
set_option maxRecDepth 100000
set_option maxHeartbeats 4000000
namespace K11
open PySem PySem.Spec PyProof.Rows L2 Vb Wd Xd Xo Xv SX Pc Zc Oi RZ Oe Of Oh Ot
abbrev s_spots_of : Stmt := topS 36
theorem sc_spots_of : FnScope ["scheme", "picture"] ["scheme", "picture"] (defScope s_spots_of) := ⟨rfl, rfl, rfl, by decide +kernel, rfl, by decide +kernel, by decide +kernel⟩
abbrev s_spot_over : Stmt := topS 37
theorem sc_spot_over : FnScope ["scheme", "picture", "spots", "spot"] ["scheme", "picture", "spots"] (defScope s_spot_over) := ⟨rfl, rfl, rfl, by decide +kernel, rfl, by decide +kernel, by decide +kernel⟩
def spSpotsOf (K : PySem.W.Frag) (C CS CP CI CIP : Addr) (n : Nat) : Sp := fun vs H Q E => ∃ (u v : V), vs = [u, v] ∧
  ((NotOf K H u CS ∧ E (.ref CI) none H) ∨
   (∃ (a : Addr) (b : Str) (ys : List Str) (ds : List FD), u = .ref a ∧ SchemeAt H C CS a b ys ds ∧
     ((NotOf K H v CP ∧ ∀ H', Same H H' → E (.ref CIP) none H') ∨
      (∃ p : Pic, PicAt H CP p v ∧ p.Ok ∧ p.lev < n ∧ p.lev ≤ 4 ∧ (sound ds p = false → ∀ H', Same H H' → E (.ref CIP) none H') ∧ (sound ds p = true → ∀ t H', Same H H' → Dt H' (.ref t) (.tuple ((below ds p 0).map spP)) → Q (.ref t) H')))))
def spotsD (d : PyData) (n : Nat) : Bool := match d with
  | .tuple ds => ds.all spotD && decide (ds.length = n)
  | _ => false
def sizeD : PyData → Nat
  | .tuple ds => ds.length
  | _ => 0
def spSpotOver (K : PySem.W.Frag) (C CS CP CI CIP CO : Addr) (n : Nat) : Sp := fun vs H Q E => ∃ (u v s : V), vs = [u, v, s] ∧
  ((NotOf K H u CS ∧ E (.ref CI) none H) ∨
   (∃ (a : Addr) (b : Str) (ys : List Str) (ds : List FD), u = .ref a ∧ SchemeAt H C CS a b ys ds ∧
     ((NotOf K H v CP ∧ E (.ref CIP) none H) ∨
      (∃ (p : Pic) (d : PyData), PicAt H CP p v ∧ p.Ok ∧ p.lev < n ∧ p.lev ≤ 4 ∧ Dt H s d ∧ okD d = true ∧ sizeD d ≤ 600 ∧ (spotsD d p.holes = false → ∀ H', Same H H' → E (.ref CO) none H') ∧ (spotsD d p.holes = true → ∀ ss : List SpT, d = .tuple (ss.map spP) → ∀ r H', Same H H' → Dt H' r (spO (held ds p ss)) → Q r H')))))
theorem spot_data {d : PyData} (h : spotD d = true) : ∃ s : SpT, d = spP s := by
  match d, h with
  | .tuple [dx, dy], h =>
    have h : (namD dx && intD dy) = true := h
    rw [Bool.and_eq_true] at h
    match dx, dy, h with
    | .str z, .int i, _ => exact ⟨(z, i), rfl⟩
    | .str z, .none, h => cases h.2
    | .str z, .bool _, h => cases h.2
    | .str z, .str _, h => cases h.2
    | .str z, .list _, h => cases h.2
    | .str z, .tuple _, h => cases h.2
    | .str z, .dict _, h => cases h.2
    | .none, _, h => cases h.1
    | .bool _, _, h => cases h.1
    | .int _, _, h => cases h.1
    | .list _, _, h => cases h.1
    | .tuple _, _, h => cases h.1
    | .dict _, _, h => cases h.1
theorem spots_data : ∀ {es : List PyData}, es.all spotD = true → ∃ ss : List SpT, es = ss.map spP
  | [], _ => ⟨[], rfl⟩
  | d :: es, h => by
    rw [List.all_cons, Bool.and_eq_true] at h
    obtain ⟨s, rfl⟩ := spot_data h.1
    obtain ⟨ss, rfl⟩ := spots_data h.2
    exact ⟨s :: ss, rfl⟩
section
variable {P : Program} {w : World} {K : PySem.W.Frag} {mg : Str → Option Value} {base : Heap} {C CS CU CP CI CIP CO : Addr}
theorem ok_spots_of {n k j : Nat} (D : Df K mg "spots_of" s_spots_of ["scheme", "picture"]) (TE : ErrC K mg "InvalidPicture" CIP) (G_sound : CgE P w K mg base k "is_sound_picture" (spSoundX K C CS CP CI n)) (G_below : Cg P w K mg base j "_spots_below" (spBelow C CS CP n)) (hj : j ≤ k) (z_tuple : mg "tuple" = none) : CgE P w K mg base (k + 1) "spots_of" (spSpotsOf K C CS CP CI CIP n) := by
  obtain ⟨f, fd, F, m, b⟩ := D
  refine ⟨f, fd, _, goes_exc F sc_spots_of (fun vs H Q E h => ?_) (fun cdv A outer s H vs Q E hc hr tk h => ?_), m, F.kp, b⟩
  · obtain ⟨u, v, rfl, _⟩ := h
    rfl
  · obtain ⟨u, v, rfl, h⟩ := h
    refine ⟨_, (pss_cons (ps_if (pt_not (pt_val (pe_cgE (E := E) G_sound hc hr (by rfl) tk (fun _ _ _ _ z => z) (pa_cons (pv 0) (pa_cons (pv 1) pa_nil)) (hj := Nat.le_refl _))))
      (pss_one (ps_raise (by rfl) tk (pmk_own PySem.F.excBase_ValueError TE.e TE.g TE.k (raises_own TE.b TE.t) (by rfl))))
      pss_nil)
      (pss_one (ps_ret (pe_callTy (cr_tuple : CallR _ _ (rTup K)) (by rfl) z_tuple (by decide +kernel) (pa_cons (pe_cg G_below hc hr (by rfl) (pa_cons (pv 0) (pa_cons (pv 1) (pa_cons pe_int pa_nil))) hj (hx := pass0)) pa_nil))))), ?_⟩
    rcases h with ⟨no, q⟩ | ⟨a, b, ys, ds, rfl, SA, h⟩
    · exact ⟨_, rfl, _, rfl, u, v, rfl, .inl ⟨no, q⟩⟩
    rcases h with ⟨no, q⟩ | ⟨p, PA, ok, ln, l4, q1, q2⟩
    · exact ⟨_, rfl, _, rfl, .ref a, v, rfl, .inr ⟨a, b, ys, ds, rfl, SA, .inl ⟨no, _, rfl, iteT (q H (Same.refl H))⟩⟩⟩
    · refine ⟨_, rfl, _, rfl, .ref a, v, rfl, .inr ⟨a, b, ys, ds, rfl, SA, .inr ⟨p, PA, ok, ln, fun H1 s1 => ⟨_, rfl, ?_⟩⟩⟩⟩
      cases e : sound ds p with
      | false => exact iteT (q1 e H1 s1)
      | true =>
        refine iteF ⟨_, rfl, _, rfl, a, b, ys, ds, p, v, 0, rfl, SA.same s1, PA.keep (KeepP.of s1) _ _, ok, ln, l4, e, fun l xs H2 s2 nl el dl => ⟨l, xs, rfl, .inl ⟨.inl (.inl el), fun r nr => ?_⟩⟩⟩
        have s3 := same_new (o := .tup xs) nr
        exact q2 e r _ ((s1.trans s2).trans s3) (.tup upd_same (DtAll.same s3 _ _ dl))
theorem ok_spot_over {n k : Nat} (D : Df K mg "spot_over" s_spot_over ["scheme", "picture", "spots"]) (TS : SchemeC K CS) (VQ : EnvQ P w K mg base CP) (TIS : FormI K CS) (TIP : FormI K CP) (gS : mg "Scheme" = some (.ref CS)) (TE : ErrC K mg "InvalidScheme" CI) (TEP : ErrC K mg "InvalidPicture" CIP) (TEO : ErrC K mg "InvalidOperation" CO)
    (G_is_spot : Cg P w K mg base 2 "_is_spot" spSpotD) (G_held : Cg P w K mg base k "_spot_held" (spHeld C CS CP n)) (hk : 7 ≤ k) (z_isinstance : mg "isinstance" = none) (z_tuple : mg "tuple" = none) (z_all : mg "all" = none) (z_len : mg "len" = none) : CgE P w K mg base (k + 1) "spot_over" (spSpotOver K C CS CP CI CIP CO n) := by
  obtain ⟨p4, g4, fd4, o4, G4, b4⟩ := VQ.TP.get ("holes", "_holes") (by simp)
  obtain ⟨f, fd, F, m, b⟩ := D
  refine ⟨f, fd, _, goes_exc F sc_spot_over (fun vs H Q E h => ?_) (fun cdv A outer s H vs Q E hc hr tk h => ?_), m, F.kp, b⟩
  · obtain ⟨u, v, s, rfl, _⟩ := h
    rfl
  · obtain ⟨u, v, sv, rfl, h⟩ := h
    have hr7 := hr.mono hk
    refine ⟨_, (pss_cons (ps_if (pt_not (pt_val (pe_callB call_isi (by rfl) z_isinstance (by decide +kernel) (pa_cons (pv 0) (pa_cons (pe_glob (v := .ref CS) (by rfl) gS rfl) pa_nil)))))
      (pss_one (ps_raise (by rfl) tk (pmk_own PySem.F.excBase_ValueError TE.e TE.g TE.k (raises_own TE.b TE.t) (by rfl))))
      pss_nil)
      (pss_cons (ps_if (pt_not (pt_val (pe_callB call_isi (by rfl) z_isinstance (by decide +kernel) (pa_cons (pv 1) (pa_cons (pe_glob (v := .ref CP) (by rfl) VQ.g rfl) pa_nil)))))
      (pss_one (ps_raise (by rfl) tk (pmk_own PySem.F.excBase_ValueError TEP.e TEP.g TEP.k (raises_own TEP.b TEP.t) (by rfl))))
      pss_nil)
      (pss_cons (ps_if (PW.pt (pw_or (pt_not (pt_val (pe_callB call_isi (by rfl) z_isinstance (by decide +kernel) (pa_cons (pv 2) (pa_cons (pe_bltn (v := .ty "tuple") (by rfl) z_tuple (by decide +kernel) rfl) pa_nil))))) (pw_or1 (pt_not (pt_val (pe_callB (cr_all rfl) (by rfl) z_all (by decide +kernel) (pa_cons (pe_lc (own := [("spot", 3)]) (g := gName 3) (by rfl) sc_spot_over.nd (pi_tup (pv 2)) (blkOk_by (own := [("spot", 3)]) (N := ["scheme", "picture", "spots", "spot"]) (sc := defScope s_spot_over) (by decide +kernel)) (fun _ _ _ _ _ => pg_name (i := 3) sc_spot_over.nd rfl (Or.inl rfl)) (fun _ _ _ _ _ => pts_nil)
        (fun _ _ _ _ _ => (pe_cg G_is_spot hc hr7 (by rfl) (pa_cons (pv 3) pa_nil) (hx := pass0)))) pa_nil)))))))
      (pss_one (ps_raise (by rfl) tk (pmk_own PySem.F.excBase_ValueError TEO.e TEO.g TEO.k (raises_own TEO.b TEO.t) (by rfl))))
      pss_nil)
      (pss_cons (ps_if (pt_cmpR op_ne (pe_callB call_len_seq (by rfl) z_len PySem.boot_len (pa_cons (pv 2) pa_nil)) (pe_propG (n := "holes") (pv 1) VQ.T.c o4 G4 hc (hr7.mono (by decide)) b4) (nomark _))
      (pss_one (ps_raise (by rfl) tk (pmk_own PySem.F.excBase_ValueError TEO.e TEO.g TEO.k (raises_own TEO.b TEO.t) (by rfl))))
      pss_nil)
      (pss_one (ps_ret (pe_cg G_held hc hr (by rfl) (pa_cons (pv 0) (pa_cons (pv 1) (pa_cons (pv 2) pa_nil))) (Nat.le_refl _) (hx := pass0)))))))), ?_⟩
    rcases h with ⟨⟨t, ty, no⟩, q⟩ | ⟨a, b, ys, ds, rfl, SA, h⟩
    · exact ⟨_, rfl, _, _, _, _, false, rfl, .own CS, ty, no, _, rfl, iteT q⟩
    have SA' := SA
    obtain ⟨dxs, t, bn, nm, f, so', kvs, fs, zs, ha, ht, hn, hf, FF, hb, hv, hs, mz, srt, nd⟩ := SA'.ex
    refine ⟨_, rfl, _, _, _, _, true, rfl, .own CS, .base (.ins ha TS.c TIS.ca TIS.sp TIS.tk TIS.mo), TIS.yes, _, rfl, iteF ?_⟩
    rcases h with ⟨⟨t', ty, no⟩, q⟩ | ⟨p, d, PA, ok, ln, l4, kd, o, sz, q1, q2⟩
    · exact ⟨_, rfl, _, _, _, _, false, rfl, .own CP, ty, no, _, rfl, iteT q⟩
    obtain ⟨x, dx, pt, nt, ws, rfl, h1, h2, h3, h4⟩ := PA.ex
    refine ⟨_, rfl, _, _, _, _, true, rfl, .own CP, .base (.ins h1 VQ.T.c TIP.ca TIP.sp TIP.tk TIP.mo), TIP.yes, _, rfl, iteF ?_⟩
    rcases tup_orS d with ⟨es, rfl⟩ | ⟨mm, e1⟩
    · cases kd with
      | @tup sp xs _ hsp al =>
        have lnx := al.len
        have ody : ∀ d ∈ es, okD d = true := okDs_mem o
        have hT : ∀ {H' : Hp}, Same H H' → SqT K H' sp xs := fun s => .inl (.inl (s _ _ hsp))
        have sz' : es.length ≤ 600 := sz
        refine ⟨_, rfl, _, _, _, _, true, rfl, .ty _, .base (.tup hsp), kit_ty (by decide +kernel), _, rfl, iteF ?_⟩
        refine ⟨_, rfl, sp, rfl, ⟨_, hT (Same.refl H)⟩, fun D nD => lc_tup (K := K) (a := sp) (xs := xs) (fun i H' => Same H H' ∧ H' D = some (.lst (((es.take i).map spotD).map V.bl))) ⟨same_put nD (Same.refl H), upd_same⟩ (fun i H' _ h => hT h.1) (fun i y H1 hx h => ?_) (fun H1 h => ?_)⟩
        · obtain ⟨s1, e1⟩ := h
          obtain ⟨d, hd, kd⟩ := al.get hx
          refine ⟨rfl, _, rfl, y, d, rfl, kd.same s1, ody d (List.mem_of_getElem? hd), fun H2 s2 => ⟨_, s2 _ _ e1, ?_, same_put nD (s1.trans s2), ?_⟩⟩
          · rw [List.length_map, List.length_map, List.length_take]
            exact Nat.lt_of_le_of_lt (show _ ≤ 600 by omega) (by decide)
          · rw [upd_same, List.take_add_one, hd, List.map_append, List.map_append]
            rfl
        · obtain ⟨s1, e1⟩ := h
          rw [lnx, List.take_of_length_le (Nat.le_refl _)] at e1
          refine ⟨D, _, rfl, .inl (.inl e1), _, rfl, ?_⟩
          have ea : (es.map spotD).all id = es.all spotD := by rw [List.all_map]; rfl
          rw [ea]
          have eq : spotsD (.tuple es) p.holes = (es.all spotD && decide (es.length = p.holes)) := rfl
          rw [eq] at q1 q2
          cases eall : es.all spotD with
          | false =>
            rw [eall, Bool.false_and] at q1
            exact iteT (q1 rfl H1 s1)
          | true =>
            rw [eall, Bool.true_and] at q1 q2
            refine iteF ⟨_, rfl, sp, xs, rfl, .inr (hT s1), _, rfl, x, dx, _, rfl, s1 _ _ h1, x, dx, _, .int (p.holes : Nat), rfl, s1 _ _ h1, by rfl, rfl, _, rfl, ?_⟩
            by_cases el : es.length = p.holes
            · rw [decide_eq_true (show V.int (xs.length : Nat) = V.int (p.holes : Nat) by rw [lnx, el])]
              obtain ⟨ss, rfl⟩ := spots_data eall
              rw [List.length_map] at el
              exact iteF ⟨_, rfl, _, rfl, _, rfl, a, sp, b, ys, ds, p, .ref x, xs, ss, rfl, SA.same s1, PA.keep (KeepP.of s1) _ _, ok, ln, l4, s1 _ _ hsp, DtAll.same s1 _ _ al, el, fun r H2 s2 hr => q2 (decide_eq_true (by rw [List.length_map]; exact el)) ss rfl r H2 (s1.trans s2) hr⟩
            · rw [decide_eq_false (show ¬ V.int (xs.length : Nat) = V.int (p.holes : Nat) from fun z => by
                have := V.int.inj z
                omega)]
              exact iteT (q1 (decide_eq_false el) H1 s1)
    · refine ⟨_, rfl, _, _, _, _, false, rfl, .ty _, kd.ty, kit_ty (kit_noT mm), _, rfl, iteT (iteT (q1 ?_ H (Same.refl H)))⟩
      cases d <;> first | rfl | simp [kndOf] at mm
end
end K11
set_option Elab.async false
set_option linter.all false
set_option autoImplicit false
set_option maxRecDepth 100000
set_option maxHeartbeats 4000000
namespace K11
open PySem PySem.Spec PyProof.Rows L2 Vb Wd
abbrev s_l_mixed : Stmt := topS 51
theorem sc_l_mixed : FnScope ["_law_dice_here", "_law_items", "_law_left", "_law_found"] ["_law_dice_here", "_law_items"] (defScope s_l_mixed) := ⟨rfl, rfl, rfl, by decide +kernel, rfl, by decide +kernel, by decide +kernel⟩
abbrev s_l_names : Stmt := topS 52
theorem sc_l_names : FnScope ["_law_dice_here", "_law_many", "_law_pool"] ["_law_dice_here", "_law_many"] (defScope s_l_names) := ⟨rfl, rfl, rfl, by decide +kernel, rfl, by decide +kernel, by decide +kernel⟩
/-- mixed(dice, items): the same texts in a drawn order, a new list -/
def spMixed (K : PySem.W.Frag) : Sp := fun vs H Q _ => ∃ (d a : Addr) (ys : List Str), vs = [.ref d, .ref a] ∧ Dice H d ∧ SqL K H a (ys.map V.str) ∧ (∀ y ∈ ys, Asc y) ∧ ys.length ≤ 60 ∧
  ∀ (p : Addr) (zs : List Str) (H' : Hp), Past d H H' → H p = none → p ≠ d → H' p = some (.lst (zs.map V.str)) → zs.Perm ys → Q (.ref p) H'
section
variable {P : Program} {w : World} {K : PySem.W.Frag} {mg : Str → Option Value} {base : Heap}
theorem eqv_cons (u : Str) (us : List Str) : (!PyData.eqv (.list ((u :: us).map PyData.str)) (.list [])) = true := by
  simp [PyData.eqv, PyData.eqvAll]
theorem map_erase {α β : Type} (f : α → β) (l : List α) (i : Nat) : (l.map f).eraseIdx i = (l.eraseIdx i).map f := by
  rw [List.eraseIdx_eq_take_drop_succ, List.eraseIdx_eq_take_drop_succ, List.map_append, List.map_take, List.map_drop]
theorem seq_at {r : Int} {n : Nat} (h0 : 0 ≤ r) (h1 : r < n) : seqIndex? r n = some r.toNat := by
  unfold seqIndex?
  have n0 : ¬ r < 0 := by omega
  simp only [if_neg n0]
  rw [if_pos (by simp [h0, h1])]
theorem erase_perm {α : Type} : ∀ (l : List α) (i : Nat) (h : i < l.length), List.Perm (l[i] :: l.eraseIdx i) l
  | x :: l, 0, _ => List.Perm.refl _
  | x :: l, i + 1, h => ((List.Perm.swap x _ _).trans ((erase_perm l i (by simpa using h)).cons x))
theorem small8000 {n : Nat} (h : n ≤ 60) : (n : Int).natAbs < 2 ^ 8000 := Nat.lt_of_le_of_lt (show (n : Int).natAbs ≤ 60 by omega) (by decide +kernel)
theorem ok_l_mixed (D : Df K mg "_law_mixed" s_l_mixed ["_law_dice_here", "_law_items"]) (G_l_roll : Cg P w K mg base 1 "_law_roll" spRoll) (z_len : mg "len" = none) (z_list : mg "list" = none) : Cg P w K mg base 2 "_law_mixed" (spMixed K) := by
  refine D.ok sc_l_mixed (fun vs H Q E h => ?_) (fun cdv A outer s H vs Q E f hc hr h => ?_)
  · obtain ⟨d, a, ys, rfl, _⟩ := h
    rfl
  · obtain ⟨d, a, ys, rfl, hd, hS, ha, hl, q⟩ := h
    refine ⟨_, (pss_cons (ps_par (i := 2) (j := 3) (by rfl) sc_l_mixed.nd rfl rfl (by decide) rfl rfl (pa_cons (pe_callTy call_list_of (by rfl) z_list (by decide +kernel) (pa_cons (pv 1) pa_nil)) (pa_cons (pe_lst pa_nil) pa_nil)) (by rfl))
      (pss_cons (ps_while PassesOwn.never (pt_cmpR (op_neD hr.units) (pv 2) (pe_lst pa_nil) (nomark _))
      (pss_one (ps_expr (pe_bm PySem.F.plainAttrs_list PySem.F.slot_list_append PySem.F.type_list_append mt_append (pv 3) (pa_cons (pe_bm PySem.F.plainAttrs_list PySem.F.slot_list_pop PySem.F.type_list_pop mt_popAt (pv 2) (pa_cons (pe_cg G_l_roll hc hr (by rfl) (pa_cons (pv 0) (pa_cons (pe_callB call_len_seq (by rfl) z_len PySem.boot_len (pa_cons (pv 2) pa_nil)) pa_nil))) pa_nil)) pa_nil)))))
      (pss_one (ps_ret (pv 3))))), ?_⟩
    refine ⟨_, rfl, a, _, rfl, .inl hS, fun l nl => ⟨by show 0 ≤ sizeLine; decide, fun f nf => ?_⟩⟩
    refine ⟨_, _, rfl, ?_⟩
    refine ⟨fun m σ H' => ∃ us zs : List Str, us.length = m ∧ σ = [some (.ref d), some (.ref a), some (.ref l), some (.ref f)] ∧ Past d H H' ∧ H l = none ∧ H f = none ∧ l ≠ f ∧ l ≠ d ∧ f ≠ d ∧ H' l = some (.lst (us.map V.str)) ∧ H' f = some (.lst (zs.map V.str)) ∧ (zs ++ us).Perm ys, ⟨ys.length, ys, [], rfl, rfl, ?_⟩, ?_⟩
    · have lf : l ≠ f := fun e => by
        rw [← e, upd_same] at nf
        cases nf
      have nf0 : H f = none := by rw [upd_ne lf.symm] at nf; exact nf
      exact ⟨(Past.new hd nl).trans (Past.new (Past.new hd nl).dice nf), nl, nf0, lf, hd.ne nl, hd.ne nf0, by rw [upd_ne lf]; exact upd_same, upd_same, List.Perm.refl _⟩
    · rintro m σ H' ⟨us, zs, rfl, rfl, pp, nl', nf', lf, ld, fd', el, ef, pm⟩
      have hd' := pp.dice
      refine ⟨_, rfl, by show 0 ≤ sizeLine; decide, fun t nt => ?_⟩
      have st := same_new (o := .lst []) nt
      have pt := Past.new (o := .lst []) hd' nt
      refine ⟨.list (us.map PyData.str), .list [], .lst (.inl (.inl (st _ _ el))) (dp_strs us), .lst (.inl (.inl upd_same)) .nil, shaped_strs fun y hy => ha y (pm.mem_iff.mp (List.mem_append.mpr (.inr hy))), by decide +kernel, _, rfl, ?_⟩
      cases us with
      | nil =>
        rw [show (!PyData.eqv (.list (([] : List Str).map PyData.str)) (.list [])) = false from by decide +kernel]
        refine iteF ⟨_, rfl, q f zs _ (pp.trans pt) nf' fd' (st _ _ ef) ?_⟩
        simpa using pm
      | cons u0 us0 =>
        rw [eqv_cons]
        refine iteT ⟨fun σ' H'' => ∃ us1 zs1 : List Str, us1.length < (u0 :: us0).length ∧ σ' = [some (.ref d), some (.ref a), some (.ref l), some (.ref f)] ∧ Past d H H'' ∧ H'' l = some (.lst (us1.map V.str)) ∧ H'' f = some (.lst (zs1.map V.str)) ∧ (zs1 ++ us1).Perm ys, fun σ' H'' ⟨us1, zs1, h1, h2, h3, h4, h5, h6⟩ => ⟨us1.length, h1, us1, zs1, rfl, h2, h3, nl', nf', lf, ld, fd', h4, h5, h6⟩, ?_⟩
        have few : (u0 :: us0).length ≤ 60 := by
          have := pm.length_eq
          rw [List.length_append] at this
          omega
        have el1 := st _ _ el
        have ef1 := st _ _ ef
        have lp : l ≠ f := lf
        generalize upd H' t (.lst []) = H1 at pt el1 ef1 ⊢
        refine ⟨.ref f, rfl, .inl ⟨rfl, _, .inl (.inl ef1)⟩, .ref l, rfl, .inl ⟨rfl, _, .inl (.inl el1)⟩, _, rfl, _, rfl, l, _, rfl, .inl (.inl (.inl el1)), d, _, rfl, pt.dice, by rw [List.length_map]; simp, by rw [List.length_map]; exact small8000 (by omega), fun r H2 p2 r0 r1 => ?_⟩
        rw [List.length_map] at r1
        have rk : r.toNat < (u0 :: us0).length := by omega
        have el2 := p2.keep ld el1
        have ef2 := p2.keep fd' ef1
        have d2 := p2.dice
        refine ⟨l, _, r, r.toNat, .str ((u0 :: us0)[r.toNat]), rfl, rfl, el2, by omega, by have := few; omega, by rw [List.length_map]; exact seq_at r0 r1, by rw [List.getElem?_map, List.getElem?_eq_getElem rk]; rfl, ?_⟩
        refine ⟨f, _, _, rfl, rfl, by rw [upd_ne lf.symm]; exact ef2, ?_, (u0 :: us0).eraseIdx r.toNat, zs ++ [(u0 :: us0)[r.toNat]], ?_, rfl, ?_, ?_, ?_, ?_⟩
        · rw [List.length_map]
          have := pm.length_eq
          rw [List.length_append] at this
          exact Nat.lt_of_le_of_lt (show zs.length ≤ 60 by omega) (by decide)
        · rw [List.length_eraseIdx_of_lt rk]
          omega
        · have p12 := (pp.trans pt).trans p2
          exact ⟨fun b o n e => by
            have bl : b ≠ l := fun z => by rw [z, nl'] at e; cases e
            have bf : b ≠ f := fun z => by rw [z, nf'] at e; cases e
            rw [upd_ne bf, upd_ne bl]
            exact p12.1 b o n e, by
            obtain ⟨g, s, c, e⟩ := d2
            exact ⟨g, s, c, by rw [upd_ne fd'.symm, upd_ne ld.symm]; exact e⟩⟩
        · rw [upd_ne lf, upd_same, map_erase]
        · rw [upd_same, List.map_append]
          rfl
        · refine List.Perm.trans ?_ pm
          rw [List.append_assoc]
          exact List.Perm.append_left zs (erase_perm _ _ rk)
def pool : List Str := ["a", "b", "ab", "even", "left", "leftmost", "put", "top", "x", "zzzzzzzz"]
theorem pool_nodup : pool.Nodup := by decide +kernel
theorem pool_asc : ∀ y ∈ pool, Asc y := by
  have h : pool.all (fun y => y.cps.toList.all (fun c => decide (c < 128))) = true := by decide +kernel
  intro y hy c hc
  exact of_decide_eq_true (List.all_eq_true.mp (List.all_eq_true.mp h y hy) c hc)
theorem cut_take (zs : List Str) (m : Nat) : cutV (zs.map V.str) none (some (m : Int)) = (zs.take m).map V.str := by
  unfold cutV
  rw [HT.sIx_none, HT.sIx_nat]
  rw [List.drop_zero, Nat.sub_zero, List.length_map, ← List.map_take]
  by_cases h : m ≤ zs.length
  · rw [Nat.min_eq_left h]
  · rw [Nat.min_eq_right (by omega), List.take_of_length_le (Nat.le_refl _), List.take_of_length_le (by omega)]
/-- names(dice, many): so many different names of the pool, a new list -/
def spNms : Sp := fun vs H Q _ => ∃ (d : Addr) (m : Nat), vs = [.ref d, .int m] ∧ Dice H d ∧ m ≤ 10 ∧
  ∀ (p : Addr) (zs : List Str) (H' : Hp), Past d H H' → H p = none → p ≠ d → H' p = some (.lst (zs.map V.str)) → zs.length = m → zs.Nodup → (∀ z ∈ zs, z ∈ pool) → Q (.ref p) H'
theorem ok_l_names (D : Df K mg "_law_names" s_l_names ["_law_dice_here", "_law_many"]) (G_l_mixed : Cg P w K mg base 2 "_law_mixed" (spMixed K)) : Cg P w K mg base 3 "_law_names" spNms := by
  refine D.ok sc_l_names (fun vs H Q E h => ?_) (fun cdv A outer s H vs Q E f hc hr h => ?_)
  · obtain ⟨d, m, rfl, _⟩ := h
    rfl
  · obtain ⟨d, m, rfl, hd, hm, q⟩ := h
    refine ⟨_, (pss_cons (ps_set (i := 2) sc_l_names.nd rfl (Or.inl rfl) (pe_lst (pa_cons pe_str (pa_cons pe_str (pa_cons pe_str (pa_cons pe_str (pa_cons pe_str (pa_cons pe_str (pa_cons pe_str (pa_cons pe_str (pa_cons pe_str (pa_cons pe_str pa_nil))))))))))))
      (pss_one (ps_ret (pe_slice sl_list (pe_cg G_l_mixed hc hr (by rfl) (pa_cons (pv 0) (pa_cons (pv 2) pa_nil))) po_none (po_some (pv 1)))))), ?_⟩
    refine ⟨by show 10 ≤ sizeLine; decide, fun l nl => ⟨_, rfl, ?_⟩⟩
    have ll : l ≠ d := hd.ne nl
    refine ⟨_, rfl, d, l, pool, rfl, (Past.new hd nl).dice, .inl (.inl upd_same), pool_asc, by decide +kernel, fun p zs H1 p1 np pd e pm => ⟨_, rfl, _, rfl, ?_⟩⟩
    have p01 := (Past.new (o := .lst (pool.map V.str)) hd nl).trans p1
    have len : zs.length = 10 := pm.length_eq
    refine ⟨p, _, rfl, .inl (.inl e), fun t nt => ?_⟩
    rw [cut_take]
    have tn : H t = none := by
      cases z : H t with
      | none => rfl
      | some o =>
        have td : t ≠ d := p1.dice.ne nt
        rw [p01.keep td z] at nt
        cases nt
    refine q t (zs.take m) _ (p01.trans (Past.new p1.dice nt)) tn (p1.dice.ne nt) upd_same (by rw [List.length_take]; omega) ?_ fun z hz => ?_
    · exact ((List.Perm.nodup_iff pm).mpr pool_nodup).sublist (List.take_sublist _ _)
    · exact pm.mem_iff.mp (List.mem_of_mem_take hz)
end
end K11
set_option Elab.async false
set_option linter.all false
set_option autoImplicit false
set_option maxRecDepth 100000
set_option maxHeartbeats 8000000
namespace K11
open PySem PySem.Spec PyProof.Rows L2 Vb Wd Xd Xo Ts K01 Zt
abbrev s_l_scheme : Stmt := topS 53
abbrev nS : List Str := ["_law_dice_here", "_law_sorts_here", "_law_forms", "_law_names_here", "_law_name", "_law_tops", "_law_called", "_law_table", "_law_done", "_law_many", "_law_level", "_law_levels", "_law_form", "_law_turn", "_law_step"]
theorem sc_l_scheme : FnScope nS ["_law_dice_here", "_law_sorts_here", "_law_forms"] (defScope s_l_scheme) := ⟨rfl, rfl, rfl, by decide +kernel, rfl, by decide +kernel, by decide +kernel⟩
theorem Kid.tups {H H' : Hp} {t : Addr} {n : Str} {s : Int} (b : Tups H H') (k : Kid H t n s) : Kid H' t n s := ⟨b _ _ k.at_, k.nam, k.plain, k.lo, k.hi⟩
theorem Kids.tups {H H' : Hp} {c : Addr} {ts : List Addr} {cs : List (Str × Int)} (b : Tups H H') (k : Kids H c ts cs) : Kids H' c ts cs := ⟨b _ _ k.at_, k.len, k.lo, k.hi, fun i t c' h1 h2 => (k.kid i t c' h1 h2).tups b⟩
/-- the row of a form: a tuple of its sort and its children -/
def RowAt (H : Hp) (q : Addr) (d : FD) : Prop := ∃ (ch : Addr) (ks : List Addr), H q = some (.tup [.str d.2.1, .ref ch]) ∧ Kids H ch ks d.2.2
theorem RowAt.tups {H H' : Hp} {q : Addr} {d : FD} (b : Tups H H') (r : RowAt H q d) : RowAt H' q d := by
  obtain ⟨ch, ks, e, k⟩ := r
  exact ⟨ch, ks, b _ _ e, k.tups b⟩
/-- the words of a scheme as the law draws it: sorts of zs, forms called by names of the pool -/
structure Fit (b : Str) (ts : List Str) (rows : List FD) : Prop where
  ex : ∃ zs : List Str, zs.Nodup ∧ zs.length ≤ 6 ∧ (∀ z ∈ zs, z ∈ pool) ∧ (∀ y ∈ ts, y ∈ zs) ∧ ∀ r ∈ rows, ∀ y ∈ saidBy r, y ∈ zs
  bt : b ∈ ts
  srt : sortedS ts = true
  nd : ts.Nodup
  once : (rows.map (·.1)).Nodup
  named : ∀ r ∈ rows, r.1 ∈ pool
  some_ : 1 ≤ rows.length
  kinds : (rows.map (·.2)).Nodup
/-- such a scheme as the law holds it -/
structure Held (H : Hp) (a tl tb : Addr) (b : Str) (ts : List Str) (ps : List (FD × Addr)) : Prop where
  at_ : H a = some (.lst [.str b, .ref tl, .ref tb])
  tops : H tl = some (.lst (ts.map V.str))
  dict : H tb = some (.dK (kvsP ps))
  row : ∀ p ∈ ps, RowAt H p.2 p.1
def spLS : Sp := fun vs H Q _ => ∃ (d : Addr) (so fo : Nat), vs = [.ref d, .int so, .int fo] ∧ Dice H d ∧ 1 ≤ so ∧ so ≤ 6 ∧ 1 ≤ fo ∧ fo ≤ 10 ∧
  ∀ (p tl tb : Addr) (b : Str) (ts : List Str) (ps : List (FD × Addr)) (H' : Hp), Past d H H' → H p = none → p ≠ d → Held H' p tl tb b ts ps → Fit b ts (ps.map (·.1)) → ps.length ≤ fo → Q (.ref p) H'
theorem cut1 {α : Type} (f : α → V) (ws : List α) : cutV (ws.map f) (some 1) none = (ws.drop 1).map f := by
  unfold cutV
  have e : HT.sIx (ws.map f).length 0 (some 1) = min 1 (ws.map f).length := HT.sIx_nat _ _ 1
  rw [e, HT.sIx_none, List.length_map]
  by_cases h : ws.length ≤ 1
  · rw [Nat.min_eq_right h, List.drop_of_length_le (by rw [List.length_map]; exact Nat.le_refl _), List.drop_of_length_le h, List.take_nil]
    rfl
  · rw [Nat.min_eq_left (by omega), List.take_of_length_le (by rw [List.length_drop, List.length_map]; exact Nat.le_refl _), List.map_drop]
theorem cut01 (ws : List Str) : cutV (ws.map V.str) none (some 1) = (ws.take 1).map V.str := cut_take ws 1
theorem eqv_kinds (d e : Str × List (Str × Int)) : PyData.eqv (kindK d).data (kindK e).data = decide (d = e) := by
  rw [kind_data, kind_data]
  show (PyData.eqv (.str d.1) (.str e.1) && (PyData.eqvAll (d.2.map kidD) (e.2.map kidD) && true)) = _
  rw [eqv_kids, Bool.and_true]
  obtain ⟨a, cs⟩ := d
  obtain ⟨b, ds⟩ := e
  by_cases h1 : a = b <;> by_cases h2 : cs = ds <;> simp [PyData.eqv, h1, h2]
theorem lays_kid {c : Str × Int} (a : Asc c.1) : Lays 1 (kidD c) := lays_tup fun d hd => by
  rcases List.mem_cons.mp hd with rfl | hd
  · exact lays_str a
  · cases List.mem_singleton.mp hd
    exact lays_int _
theorem lays_kind {d : Str × List (Str × Int)} (a : Asc d.1) (b : ∀ c ∈ d.2, Asc c.1) : Lays 3 (kindK d).data := by
  rw [kind_data]
  refine lays_tup fun x hx => ?_
  rcases List.mem_cons.mp hx with rfl | hx
  · exact (lays_str a).le (by decide)
  · cases List.mem_singleton.mp hx
    refine lays_tup fun y hy => ?_
    obtain ⟨c, hc, rfl⟩ := List.mem_map.mp hy
    exact lays_kid (b c hc)
theorem RowAt.dp {K : PySem.W.Frag} {H : Hp} {q : Addr} {d : FD} (r : RowAt H q d) : Dp K H (.ref q) (kindK d.2).data := by
  obtain ⟨ch, ks, e, k⟩ := r
  rw [kind_data]
  exact .tup (.inl (.inl e)) (.cons (.str _) (.cons k.dp .nil))
theorem rows_dp {K : PySem.W.Frag} {H : Hp} : ∀ {ps : List (FD × Addr)}, (∀ p ∈ ps, RowAt H p.2 p.1) → DpAll K H (ps.map fun p => V.ref p.2) (ps.map fun p => (kindK p.1.2).data)
  | [], _ => .nil
  | p :: ps, h => .cons (h p List.mem_cons_self).dp (rows_dp fun q hq => h q (List.mem_cons_of_mem _ hq))
theorem Kids.asc {H : Hp} {a : Addr} {ts : List Addr} {cs : List (Str × Int)} (k : Kids H a ts cs) : ∀ c ∈ cs, Asc c.1 := fun c hc => by
  obtain ⟨i, hi, e⟩ := List.mem_iff_getElem.mp hc
  have ti : i < ts.length := by rw [k.len]; exact hi
  exact (k.kid i ts[i] c (List.getElem?_eq_getElem ti) (by rw [List.getElem?_eq_getElem hi, e])).plain.2
theorem pool_nam : ∀ y ∈ pool, isNam (.str y) = true := by
  intro y hy
  have : pool.all (fun y => isNam (.str y)) = true := by decide +kernel
  exact List.all_eq_true.mp this y hy
section
variable {P : Program} {w : World} {K : PySem.W.Frag} {mg : Str → Option Value} {base : Heap}
theorem ok_l_scheme (D : Df K mg "_law_scheme" s_l_scheme ["_law_dice_here", "_law_sorts_here", "_law_forms"]) (G_l_roll : Cg P w K mg base 1 "_law_roll" spRoll) (G_l_pick : Cg P w K mg base 2 "_law_pick" (spPick K)) (G_l_names : Cg P w K mg base 3 "_law_names" spNms)
    (z_sorted : mg "sorted" = none) (z_range : mg "range" = none) (z_tuple : mg "tuple" = none) : Cg P w K mg base 4 "_law_scheme" spLS := by
  refine D.ok sc_l_scheme (fun vs H Q E h => ?_) (fun cdv A outer s H vs Q E f hc hr h => ?_)
  · obtain ⟨d, so, fo, rfl, _⟩ := h
    rfl
  · obtain ⟨d, so, fo, rfl, hd, so1, so8, fo1, fo10, q⟩ := h
    refine ⟨_, (pss_cons (ps_set (i := 3) sc_l_scheme.nd rfl (Or.inr rfl) (pe_cg G_l_names hc hr (by rfl) (pa_cons (pv 0) (pa_cons (pe_op op_add pe_int (pe_cg G_l_roll hc hr (by rfl) (pa_cons (pv 0) (pa_cons (pv 1) pa_nil)))) pa_nil))))
      (pss_cons (ps_set (i := 5) sc_l_scheme.nd rfl (Or.inl rfl) (pe_callB cr_sortedS (by rfl) z_sorted (by decide +kernel) (pa_cons (pe_op op_cat (pe_slice sl_list (pv 3) po_none (po_some pe_int)) (pe_lc (own := [("_law_name", 4)]) (g := gName 4) (by rfl) sc_l_scheme.nd (pi_list (pe_slice sl_list (pv 3) (po_some pe_int) po_none)) (blkOk_by (own := [("_law_name", 4)]) (N := nS) (sc := defScope s_l_scheme) (by decide +kernel)) (fun _ _ _ _ _ => pg_name (i := 4) sc_l_scheme.nd rfl (Or.inl rfl))
        (fun _ _ _ _ _ => (pts_one (pt_cmpR op_eq (pe_cg G_l_roll hc hr (by rfl) (pa_cons (pv 0) (pa_cons pe_int pa_nil))) pe_int (nomark _)))) (fun _ _ _ _ _ => (pv 4)))) pa_nil)))
      (pss_cons (ps_set (i := 6) sc_l_scheme.nd rfl (Or.inl rfl) (pe_cg G_l_names hc hr (by rfl) (pa_cons (pv 0) (pa_cons (pe_op op_add pe_int (pe_cg G_l_roll hc hr (by rfl) (pa_cons (pv 0) (pa_cons (pv 2) pa_nil)))) pa_nil))))
      (pss_cons (ps_par (i := 7) (j := 8) (by rfl) sc_l_scheme.nd rfl rfl (by decide) rfl rfl (pa_cons pe_dnewK (pa_cons (pe_lst pa_nil) pa_nil)) (by rfl))
      (pss_cons (ps_for PassesOwn.never rfl (pi_list (pv 6)) (pg_name (i := 4) sc_l_scheme.nd rfl (Or.inl rfl))
      (pss_cons (ps_set (i := 9) sc_l_scheme.nd rfl (Or.inl rfl) (pe_cg G_l_pick hc hr (by rfl) (pa_cons (pv 0) (pa_cons (pe_lst (pa_cons pe_int (pa_cons pe_int (pa_cons pe_int (pa_cons pe_int (pa_cons pe_int (pa_cons pe_int pa_nil))))))) pa_nil))))
      (pss_cons (ps_set (i := 10) sc_l_scheme.nd rfl (Or.inl rfl) (pe_cg G_l_pick hc hr (by rfl) (pa_cons (pv 0) (pa_cons (pe_lst (pa_cons pe_int (pa_cons pe_int (pa_cons pe_int (pa_cons pe_int (pa_cons pe_int (pa_cons pe_int (pa_cons pe_int (pa_cons pe_int pa_nil))))))))) pa_nil))))
      (pss_cons (ps_set (i := 11) sc_l_scheme.nd rfl (Or.inl rfl) (pe_op op_rep (pe_lst (pa_cons (pv 10) pa_nil)) (pv 9)))
      (pss_cons (ps_if (pt_cmpR op_eq (pe_cg G_l_roll hc hr (by rfl) (pa_cons (pv 0) (pa_cons pe_int pa_nil))) pe_int (nomark _))
      (pss_one (ps_setLc (i := 11) (own := [("_law_turn", 13)]) (g := gName 13) (by rfl) sc_l_scheme.nd rfl rfl (sw_true rfl rfl rfl (by decide +kernel)) (pi_range1 (by rfl) z_range (pa_cons (pv 9) pa_nil)) (blkOk_by (own := [("_law_turn", 13)]) (N := nS) (sc := defScope s_l_scheme) (by decide +kernel)) (fun _ _ _ _ _ => pg_name (i := 13) sc_l_scheme.nd rfl (Or.inl rfl)) (fun _ _ _ _ _ => pts_nil)
        (fun _ _ _ _ _ => (pe_cg G_l_pick hc hr (by rfl) (pa_cons (pv 0) (pa_cons (pe_lst (pa_cons pe_int (pa_cons pe_int (pa_cons pe_int (pa_cons pe_int (pa_cons pe_int pa_nil)))))) pa_nil))))))
      pss_nil)
      (pss_cons (ps_set (i := 12) sc_l_scheme.nd rfl (Or.inl rfl) (pe_tup (pa_cons (pe_cg G_l_pick hc hr (by rfl) (pa_cons (pv 0) (pa_cons (pv 3) pa_nil))) (pa_cons (pe_callTy (cr_tuple : CallR _ _ (rTup K)) (by rfl) z_tuple (by decide +kernel) (pa_cons (pe_lc (own := [("_law_step", 14)]) (g := gName 14) (by rfl) sc_l_scheme.nd (pi_list (pv 11)) (blkOk_by (own := [("_law_step", 14)]) (N := nS) (sc := defScope s_l_scheme) (by decide +kernel)) (fun _ _ _ _ _ => pg_name (i := 14) sc_l_scheme.nd rfl (Or.inl rfl)) (fun _ _ _ _ _ => pts_nil)
        (fun _ _ _ _ _ => (pe_tup (pa_cons (pe_cg G_l_pick hc hr (by rfl) (pa_cons (pv 0) (pa_cons (pv 3) pa_nil))) (pa_cons (pv 14) pa_nil))))) pa_nil)) pa_nil))))
      (pss_one (ps_if (pt_cmpR (op_notInD (units65 hr)) (pv 12) (pv 8) (by rfl))
      (pss_cons (ps_expr (pe_bm PySem.F.plainAttrs_list PySem.F.slot_list_append PySem.F.type_list_append mt_append (pv 8) (pa_cons (pv 12) pa_nil)))
      (pss_one (ps_dput (hu_of hr) (pv 7) (pv 4) (pv 12) (by rfl))))
      pss_nil))))))))
      (pss_one (ps_ret (pe_lst (pa_cons (pe_ix (ix_list : IxR _ (rIxL K)) (pv 3) pe_int (fun _ _ => rfl)) (pa_cons (pv 5) (pa_cons (pv 7) pa_nil))))))))))), ?_⟩
    have big : ∀ {n : Nat}, n ≤ 200 → n < sizeLine := fun h => Nat.lt_of_le_of_lt h (by decide)
    have dice : ∀ {H' : Hp}, Past d H H' → Dice H' d := fun p => p.2
    refine ⟨_, rfl, _, rfl, _, rfl, d, so, rfl, hd, by omega, small8000 (by omega), fun r H1 p1 r0 r1 => ?_⟩
    obtain ⟨k1, rfl⟩ := nat_of r0
    refine ⟨_, _, rfl, rfl, d, 1 + k1, rfl, p1.2, by omega, fun a1 zs H2 p2 n2 d2 e2 zl znd zp => ?_⟩
    have p02 := p1.trans p2
    have hd2 := p02.2
    obtain ⟨z0, zt, rfl⟩ : ∃ z0 zt, zs = z0 :: zt := by
      cases zs with
      | nil => simp at zl; omega
      | cons z0 zt => exact ⟨z0, zt, rfl⟩
    -- the tops
    refine ⟨_, rfl, _, rfl, a1, _, rfl, .inl (.inl e2), fun l1 nl1 => ?_⟩
    rw [cut01]
    obtain ⟨H3, eH3, p3, e3, d3⟩ := opened hd2 nl1 (.lst (((z0 :: zt).take 1).map V.str))
    rw [eH3]
    refine ⟨_, rfl, _, rfl, a1, _, rfl, .inl (.inl (p3.1 _ _ d2 e2)), fun l2 nl2 => ?_⟩
    rw [cut1]
    obtain ⟨H4, eH4, p4, e4, d4⟩ := opened p3.2 nl2 (.lst (((z0 :: zt).drop 1).map V.str))
    rw [eH4]
    have zpool : ∀ z ∈ z0 :: zt, z ∈ pool := zp
    refine ⟨l2, rfl, ⟨_, .inl (.inl e4)⟩, fun D nD => ?_⟩
    have dD := p4.2.ne nD
    refine lc_list (K := K) (a := l2) (xs := zt.map V.str) (fun i H' => Past d H4 H' ∧ ∃ ws : List Str, H' D = some (.lst (ws.map V.str)) ∧ ws.Sublist (zt.take i)) ⟨past_put nD dD (Past.refl p4.2), [], upd_same, List.Sublist.refl _⟩ (fun i H' _ h => h.1.seq d4 (.inl (.inl e4))) (fun i x H5 hx h => ?_) (fun H5 h => ?_)
    · obtain ⟨p5, ws, e5, sub⟩ := h
      rw [List.getElem?_map] at hx
      obtain ⟨z, hz, rfl⟩ := Option.map_eq_some_iff.mp hx
      refine ⟨rfl, _, rfl, d, 3, rfl, p5.2, by decide, by decide +kernel, fun r H6 p6 r0 r1 => ⟨rfl, _, rfl, ?_⟩⟩
      have tk : zt.take (i + 1) = zt.take i ++ [z] := by
        rw [List.take_add_one, hz]
        rfl
      have e6 := p6.1 _ _ dD e5
      refine ite2 (fun _ => ⟨_, rfl, _, e6, ?_, past_put nD dD (p5.trans p6), ws ++ [z], ?_, ?_⟩) (fun _ => ⟨p5.trans p6, ws, e6, ?_⟩)
      · rw [List.length_map]
        have := sub.length_le
        rw [List.length_take] at this
        have := zt.length
        simp only [List.length_cons] at zl
        exact big (by omega)
      · rw [upd_same, List.map_append]
        rfl
      · rw [tk]
        exact sub.append (List.Sublist.refl _)
      · rw [tk]
        exact sub.trans (List.sublist_append_left _ _)
    · obtain ⟨p5, ws, e5, sub⟩ := h
      rw [List.length_map, List.take_of_length_le (Nat.le_refl _)] at sub
      simp only [List.length_cons] at zl
      have wl := sub.length_le
      have e3' := (p4.trans p5).1 _ _ d3 e3
      refine ⟨l1, D, _, _, rfl, rfl, e3', e5, by simp only [List.length_map, List.length_take, List.length_cons]; exact Nat.le_of_lt (big (by omega)), fun l3 nl3 => ?_⟩
      obtain ⟨H6, eH6, p6, e6, d6⟩ := opened p5.2 nl3 (.lst ((((z0 :: zt).take 1).map V.str) ++ ws.map V.str))
      rw [eH6]
      have e6' : H6 l3 = some (.lst ((z0 :: ws).map V.str)) := e6
      refine ⟨l3, z0 :: ws, rfl, .inl (.inl e6'), by simp only [List.length_cons]; omega, fun ts tl pm srt ntl => ?_⟩
      obtain ⟨H7, eH7, p7, e7, d7⟩ := opened p6.2 ntl (.lst (ts.map V.str))
      rw [eH7]
      -- the names of the forms
      refine ⟨_, rfl, _, rfl, _, rfl, d, fo, rfl, p7.2, by omega, small8000 (by omega), fun r H8 p8 r0 r1 => ?_⟩
      obtain ⟨k2, rfl⟩ := nat_of r0
      refine ⟨_, _, rfl, rfl, d, 1 + k2, rfl, p8.2, by omega, fun cl cs H9 p9 n9 d9 e9 cl9 cnd cp => ?_⟩
      refine fun tb ntb => ?_
      obtain ⟨H10, eH10, p10, e10, d10⟩ := opened p9.2 ntb (.dK [])
      rw [eH10]
      refine ⟨by show 0 ≤ sizeLine; decide, fun dn ndn => ?_⟩
      obtain ⟨H11, eH11, p11, e11, d11⟩ := opened p10.2 ndn (.lst [])
      rw [eH11]
      have ndn9 : H9 dn = none := fresh_of p10 ndn d11
      have tdn : tb ≠ dn := ne_of_none e10 ndn
      have a9 : H9 a1 = some (.lst ((z0 :: zt).map V.str)) := ((((((p3.trans p4).trans p5).trans p6).trans p7).trans p8).trans p9).1 _ _ d2 e2
      have t9 : H9 tl = some (.lst (ts.map V.str)) := (p8.trans p9).1 _ _ d7 e7
      have cp' : ∀ y ∈ cs, y ∈ pool := cp
      refine ⟨_, _, rfl, _, rfl, cl, rfl, ⟨_, .inl (.inl ((p10.trans p11).1 _ _ d9 e9))⟩, for_list (K := K) (a := cl) (xs := cs.map V.str) (fun i σ H' => (∃ o4 o9 o10 o11 o12 o13 o14, σ = [some (.ref d), some (.int so), some (.int fo), some (.ref a1), o4, some (.ref tl), some (.ref cl), some (.ref tb), some (.ref dn), o9, o10, o11, o12, o13, o14]) ∧
          ∃ ps : List (FD × Addr), Past d H9 H' ∧ H' tb = some (.dK (kvsP ps)) ∧ H' dn = some (.lst (ps.map fun p => V.ref p.2)) ∧ (∀ p ∈ ps, RowAt H' p.2 p.1) ∧ (ps.map (·.1.1)).Sublist (cs.take i) ∧ (ps.map (·.1.2)).Nodup ∧ (∀ p ∈ ps, ∀ y ∈ saidBy p.1, y ∈ z0 :: zt) ∧ (1 ≤ i → ps ≠ []))
        ⟨⟨none, none, none, none, none, none, none, rfl⟩, [], p10.trans p11, p11.1 _ _ d10 e10, e11, (fun p h => nomatch h), List.nil_sublist _, List.nodup_nil, (fun p h => nomatch h), (fun h => absurd h (by decide))⟩ (fun i σ H' _ h => ?_) (fun i x σ H12 hx h => ?_) (fun σ H12 h => ?_)⟩
      · obtain ⟨_, ps, p12, _⟩ := h
        exact p12.seq d9 (.inl (.inl e9))
      · obtain ⟨⟨o4, o9, o10, o11, o12, o13, o14, rfl⟩, ps, p12, tb12, dn12, row12, sub12, kin12, said12, some12⟩ := h
        rw [List.getElem?_map] at hx
        obtain ⟨c, hc', rfl⟩ := Option.map_eq_some_iff.mp hx
        have a12 := p12.1 _ _ d2 a9
        -- how many children, on what level
        refine ⟨_, rfl, by show 6 ≤ sizeLine; decide, fun l20 n20 => ?_⟩
        obtain ⟨H13, eH13, p13, e13, d13⟩ := opened p12.2 n20 (.lst (([2, 2, 2, 3, 3, 4] : List Int).map V.int))
        rw [show upd H12 l20 (.lst [.int 2, .int 2, .int 2, .int 3, .int 3, .int 4]) = H13 from eH13]
        refine ⟨d, .ref l20, (fun v => ∃ m : Nat, v = .int m ∧ 2 ≤ m ∧ m ≤ 4), rfl, p13.2, .inl ⟨l20, _, rfl, d13, .inl (.inl (.inl e13)), by simp, by decide, pick_nat (by decide)⟩, fun v H14 p14 hv => ?_⟩
        obtain ⟨m, rfl, m2, m4⟩ := hv
        refine ⟨_, rfl, by show 8 ≤ sizeLine; decide, fun l21 n21 => ?_⟩
        obtain ⟨H15, eH15, p15, e15, d15⟩ := opened p14.2 n21 (.lst (([1, 1, 1, 1, 2, 2, 3, 0] : List Int).map V.int))
        rw [show upd H14 l21 (.lst [.int 1, .int 1, .int 1, .int 1, .int 2, .int 2, .int 3, .int 0]) = H15 from eH15]
        refine ⟨d, .ref l21, (fun v => ∃ m : Nat, v = .int m ∧ 0 ≤ m ∧ m ≤ 3), rfl, p15.2, .inl ⟨l21, _, rfl, d15, .inl (.inl (.inl e15)), by simp, by decide, pick_nat (by decide)⟩, fun v H16 p16 hv => ?_⟩
        obtain ⟨lv0, rfl, _, lv3⟩ := hv
        refine ⟨_, rfl, by show 1 ≤ sizeLine; decide, fun l22 n22 => ?_⟩
        obtain ⟨H17, eH17, p17, e17, d17⟩ := opened p16.2 n22 (.lst [.int lv0])
        rw [eH17]
        refine ⟨_, rfl, l22, m, _, rfl, rfl, e17, by omega, by omega, by show 1 * (m : Int).toNat ≤ sizeLine; exact Nat.le_of_lt (big (by omega)), fun l23 n23 => ?_⟩
        obtain ⟨H18, eH18, p18, e18, d18⟩ := opened p17.2 n23 (.lst (List.replicate (m : Int).toNat [V.int lv0]).flatten)
        rw [eH18]
        have fl : (List.replicate (m : Int).toNat [V.int lv0]).flatten = (List.replicate m lv0).map fun (k : Nat) => V.int k := by
          rw [Int.toNat_natCast, List.map_replicate]
          exact List.flatten_replicate_singleton
        rw [fl] at e18
        have p1218 := ((((p13.trans p14).trans p15).trans p16).trans p17).trans p18
        -- the steps
        refine name_join (fun σ H' => ∃ (o13 : Option V) (lv : Addr) (ks : List Nat), σ = [some (.ref d), some (.int so), some (.int fo), some (.ref a1), some (.str c), some (.ref tl), some (.ref cl), some (.ref tb), some (.ref dn), some (.int m), some (.int lv0), some (.ref lv), o12, o13, o14] ∧ Past d H12 H' ∧ lv ≠ d ∧ H' lv = some (.lst (ks.map fun (k : Nat) => V.int k)) ∧ ks.length = m ∧ ∀ k ∈ ks, k ≤ 3) (fun nx hnx => ?_) (fun σ H19 h => ?_)
        · refine ⟨_, rfl, d, 2, rfl, p18.2, by decide, by decide +kernel, fun r H19 p19 r0 r1 => ⟨rfl, _, rfl, ite2 (fun _ => ?_) (fun _ => ?_)⟩⟩
          · refine ⟨_, rfl, m, rfl, by omega, by omega, fun D nD => ?_⟩
            have dD := p19.2.ne nD
            refine lc_range (n := ((m : Int)).toNat) (lo := 0) (fun i H' => Past d H19 H' ∧ ∃ ks : List Nat, H' D = some (.lst (ks.map fun (k : Nat) => V.int k)) ∧ ks.length = i ∧ ∀ k ∈ ks, k ≤ 3) ⟨past_put nD dD (Past.refl p19.2), [], upd_same, rfl, (fun k h => nomatch h)⟩ (fun i H20 hi h => ?_) (fun H20 h => ?_)
            · obtain ⟨p20, ks, e20, kl, k3⟩ := h
              refine ⟨rfl, _, rfl, by show 5 ≤ sizeLine; decide, fun l24 n24 => ?_⟩
              obtain ⟨H21, eH21, p21, e21, d21⟩ := opened p20.2 n24 (.lst (([1, 1, 2, 0, 3] : List Int).map V.int))
              rw [show upd H20 l24 (.lst [.int 1, .int 1, .int 2, .int 0, .int 3]) = H21 from eH21]
              refine ⟨d, .ref l24, (fun v => ∃ m : Nat, v = .int m ∧ 0 ≤ m ∧ m ≤ 3), rfl, p21.2, .inl ⟨l24, _, rfl, d21, .inl (.inl (.inl e21)), by simp, by decide, pick_nat (by decide)⟩, fun v H22 p22 hv => ?_⟩
              obtain ⟨k, rfl, _, hk⟩ := hv
              have e22 := (p21.trans p22).1 _ _ dD e20
              refine ⟨_, e22, by rw [List.length_map]; exact big (by omega), past_put nD dD ((p20.trans p21).trans p22), ks ++ [k], ?_, by rw [List.length_append, kl]; rfl, fun x hx => ?_⟩
              · rw [upd_same, List.map_append]
                rfl
              · rcases List.mem_append.mp hx with hx | hx
                · exact k3 x hx
                · rw [List.mem_singleton.mp hx]
                  exact hk
            · obtain ⟨p20, ks, e20, kl, k3⟩ := h
              exact hnx _ _ ⟨_, D, ks, rfl, (p1218.trans p19).trans p20, dD, e20, by rw [kl, Int.toNat_natCast], k3⟩
          · refine hnx _ _ ⟨_, l23, List.replicate m lv0, rfl, p1218.trans p19, d18, p19.1 _ _ d18 e18, List.length_replicate .., fun k hk => ?_⟩
            rw [(List.mem_replicate.mp hk).2]
            exact lv3
        · obtain ⟨o13', lv, ks, rfl, p1219, dlv, e19, kl, k3⟩ := h
          have a19 := p1219.1 _ _ d2 a12
          have pickz : ∀ {H' : Hp}, Dice H' d → SqL K H' a1 ((z0 :: zt).map V.str) → Some1 K H' d (.ref a1) (fun v => ∃ z, v = .str z ∧ z ∈ z0 :: zt) := fun hd' sq => .inl ⟨a1, _, rfl, d2, .inl sq, by simp, by rw [List.length_map]; simp only [List.length_cons]; omega, fun v hv => by
            obtain ⟨z, hz, rfl⟩ := List.mem_map.mp hv
            exact ⟨z, rfl, hz⟩⟩
          refine ⟨_, rfl, _, rfl, d, .ref a1, _, rfl, p1219.2, pickz p1219.2 (.inl (.inl a19)), fun v H20 p20 hv => ?_⟩
          obtain ⟨sort, rfl, sm⟩ := hv
          refine ⟨_, rfl, lv, rfl, ⟨_, .inl (.inl (p20.1 _ _ dlv e19))⟩, fun D nD => ?_⟩
          have dD := p20.2.ne nD
          refine lc_list (K := K) (a := lv) (xs := ks.map fun (k : Nat) => V.int k) (fun i H' => Past d H20 H' ∧ ∃ (us : List Addr) (cc : List (Str × Int)), H' D = some (.lst (us.map V.ref)) ∧ us.length = i ∧ cc.length = i ∧ (∀ (j : Nat) (u : Addr) (e : Str × Int), us[j]? = some u → cc[j]? = some e → Kid H' u e.1 e.2) ∧ ∀ e ∈ cc, e.1 ∈ z0 :: zt)
            ⟨past_put nD dD (Past.refl p20.2), [], [], upd_same, rfl, rfl, (fun j u e h => by simp at h), (fun e h => nomatch h)⟩ (fun i H' _ h => h.1.seq dlv (.inl (.inl (p20.1 _ _ dlv e19)))) (fun i x H21 hx h => ?_) (fun H21 h => ?_)
          · obtain ⟨p21, us, cc, e21, ul, ccl, kd, csub⟩ := h
            rw [List.getElem?_map] at hx
            obtain ⟨k, hk, rfl⟩ := Option.map_eq_some_iff.mp hx
            have kk3 := k3 k (List.mem_of_getElem? hk)
            have il := (List.getElem?_eq_some_iff.mp hk).1
            refine ⟨rfl, _, rfl, _, rfl, d, .ref a1, _, rfl, p21.2, pickz p21.2 (.inl (.inl ((p20.trans p21).1 _ _ d2 a19))), fun v H22 p22 hv => ?_⟩
            obtain ⟨z, rfl, zm⟩ := hv
            refine ⟨_, rfl, by show 2 ≤ sizeLine; decide, fun u nu => ?_⟩
            obtain ⟨H23, eH23, p23, e23, d23⟩ := opened p22.2 nu (.tup [.str z, .int k])
            rw [eH23]
            have e23D := (p22.trans p23).1 _ _ dD e21
            have tp : Tups H21 (upd H23 D (.lst (us.map V.ref ++ [.ref u]))) := ((Tups.past p21.2 p22).trans (Tups.past p22.2 p23)).trans (Tups.putL _ e23D)
            have uD : u ≠ D := fun zz => by
              rw [zz, e23D] at e23
              cases e23
            refine ⟨_, e23D, by rw [List.length_map]; exact big (by omega), past_put nD dD ((p21.trans p22).trans p23), us ++ [u], cc ++ [(z, (k : Int))], ?_, by rw [List.length_append, ul]; rfl, by rw [List.length_append, ccl]; rfl, fun j u' e h1 h2 => ?_, fun e he => ?_⟩
            · rw [upd_same, List.map_append]
              rfl
            · rw [List.getElem?_append] at h1 h2
              by_cases jl : j < us.length
              · rw [if_pos jl] at h1
                rw [if_pos (by omega)] at h2
                exact (kd j u' e h1 h2).tups tp
              · rw [if_neg jl] at h1
                rw [if_neg (by omega)] at h2
                have j0 : j - us.length = 0 := by
                  have := (List.getElem?_eq_some_iff.mp h1).1
                  simp at this
                  omega
                have j1 : j - cc.length = 0 := by omega
                rw [j0] at h1
                rw [j1] at h2
                cases h1
                cases h2
                have nz := pool_nam z (zpool z zm)
                refine ⟨by rw [upd_ne uD]; exact e23, nz, ?_, by omega, by omega⟩
                have := (nam_len nz).2.1
                exact ⟨show z.length ≤ 1000 by omega, pool_asc z (zpool z zm)⟩
            · rcases List.mem_append.mp he with he | he
              · exact csub e he
              · rw [List.mem_singleton.mp he]
                exact zm
          · obtain ⟨p21, us, cc, e21, ul, ccl, kd, csub⟩ := h
            rw [List.length_map, kl] at ul ccl
            refine ⟨D, _, rfl, .inl ⟨.inl (.inl e21), fun ch nch => ?_⟩⟩
            obtain ⟨H22, eH22, p22, e22, d22⟩ := opened p21.2 nch (.tup (us.map V.ref))
            rw [eH22]
            have kids22 : Kids H22 ch us cc := ⟨e22, by omega, by omega, by omega, fun j u e h1 h2 => (kd j u e h1 h2).tups (Tups.past p21.2 p22)⟩
            refine ⟨by show 2 ≤ sizeLine; decide, fun fq nfq => ?_⟩
            obtain ⟨H23, eH23, p23, e23, d23⟩ := opened p22.2 nfq (.tup [.str sort, .ref ch])
            rw [eH23]
            have row23 : RowAt H23 fq (c, sort, cc) := ⟨ch, us, e23, kids22.tups (Tups.past p22.2 p23)⟩
            have p1223 := (((p1219.trans p20).trans p21).trans p22).trans p23
            have tp1223 := Tups.past p12.2 p1223
            have rows23 : ∀ p ∈ ps, RowAt H23 p.2 p.1 := fun p hp => (row12 p hp).tups tp1223
            have dtb : tb ≠ d := d10
            have tb23 := p1223.1 _ _ d10 tb12
            have dn23 := p1223.1 _ _ d11 dn12
            have lsort : Asc sort := pool_asc sort (zpool sort sm)
            have lrow : ∀ p ∈ ps, Lays 3 (kindK p.1.2).data := fun p hp => by
              obtain ⟨ch', ks', _, kk⟩ := row12 p hp
              exact lays_kind (pool_asc _ (zpool _ (said12 p hp _ List.mem_cons_self))) kk.asc
            refine ⟨_, rfl, _, rfl, (kindK (sort, cc)).data, ps.map (fun p => (kindK p.1.2).data), row23.dp, .lst (.inl (.inl dn23)) (rows_dp rows23), (lays_kind lsort kids22.asc).shaped (by decide), (lays_lst (n := 3) fun x hx => ?_).shaped (by decide), _, rfl, ?_⟩
            · obtain ⟨p, hp, rfl⟩ := List.mem_map.mp hx
              exact lrow p hp
            · have any_ : ((ps.map fun p => (kindK p.1.2).data).any fun z => PyData.eqv z (kindK (sort, cc)).data) = decide ((sort, cc) ∈ ps.map (·.1.2)) := by
                rw [List.any_map]
                apply Bool.eq_iff_iff.mpr
                rw [List.any_eq_true, decide_eq_true_eq, List.mem_map]
                constructor
                · rintro ⟨p, hp, e⟩
                  have e' : PyData.eqv (kindK p.1.2).data (kindK (sort, cc)).data = true := e
                  rw [eqv_kinds, decide_eq_true_eq] at e'
                  exact ⟨p, hp, e'⟩
                · rintro ⟨p, hp, e⟩
                  exact ⟨p, hp, by show PyData.eqv (kindK p.1.2).data (kindK (sort, cc)).data = true; rw [eqv_kinds, decide_eq_true_eq]; exact e⟩
              rw [any_]
              have tk : cs.take (i + 1) = cs.take i ++ [c] := by
                rw [List.take_add_one, hc']
                rfl
              have subl : (ps.map (·.1.1)).Sublist (cs.take (i + 1)) := by
                rw [tk]
                exact sub12.trans (List.sublist_append_left _ _)
              by_cases mem : (sort, cc) ∈ ps.map (·.1.2)
              · rw [decide_eq_true mem]
                refine iteF ⟨⟨_, _, _, _, _, _, _, rfl⟩, ps, p12.trans p1223, tb23, dn23, rows23, subl, kin12, said12, fun _ z => ?_⟩
                rw [z] at mem
                cases mem
              · rw [decide_eq_false mem]
                refine iteT ⟨_, rfl, .inl ⟨rfl, _, .inl (.inl dn23)⟩, _, rfl, dn, _, _, rfl, rfl, dn23, ?_, ?_⟩
                · rw [List.length_map]
                  have := sub12.length_le
                  rw [List.length_map, List.length_take] at this
                  exact big (by omega)
                generalize eH24 : upd H23 dn (.lst (ps.map (fun p => V.ref p.2) ++ [.ref fq])) = H24
                have dn24 : H24 dn = some (.lst ((ps ++ [((c, sort, cc), fq)]).map fun p => V.ref p.2)) := by
                  rw [← eH24, upd_same, List.map_append]
                  rfl
                have tb24 : H24 tb = some (.dK (kvsP ps)) := by rw [← eH24, upd_ne tdn]; exact tb23
                have tp24 : Tups H23 H24 := by rw [← eH24]; exact Tups.putL _ dn23
                have p24 : Past d H9 H24 := by rw [← eH24]; exact past_put ndn9 d11 (p12.trans p1223)
                have cout : c ∉ ps.map (·.1.1) := fun hm => by
                  have m2 := sub12.subset hm
                  obtain ⟨j, hj⟩ := List.mem_iff_getElem?.mp m2
                  rw [List.getElem?_take] at hj
                  split at hj
                  · rename_i ji
                    have := (List.getElem?_inj (by have := (List.getElem?_eq_some_iff.mp hj).1; omega) cnd).mp (hj.trans hc'.symm)
                    omega
                  · cases hj
                refine ⟨_, rfl, _, rfl, _, rfl, tb, _, rfl, DPut.k (k := Sum.inr c) tb24 ?_, ⟨_, _, _, _, _, _, _, rfl⟩, ps ++ [((c, sort, cc), fq)], past_put ntb d10 p24, ?_, ?_, fun p hp => ?_, ?_, ?_, fun p hp => ?_, fun _ z => ?_⟩
                · unfold kvsP
                  rw [List.length_map]
                  have := sub12.length_le
                  rw [List.length_map, List.length_take] at this
                  exact big (by omega)
                · rw [upd_same]
                  exact congrArg (fun z => some (HO.dK z)) (kvsP_put (p := ((c, sort, cc), fq)) cout)
                · rw [upd_ne tdn.symm]
                  exact dn24
                · have tpe : Tups H23 (upd H24 tb (.dK (putK (kvsP ps) (Sum.inr c) (.ref fq)))) := tp24.trans (Tups.putD _ tb24)
                  rcases List.mem_append.mp hp with hp | hp
                  · exact (rows23 p hp).tups tpe
                  · rw [List.mem_singleton.mp hp]
                    exact row23.tups tpe
                · rw [tk, List.map_append]
                  exact sub12.append (List.Sublist.refl _)
                · rw [List.map_append]
                  refine List.nodup_append.mpr ⟨kin12, List.nodup_cons.mpr ⟨(fun h => nomatch h), List.nodup_nil⟩, fun x hx y hy e => ?_⟩
                  rw [List.mem_singleton.mp hy] at e
                  rw [e] at hx
                  exact mem hx
                · rcases List.mem_append.mp hp with hp | hp
                  · exact said12 p hp
                  · rw [List.mem_singleton.mp hp]
                    intro y hy
                    rcases List.mem_cons.mp hy with rfl | hy
                    · exact sm
                    · obtain ⟨e, he, rfl⟩ := List.mem_map.mp hy
                      exact csub e he
                · simp at z
      · obtain ⟨⟨o4, o9, o10, o11, o12, o13, o14, rfl⟩, ps, p12, tb12, dn12, row12, sub12, kin12, said12, some12⟩ := h
        rw [List.length_map, List.take_of_length_le (Nat.le_refl _)] at sub12
        rw [List.length_map] at some12
        have a12 := p12.1 _ _ d2 a9
        have t12 := p12.1 _ _ d7 t9
        refine ⟨_, rfl, a1, _, _, .str z0, rfl, rfl, .inl (.inl a12), at_of' (j := 0) rfl rfl, _, rfl, _, rfl, by show 3 ≤ sizeLine; decide, fun p np => ?_⟩
        obtain ⟨H13, eH13, p13, e13, d13⟩ := opened p12.2 np (.lst [.str z0, .ref tl, .ref tb])
        rw [eH13]
        have pall := ((((((p02.trans p3).trans p4).trans p5).trans p6).trans p7).trans p8).trans (p9.trans (p12.trans p13))
        have pnone : H p = none := fresh_of ((((((p02.trans p3).trans p4).trans p5).trans p6).trans p7).trans (p8.trans (p9.trans p12))) np d13
        have subp : (ps.map (·.1)).map (·.1) = ps.map (·.1.1) := by rw [List.map_map]; rfl
        have subk : (ps.map (·.1)).map (·.2) = ps.map (·.1.2) := by rw [List.map_map]; rfl
        refine q p tl tb z0 ts ps H13 pall pnone d13 ⟨e13, p13.1 _ _ d7 t12, p13.1 _ _ d10 tb12, fun r hr' => (row12 r hr').tups (Tups.past p12.2 p13)⟩ ⟨⟨z0 :: zt, znd, by simp only [List.length_cons]; omega, zpool, fun y hy => ?_, fun r hr' y hy => ?_⟩, ?_, srt, ?_, ?_, fun r hr' => ?_, ?_, ?_⟩ ?_
        · rcases List.mem_cons.mp (pm.mem_iff.mp hy) with rfl | h
          · exact List.mem_cons_self
          · exact List.mem_cons_of_mem _ (sub.subset h)
        · obtain ⟨p', hp', rfl⟩ := List.mem_map.mp hr'
          exact said12 p' hp' y hy
        · exact pm.mem_iff.mpr List.mem_cons_self
        · exact pm.nodup_iff.mpr (znd.sublist (sub.cons₂ z0))
        · rw [subp]
          exact cnd.sublist sub12
        · obtain ⟨p', hp', rfl⟩ := List.mem_map.mp hr'
          exact cp' _ (sub12.subset (List.mem_map.mpr ⟨p', hp', rfl⟩))
        · rw [List.length_map]
          have := some12 (by omega)
          cases ps with
          | nil => exact absurd rfl this
          | cons _ _ => simp
        · rw [subk]
          exact kin12
        · have := sub12.length_le
          rw [List.length_map] at this
          omega
end
end K11
set_option Elab.async false
set_option linter.all false
set_option autoImplicit false
set_option maxRecDepth 100000
set_option maxHeartbeats 4000000
/-! Zk: walks over the keys of a dict that is locked: in list comprehensions, in loops. -/
namespace Zk
open PySem PySem.Spec PyProof.Rows L2 Vb Wd Zt
section
variable {d : Addr} {o : Obj} {kvs : List (L2.Key × V)}
theorem lc_keys {g : TG} {tt : TT} {te : TE} {vs : List Nat} {σ : L2.St} {H1 : Hp} {D : Addr} {Z : Hp → Prop} (I : Nat → Hp → Prop) (start : I 0 (upd H1 D (.lst []))) (held : ∀ i H, i ≤ kvs.length → I i H → H d = some (.frz o (.dK kvs)))
    (turn : ∀ i k v H, kvs[i]? = some (k, v) → I i H → g (kV k) (wipe σ vs) H fun σ2 H2 => wipe σ2 vs = wipe σ vs ∧ tt σ2 H2 fun b H3 => if b = true then te σ2 H3 fun y H4 => ∃ acc, H4 D = some (.lst acc) ∧ acc.length < sizeLine ∧ I (i + 1) (upd H4 D (.lst (acc ++ [y]))) else I (i + 1) H3)
    (done : ∀ H, I kvs.length H → Z H) : ∃ W : Nat → Nat → Hp → Prop, (∃ m, W 0 m (upd H1 D (.lst []))) ∧ ∀ i m H, W i m H →
      ((Itk d o kvs).stop i H ∧ Z H) ∨ ((Itk d o kvs).go i H ∧ ∃ Nx : Hp → Prop, (∀ H', Nx H' → ∃ m', m' < m ∧ W (i + 1) m' H') ∧ ∀ x H', (Itk d o kvs).yld i H x H' → g x (wipe σ vs) H' fun σ2 H2 => wipe σ2 vs = wipe σ vs ∧ tt σ2 H2 fun b H3 =>
        if b = true then te σ2 H3 fun y H4 => ∃ acc, H4 D = some (.lst acc) ∧ acc.length < sizeLine ∧ Nx (upd H4 D (.lst (acc ++ [y]))) else Nx H3) := by
  refine ⟨fun i m H => i + m = kvs.length ∧ I i H, ⟨kvs.length, Nat.zero_add _, start⟩, fun i m H ⟨e, h⟩ => ?_⟩
  have hd := held i H (by omega) h
  cases m with
  | zero =>
    have ei : i = kvs.length := e
    subst ei
    exact .inl ⟨⟨hd, Nat.le_refl _⟩, done H h⟩
  | succ m =>
    have lt : i < kvs.length := by omega
    refine .inr ⟨⟨hd, lt⟩, I (i + 1), fun H' h' => ⟨m, Nat.lt_succ_self _, by omega, h'⟩, fun x H' y => ?_⟩
    obtain ⟨rfl, k, v, e2, rfl⟩ := y
    exact turn i k v _ e2 h
theorem for_keys {g : TG} {tb : TS} {D : Ends} {σ : L2.St} {H : Hp} (I : Nat → L2.St → Hp → Prop) (start : I 0 σ H) (held : ∀ i σ H, i ≤ kvs.length → I i σ H → H d = some (.frz o (.dK kvs)))
    (turn : ∀ i k v σ H, kvs[i]? = some (k, v) → I i σ H → g (kV k) σ H fun σ2 H2 => tb { D with nx := I (i + 1), ct := I (i + 1), bk := D.nx } σ2 H2) (done : ∀ σ H, I kvs.length σ H → D.nx σ H) :
    ∃ W : Nat → Nat → L2.St → Hp → Prop, (∃ m, W 0 m σ H) ∧ ∀ i m σ H, W i m σ H →
      ((Itk d o kvs).stop i H ∧ D.nx σ H) ∨ ((Itk d o kvs).go i H ∧ ∃ N : L2.St → Hp → Prop, (∀ σ' H', N σ' H' → ∃ m', m' < m ∧ W (i + 1) m' σ' H') ∧ ∀ x H', (Itk d o kvs).yld i H x H' → g x σ H' fun σ2 H2 => tb { D with nx := N, ct := N, bk := D.nx } σ2 H2) := by
  refine ⟨fun i m σ H => i + m = kvs.length ∧ I i σ H, ⟨kvs.length, Nat.zero_add _, start⟩, fun i m σ H ⟨e, h⟩ => ?_⟩
  have hd := held i σ H (by omega) h
  cases m with
  | zero =>
    have ei : i = kvs.length := e
    subst ei
    exact .inl ⟨⟨hd, Nat.le_refl _⟩, done σ H h⟩
  | succ m =>
    have lt : i < kvs.length := by omega
    refine .inr ⟨⟨hd, lt⟩, I (i + 1), fun σ' H' h' => ⟨m, Nat.lt_succ_self _, by omega, h'⟩, fun x H' y => ?_⟩
    obtain ⟨rfl, k, v, e2, rfl⟩ := y
    exact turn i k v σ _ e2 h
end
/-- a lock and its end -/
theorem lock_same {d : Addr} {o : Obj} {u : HO} {H H' : Hp} (e : H d = some u) (s : Same (upd H d (.frz o u)) H') : Same H (upd H' d u) := fun b x h => by
  by_cases bd : b = d
  · subst bd
    rw [e] at h
    rw [upd_same]
    exact h
  · rw [upd_ne bd]
    exact s b x (by rw [upd_ne bd]; exact h)
/-- what stands elsewhere stands in the lock -/
theorem in_lock {d b : Addr} {o : Obj} {u x : HO} {H : Hp} (n : b ≠ d) (h : H b = some x) : (upd H d (.frz o u)) b = some x := by
  rw [upd_ne n]
  exact h
end Zk
set_option Elab.async false
set_option linter.all false
set_option autoImplicit false
set_option maxRecDepth 100000
set_option maxHeartbeats 4000000
namespace K11
open PySem PySem.Spec PyProof.Rows L2 Vb Wd Xd Xo Ts K01 Zt Zk
abbrev s_l_made_scheme : Stmt := topS 54
theorem sc_l_made_scheme : FnScope ["_law_plain", "_law_forms", "_law_name"] ["_law_plain"] (defScope s_l_made_scheme) := ⟨rfl, rfl, rfl, by decide +kernel, rfl, by decide +kernel, by decide +kernel⟩
/-- what is known of the class Form -/
structure EnvF (P : Program) (w : World) (K : PySem.W.Frag) (mg : Str → Option Value) (base : Heap) (C : Addr) where
  T : FormC K C
  TI : FormI K C
  TP : FormP P w K mg base C
  g : mg "Form" = some (.ref C)
  fI : Addr
  fdI : FuncData
  M : L2.Mk K C fI
  FI : FnG P w K mg base 6 fI fdI ["self", "called", "sort", "children"] (spInit K C)
  bI : Binds K fdI ["self", "called", "sort", "children"] []
/-- what is known of the class Scheme -/
structure EnvS (P : Program) (w : World) (K : PySem.W.Frag) (mg : Str → Option Value) (base : Heap) (C CS CI : Addr) where
  T : SchemeC K CS
  g : mg "Scheme" = some (.ref CS)
  fI : Addr
  fdI : FuncData
  M : L2.Mk K CS fI
  FI : FnE P w K mg base 5 fI fdI ["self", "bare", "tops", "forms"] (spInitS K C CS CI)
  bI : Binds K fdI ["self", "bare", "tops", "forms"] []
/-- the words of a scheme that is one -/
structure SchOk (b : Str) (ts : List Str) (rows : List FD) : Prop where
  sch : schB (.str b) (some ts) rows = true
  nams : ∀ r ∈ rows, isNam (.str r.1) = true ∧ isNam (.str r.2.1) = true
  tops : (∀ y ∈ ts, Fine y) ∧ ts.length ≤ 60 ∧ (ts.all nam && asc ts) = true
theorem inV_mem {b : Str} {ts : List Str} (h : b ∈ ts) : inV (.str b) (ts.map V.str) = true := by
  unfold inV
  exact List.any_eq_true.mpr ⟨.str b, List.mem_map.mpr ⟨b, h, rfl⟩, by simp [eqV]⟩
theorem Fit.ok {b : Str} {ts : List Str} {rows : List FD} (F : Fit b ts rows) (few : rows.length ≤ 24) : SchOk b ts rows := by
  obtain ⟨zs, znd, zl, zp, tz, rz⟩ := F.ex
  have d8 : (dd (ts ++ said rows)).length ≤ 8 := Nat.le_trans (nodup_len _ zs (nodup_dd _) fun k hk => by
    rcases List.mem_append.mp ((mem_dd _ k).mp hk) with h | h
    · exact tz k h
    · unfold said at h
      obtain ⟨r, hr, hk'⟩ := List.mem_flatMap.mp h
      exact rz r hr k hk') (Nat.le_trans zl (by decide))
  have fine : ∀ y ∈ pool, Fine y := fun y hy => by
    have := (nam_len (pool_nam y hy)).2.1
    exact ⟨by omega, pool_asc y hy⟩
  refine ⟨?_, fun r hr => ⟨pool_nam _ (F.named r hr), pool_nam _ (zp _ (rz r hr _ List.mem_cons_self))⟩, fun y hy => fine y (zp y (tz y hy)), ?_, ?_⟩
  · rw [schB_some, inV_mem F.bt, decide_eq_true F.some_, decide_eq_true few, decide_eq_true d8, decide_eq_true F.once, decide_eq_true F.kinds]
    rfl
  · have := nodup_len ts zs F.nd tz
    omega
  · rw [Bool.and_eq_true]
    refine ⟨List.all_eq_true.mpr fun y hy => pool_nam y (zp y (tz y hy)), ?_⟩
    rw [← eq_sorted (fun k => Iff.rfl) F.srt F.nd, decide_eq_true rfl]
theorem SchOk.sub {b : Str} {ts : List Str} {rows : List FD} (S : SchOk b ts rows) : ∀ ys, some ts = some ys → ∀ y ∈ ys ++ said rows, y ∈ dd (ts ++ said rows) := fun ys e y hy => by
  cases e
  exact (mem_dd _ y).mpr hy
theorem SchOk.parts {b : Str} {ts : List Str} {rows : List FD} (S : SchOk b ts rows) : b ∈ ts ∧ (1 ≤ rows.length ∧ rows.length ≤ 24) ∧ (dd (ts ++ said rows)).length ≤ 8 ∧ (rows.map (·.1)).Nodup ∧ (rows.map (·.2)).Nodup := by
  have h := S.sch
  rw [schB_some] at h
  simp only [Bool.and_eq_true, decide_eq_true_eq] at h
  obtain ⟨⟨⟨mem, d1, d24⟩, d8⟩, once, kinds⟩ := h
  obtain ⟨b', e, bm⟩ := inV_str (v := .str b) rfl mem
  cases e
  exact ⟨bm, ⟨d1, d24⟩, d8, once, kinds⟩
/-- the words as the law holds them, its dict perhaps locked -/
structure HeldR (H : Hp) (a tl tb : Addr) (b : Str) (ts : List Str) (ps : List (FD × Addr)) : Prop where
  at_ : H a = some (.lst [.str b, .ref tl, .ref tb])
  tops : H tl = some (.lst (ts.map V.str))
  dict : Rd H tb (.dK (kvsP ps))
  row : ∀ p ∈ ps, RowAt H p.2 p.1
theorem Held.r {H : Hp} {a tl tb : Addr} {b : Str} {ts : List Str} {ps : List (FD × Addr)} (h : Held H a tl tb b ts ps) : HeldR H a tl tb b ts ps := ⟨h.at_, h.tops, .inl h.dict, h.row⟩
theorem Held.ne {H : Hp} {a tl tb : Addr} {b : Str} {ts : List Str} {ps : List (FD × Addr)} (h : Held H a tl tb b ts ps) : a ≠ tb ∧ tl ≠ tb := by
  constructor
  · intro z
    have := h.at_
    rw [z, h.dict] at this
    cases this
  · intro z
    have := h.tops
    rw [z, h.dict] at this
    cases this
theorem Held.lock {H : Hp} {a tl tb : Addr} {b : Str} {ts : List Str} {ps : List (FD × Addr)} {o : Obj} (h : Held H a tl tb b ts ps) : HeldR (upd H tb (.frz o (.dK (kvsP ps)))) a tl tb b ts ps :=
  ⟨in_lock h.ne.1 h.at_, in_lock h.ne.2 h.tops, .inr ⟨o, upd_same⟩, fun p hp => (h.row p hp).tups (Tups.putD _ h.dict)⟩
theorem HeldR.same {H H' : Hp} {a tl tb : Addr} {b : Str} {ts : List Str} {ps : List (FD × Addr)} (s : Same H H') (h : HeldR H a tl tb b ts ps) : HeldR H' a tl tb b ts ps :=
  ⟨s _ _ h.at_, s _ _ h.tops, h.dict.imp (fun e => s _ _ e) (fun ⟨o, e⟩ => ⟨o, s _ _ e⟩), fun p hp => (h.row p hp).tups (Tups.of s)⟩
theorem Held.same {H H' : Hp} {a tl tb : Addr} {b : Str} {ts : List Str} {ps : List (FD × Addr)} (s : Same H H') (h : Held H a tl tb b ts ps) : Held H' a tl tb b ts ps :=
  ⟨s _ _ h.at_, s _ _ h.tops, s _ _ h.dict, fun p hp => (h.row p hp).tups (Tups.of s)⟩
def spMS (C CS : Addr) : Sp := fun vs H Q _ => ∃ (a tl tb : Addr) (b : Str) (ts : List Str) (ps : List (FD × Addr)), vs = [.ref a] ∧ Held H a tl tb b ts ps ∧ SchOk b ts (ps.map (·.1)) ∧
  ∀ (p : Addr) (ds : List FD) (H' : Hp), Same H H' → SchemeAt H' C CS p b ts ds → ds.Perm (ps.map (·.1)) → Q (.ref p) H'
section
variable {P : Program} {w : World} {K : PySem.W.Frag} {mg : Str → Option Value} {base : Heap} {C CS CI : Addr}
theorem ok_l_made_scheme (D : Df K mg "_law_made_scheme" s_l_made_scheme ["_law_plain"]) (VF : EnvF P w K mg base C) (VS : EnvS P w K mg base C CS CI) (z_tuple : mg "tuple" = none) : Cg P w K mg base 8 "_law_made_scheme" (spMS C CS) := by
  refine D.ok sc_l_made_scheme (fun vs H Q E h => ?_) (fun cdv A outer s H vs Q E f hc hr h => ?_)
  · obtain ⟨a, tl, tb, b, ts, ps, rfl, _⟩ := h
    rfl
  · obtain ⟨a, tl, tb, b, ts, ps, rfl, X, S, q⟩ := h
    refine ⟨_, (pss_cons (ps_set (i := 1) sc_l_made_scheme.nd rfl (Or.inl rfl) (pe_callTy (cr_tuple : CallR _ _ (rTup K)) (by rfl) z_tuple (by decide +kernel) (pa_cons (pe_lock (pe_lc (own := [("_law_name", 2)]) (g := gName 2) (by rfl) sc_l_made_scheme.nd (pi_keys (pe_ix (ix_list : IxR _ (rIxL K)) (pv 0) pe_int (fun _ _ => rfl))) (blkOk_by (own := [("_law_name", 2)]) (N := ["_law_plain", "_law_forms", "_law_name"]) (sc := defScope s_l_made_scheme) (by decide +kernel)) (fun _ _ _ _ _ => pg_name (i := 2) sc_l_made_scheme.nd rfl (Or.inl rfl)) (fun _ _ _ _ _ => pts_nil)
        (fun _ _ _ _ _ => (pe_makeE (E := fun _ _ _ => False) (W := fun _ _ _ _ => False) VF.M (FnE.of VF.FI) hc hr (by rfl) VF.g VF.bI takes0 (fun _ _ _ _ z => z) (pa_cons (pv 2) (pa_cons (pe_ix (ix_tup : IxR _ (rIxT K)) (pe_dget (hu_of hr) (pe_ix (ix_list : IxR _ (rIxL K)) (pv 0) pe_int (fun _ _ => rfl)) (pv 2) (fun _ _ => rfl)) pe_int (fun _ _ => rfl)) (pa_cons (pe_ix (ix_tup : IxR _ (rIxT K)) (pe_dget (hu_of hr) (pe_ix (ix_list : IxR _ (rIxL K)) (pv 0) pe_int (fun _ _ => rfl)) (pv 2) (fun _ _ => rfl)) pe_int (fun _ _ => rfl)) pa_nil))))))) pa_nil)))
      (pss_one (ps_ret (pe_makeE (E := fun _ _ _ => False) (W := fun _ _ _ _ => False) VS.M VS.FI hc (hr.mono (by decide)) (by rfl) VS.g VS.bI takes0 (fun _ _ _ _ z => z) (pa_cons (pe_ix (ix_list : IxR _ (rIxL K)) (pv 0) pe_int (fun _ _ => rfl)) (pa_cons (pe_callTy (cr_tuple : CallR _ _ (rTup K)) (by rfl) z_tuple (by decide +kernel) (pa_cons (pe_ix (ix_list : IxR _ (rIxL K)) (pv 0) pe_int (fun _ _ => rfl)) pa_nil)) (pa_cons (pv 1) pa_nil))))))), ?_⟩
    refine ⟨tb, _, X.dict, trivial, fun od => ?_⟩
    have XL := X.lock (o := od)
    obtain ⟨bm, ⟨d1, d24⟩, d8, once, kinds⟩ := S.parts
    have psn : (ps.map (·.1)).map (·.1) = ps.map (·.1.1) := by rw [List.map_map]; rfl
    have nd : (ps.map (·.1.1)).Nodup := by rw [← psn]; exact once
    rw [List.length_map] at d1 d24
    have big : ∀ {n : Nat}, n ≤ 200 → n < sizeLine := fun h => Nat.lt_of_le_of_lt h (by decide)
    generalize eHL : upd H tb (.frz od (.dK (kvsP ps))) = HL at XL
    have eL : HL tb = some (.frz od (.dK (kvsP ps))) := by rw [← eHL]; exact upd_same
    refine ⟨_, rfl, a, _, _, .ref tb, rfl, rfl, .inl (.inl XL.at_), by rfl, tb, od, rfl, .inl ⟨kvsP ps, eL, fun D nD => ?_⟩⟩
    have XR : ∀ {H' : Hp}, Same HL H' → HeldR H' a tl tb b ts ps := fun s => XL.same s
    have s0 : ∀ {H' : Hp}, Same HL H' → Same H (upd H' tb (.dK (kvsP ps))) := fun s => lock_same X.dict (by rw [eHL]; exact s)
    refine lc_keys (fun i H' => Same HL H' ∧ ∃ fs : List Addr, H' D = some (.lst (fs.map V.ref)) ∧ fs.length = i ∧ ∀ (j : Nat) (x : Addr) (p : FD × Addr), fs[j]? = some x → ps[j]? = some p → ∃ ch ks, FormAt H' C x ch p.1.1 p.1.2.1 ks p.1.2.2) ⟨same_put nD (Same.refl _), [], upd_same, rfl, fun j x p h => by simp at h⟩ (fun i H' _ h => h.1 _ _ eL) (fun i k v H1 hk h => ?_) (fun H1 h => ?_)
    · obtain ⟨s1, fs, e1, fl, forms⟩ := h
      obtain ⟨p, hp, ek⟩ : ∃ p, ps[i]? = some p ∧ (k, v) = (Sum.inr p.1.1, V.ref p.2) := by
        unfold kvsP at hk
        rw [List.getElem?_map] at hk
        obtain ⟨p, hp, e⟩ := Option.map_eq_some_iff.mp hk
        exact ⟨p, hp, e.symm⟩
      cases ek
      have pm := List.mem_of_getElem? hp
      have il := (List.getElem?_eq_some_iff.mp hp).1
      have X1 := XR s1
      obtain ⟨ch, ks, eq, kk⟩ := X1.row p pm
      obtain ⟨n1, n2⟩ := S.nams p.1 (List.mem_map.mpr ⟨p, pm, rfl⟩)
      have l1 := (nam_len n1).2.1
      have l2 := (nam_len n2).2.1
      have asc_ : ∀ {z : Str}, isNam (.str z) = true → Asc z := fun {z} h c hc => by
        have h3 := (nam_len h).2.2
        have := List.all_eq_true.mp h3 c hc
        unfold low at this
        rw [Bool.and_eq_true, decide_eq_true_eq, decide_eq_true_eq] at this
        omega
      have dg : DGet H1 tb (kV (Sum.inr p.1.1)) (some (.ref p.2)) := .inl ⟨kvsP ps, Sum.inr p.1.1, X1.dict, rfl, (kvsP_val nd pm).symm⟩
      refine ⟨rfl, _, rfl, _, rfl, a, _, _, .ref tb, rfl, rfl, .inl (.inl X1.at_), by rfl, _, rfl, tb, .ref p.2, rfl, dg, p.2, _, _, .str p.1.2.1, rfl, rfl, .inl (.inl eq), by rfl, _, rfl, a, _, _, .ref tb, rfl, rfl, .inl (.inl X1.at_), by rfl, _, rfl, tb, .ref p.2, rfl, dg, p.2, _, _, .ref ch, rfl, rfl, .inl (.inl eq), by rfl, fun x dx nx ndx ne => ?_⟩
      have s2 := (same_new (o := .own x) ndx).trans (same_new (o := .ins C dx []) (by rw [upd_ne ne.symm]; exact nx))
      refine ⟨x, dx, ch, p.1.1, p.1.2.1, ks, p.1.2.2, rfl, upd_same, ⟨n1, by omega, asc_ n1⟩, ⟨n2, by omega, asc_ n2⟩, kk.same s2, fun H2 s3 => ⟨rfl, ?_⟩⟩
      generalize eH3 : upd H2 x (.ins C dx (flds p.1.1 p.1.2.1 ch)) = H3
      have x3 : H3 x = some (.ins C dx (flds p.1.1 p.1.2.1 ch)) := by rw [← eH3]; exact upd_same
      have s13 : Same H1 H3 := fun b' o' h' => by
        have bx : b' ≠ x := ne_of_none h' nx
        rw [← eH3, upd_ne bx]
        exact s3 _ _ (s2 _ _ h')
      have e3 := s13 _ _ e1
      have xD : x ≠ D := fun z => by
        rw [z, e3] at x3
        cases x3
      have tpe : Tups H3 (upd H3 D (.lst (fs.map V.ref ++ [.ref x]))) := Tups.putL _ e3
      refine ⟨_, e3, by rw [List.length_map]; exact big (by omega), same_put nD (s1.trans s13), fs ++ [x], ?_, by rw [List.length_append, fl]; rfl, fun j y p' h1 h2 => ?_⟩
      · rw [upd_same, List.map_append]
        rfl
      · rw [List.getElem?_append] at h1
        by_cases jl : j < fs.length
        · rw [if_pos jl] at h1
          obtain ⟨ch', ks', ⟨dx', q'⟩, kk'⟩ := forms j y p' h1 h2
          refine ⟨ch', ks', ⟨dx', ?_⟩, (kk'.same s13).tups tpe⟩
          have yD : y ≠ D := fun z => by
            rw [z, e1] at q'
            cases q'
          rw [upd_ne yD]
          exact s13 _ _ q'
        · rw [if_neg jl] at h1
          have j0 : j = i := by
            have := (List.getElem?_eq_some_iff.mp h1).1
            simp at this
            omega
          rw [j0] at h2 h1
          rw [fl, Nat.sub_self] at h1
          cases h1
          cases hp.symm.trans h2
          exact ⟨ch, ks, ⟨dx, by rw [upd_ne xD]; exact x3⟩, (kk.same s13).tups tpe⟩
    · obtain ⟨s1, fs, e1, fl, forms⟩ := h
      refine ⟨s1 _ _ eL, ?_⟩
      have s2 := s0 s1
      have tpL : Tups H1 (upd H1 tb (.dK (kvsP ps))) := Tups.put _ fun xs e => by
        rw [s1 _ _ eL] at e
        cases e
      have Dtb : D ≠ tb := fun z => by
        rw [z, s1 _ _ eL] at e1
        cases e1
      generalize eH2 : upd H1 tb (.dK (kvsP ps)) = H2 at s2 tpL
      have e2 : H2 D = some (.lst (fs.map V.ref)) := by rw [← eH2, upd_ne Dtb]; exact e1
      have forms2 : ∀ (j : Nat) (x : Addr) (p : FD × Addr), fs[j]? = some x → ps[j]? = some p → ∃ ch ks, FormAt H2 C x ch p.1.1 p.1.2.1 ks p.1.2.2 := fun j x p h1 h2 => by
        obtain ⟨ch, ks, ⟨dx, q'⟩, kk⟩ := forms j x p h1 h2
        refine ⟨ch, ks, ⟨dx, ?_⟩, kk.tups tpL⟩
        have xtb : x ≠ tb := fun z => by
          rw [z, s1 _ _ eL] at q'
          cases q'
        rw [← eH2, upd_ne xtb]
        exact q'
      have X2 := X.same s2
      have kl : (kvsP ps).length = ps.length := by unfold kvsP; rw [List.length_map]
      refine ⟨D, _, rfl, .inl ⟨.inl (.inl e2), fun f nf => ?_⟩⟩
      have s3 := same_new (o := .tup (fs.map V.ref)) nf
      generalize eH3 : upd H2 f (.tup (fs.map V.ref)) = H3 at s3
      have e3 : H3 f = some (.tup (fs.map V.ref)) := by rw [← eH3]; exact upd_same
      have X3 := X2.same s3
      refine ⟨_, rfl, a, _, _, .str b, rfl, rfl, .inl (.inl X3.at_), by rfl, _, rfl, a, _, _, .ref tl, rfl, rfl, .inl (.inl X3.at_), by rfl, tl, _, rfl, .inl ⟨.inl (.inl X3.tops), fun t nt => ?_⟩⟩
      have s4 := same_new (o := .tup (ts.map V.str)) nt
      generalize eH4 : upd H3 t (.tup (ts.map V.str)) = H4 at s4
      have t4 : H4 t = some (.tup (ts.map V.str)) := by rw [← eH4]; exact upd_same
      have s24 := s3.trans s4
      refine ⟨_, rfl, fun x dx nx ndx ne => ?_⟩
      have s5 := (same_new (o := .own x) ndx).trans (same_new (o := .ins CS dx []) (by rw [upd_ne ne.symm]; exact nx))
      have s25 := s24.trans s5
      obtain ⟨fy, ly, ny⟩ := S.tops
      have FF : Forms (upd (upd H4 dx (.own x)) x (.ins CS dx [])) C fs (ps.map (·.1)) := ⟨by rw [List.length_map, fl, kl], fun j x' d' h1 h2 => by
        rw [List.getElem?_map] at h2
        obtain ⟨p, hp, rfl⟩ := Option.map_eq_some_iff.mp h2
        obtain ⟨ch, ks, FA⟩ := forms2 j x' p h1 hp
        exact ⟨ch, ks, FA.sm s25⟩⟩
      refine ⟨x, dx, f, .str b, .ref t, some ts, fs, ps.map (·.1), dd (ts ++ said (ps.map (·.1))), rfl, upd_same, ⟨rfl, ⟨t, rfl, s5 _ _ t4, fy, ly, ny⟩, (s4.trans s5) _ _ e3, FF, by rw [fl, kl]; omega, S.sub, by omega, S.nams⟩, fun b' ys' eb ey _ H6 ds' bt SA pm => ⟨rfl, ?_⟩, fun e => ?_⟩
      · cases eb
        cases ey
        refine q x ds' H6 (fun b' o' h' => ?_) SA pm
        have h4 := s24 _ _ (s2 _ _ h')
        have bx : b' ≠ x := ne_of_none h4 nx
        exact bt _ _ bx (s5 _ _ h4)
      · rw [S.sch] at e
        cases e
end
end K11
set_option Elab.async false
set_option linter.all false
set_option autoImplicit false
set_option maxRecDepth 100000
set_option maxHeartbeats 4000000
/-! Zm: zip of a list and a tuple. -/
namespace Zm
open PySem PySem.Spec PyProof.Rows L2 RZ
/-- an iterator i over the items xs of the object at l, told by how it turns -/
structure Src (P : Program) (w : World) (i l : Addr) (xs : Array Value) (St : Nat → Heap → Prop) : Prop where
  keep : ∀ {k : Nat} {h h' : Heap}, St k h → (∀ o, h.get? i = some o → h'.get? i = some o) → (∀ o, h.get? l = some o → h'.get? l = some o) → St k h'
  item : ∀ {A : Around} {E : Value → Shared → Prop} {s : Shared} {k : Nat} {x : Value} {Q : Value → Shared → Prop}, St k s.heap → xs[k]? = some x → (∀ h', St (k + 1) h' → Heap.SameBut i s.heap h' → Q x { s with heap := h' }) → wpAny (model P w) A (Builtin.SmallTypes.nextOf (.ref i)) Q E s
  stop : ∀ {A : Around} {E : Value → Shared → Prop} {s : Shared} {k : Nat} {Q : Value → Shared → Prop}, A.handled = none → St k s.heap → xs[k]? = none → (∀ h' e, Heap.ExtBut i s.heap h' → (∃ o, h'.get? e = some o ∧ o.cls = .type "StopIteration") → E (.ref e) { s with heap := h' }) →
    wpAny (model P w) A (Builtin.SmallTypes.nextOf (.ref i)) Q E s
section
variable {P : Program} {w : World} {A : Around} {E : Value → Shared → Prop} {s : Shared}
theorem src_list {i l : Addr} (n : l ≠ i) (xs : Array Value) : Src P w i l xs (fun k h => h.IsListIter i l k ∧ h.IsList l xs) where
  keep := fun h k1 k2 => ⟨h.1.at k1, h.2.at k2⟩
  item := fun h hx q => wpAny_nextOf_list_item h.1 h.2 hx fun h' a b => q h' ⟨a, h.2.extBut b.extBut n⟩ b
  stop := fun hh h hx q => wpAny_nextOf_list_end hh h.1 h.2 hx q
theorem src_tup {i l : Addr} (n : l ≠ i) (xs : Array Value) : Src P w i l xs (fun k h => h.IsTupleIter i l k ∧ h.IsTuple l xs) where
  keep := fun h k1 k2 => ⟨h.1.at k1, h.2.at k2⟩
  item := fun h hx q => nextOf_tuple_item h.1 h.2 hx fun h' a b => q h' ⟨a, h.2.extBut b.extBut n⟩ b
  stop := fun hh h hx q => nextOf_tuple_end hh h.1 h.2 hx q
variable {z TI TO i1 i2 l1 l2 : Addr} {xs ys : Array Value} {S1 S2 : Nat → Heap → Prop}
/-- kept but at what the zip turns -/
def KeptZ (z TO i1 i2 : Addr) (h h' : Heap) : Prop := ∀ c o, c ≠ z → c ≠ TO → c ≠ i1 → c ≠ i2 → h.get? c = some o → h'.get? c = some o
theorem next_item {a b x y : Value} {k : Nat} {Q : Value → Shared → Prop} (c1 : Src P w i1 l1 xs S1) (c2 : Src P w i2 l2 ys S2) (D : ZipApart z TI TO i1 i2 l1 l2)
    (hz : IsZip s.heap z TI TO .none) (hTI : IsPair s.heap TI (.ref i1) (.ref i2)) (hTO : IsPair s.heap TO a b) (n1 : S1 k s.heap) (n2 : S2 k s.heap) (hx : xs[k]? = some x) (hy : ys[k]? = some y)
    (hQ : ∀ h', IsZip h' z TI TO (rawInt s.heap.objs.size) → IsPair h' TO x y → S1 (k + 1) h' → S2 (k + 1) h' → IsPair h' s.heap.objs.size x y → h'.objs.size = s.heap.objs.size + 1 → KeptZ z TO i1 i2 s.heap h' → Q (.ref s.heap.objs.size) { s with heap := h' }) :
    wpAny (model P w) A (Builtin.«zip.__next__» ⟨[.ref z], []⟩) (fun fin s' => ∃ v, fin = .done (.ret v) ∧ Q v s') E s := by
  show wpAny _ _ (field (.ref z) 2 >>= _) _ _ _
  refine wpAny_bind (wpAny_field hz rfl (x := .bool false) rfl ?_)
  show wpAny _ _ (field (.ref z) 3 >>= _) _ _ _
  refine wpAny_bind (wpAny_field hz rfl (x := .ref TI) rfl (wpAny_bind (wpAny_seqItems hTI rfl ?_)))
  show wpAny _ _ (Builtin.SmallTypes.ownedTupleIsFree (.ref z) >>= _) _ _ _
  refine wpAny_bind ?_
  unfold Builtin.SmallTypes.ownedTupleIsFree
  refine wpAny_bind (wpAny_field hz rfl (x := .none) rfl (wpAny_pure ?_))
  simp only [if_true]
  refine wpAny_bind (wpAny_rule (wpAny_bind (wpAny_field hz rfl (x := .ref TO) rfl (wpAny_bind (wpAny_setField_rec hz (by simp) fun hA zA kA => ?_)))))
  have zA : IsZip hA z TI TO .ellipsis := zA
  refine wpAny_bind ?_
  simp only [List.zipIdx_cons, List.zipIdx_nil, List.forIn_cons, List.forIn_nil]
  refine wpAny_bind (wpAny_bind (wpAny_onRaise ?_))
  show wpAny _ _ (Builtin.SmallTypes.nextOf (.ref i1) >>= _) _ _ _
  refine wpAny_bind (c1.item (c1.keep n1 (fun o e => kA.extBut _ o D.i1z e) fun o e => kA.extBut _ o D.l1z e) hx fun hB nB kB => wpAny_pure ?_)
  have toB : IsPair hB TO a b := kB.extBut _ _ D.TOi1 (kA.extBut _ _ D.TOz hTO)
  refine wpAny_bind (wpAny_seqItems toB rfl (wpAny_bind (wpAny_updateSeq_pair toB fun hC toC kC => ?_)))
  have toC : IsPair hC TO x b := toC
  refine wpAny_bind (wpAny_letGo (wpAny_pure ?_))
  refine wpAny_bind (wpAny_bind (wpAny_onRaise ?_))
  show wpAny _ _ (Builtin.SmallTypes.nextOf (.ref i2) >>= _) _ _ _
  have up2 : ∀ c o, c ≠ z → c ≠ i1 → c ≠ TO → s.heap.get? c = some o → hC.get? c = some o := fun c o q1 q2 q3 e => kC.extBut _ _ q3 (kB.extBut _ _ q2 (kA.extBut _ _ q1 e))
  refine wpAny_bind (c2.item (c2.keep n2 (fun o e => up2 _ o D.i2z D.i12.symm D.TOi2.symm e) fun o e => up2 _ o D.l2z D.l2i1 D.l2TO e) hy fun hD nD kD => wpAny_pure ?_)
  have toD : IsPair hD TO x b := kD.extBut _ _ D.TOi2 toC
  refine wpAny_bind (wpAny_seqItems toD rfl (wpAny_bind (wpAny_updateSeq_pair toD fun hE toE kE => ?_)))
  have toE : IsPair hE TO x y := toE
  refine wpAny_bind (wpAny_letGo (wpAny_pure (wpAny_pure ?_)))
  refine wpAny_bind (wpAny_seqItems toE rfl (wpAny_bind (wpAny_newTuple ?_)))
  have sz : hE.objs.size = s.heap.objs.size := by rw [kE.1, kD.1, kC.1, kB.1, kA.1]
  have zE : IsZip hE z TI TO .ellipsis := kE.extBut _ _ D.TOz.symm (kD.extBut _ _ D.i2z.symm (kC.extBut _ _ D.TOz.symm (kB.extBut _ _ D.i1z.symm zA)))
  have keE : KeptZ z TO i1 i2 s.heap hE := fun c o q1 q2 q3 q4 e => kE.extBut _ _ q2 (kD.extBut _ _ q4 (up2 c o q1 q3 q2 e))
  have nE : S1 (k + 1) hE := c1.keep nB (fun o e => kE.extBut _ o D.TOi1.symm (kD.extBut _ _ D.i12 (kC.extBut _ _ D.TOi1.symm e))) fun o e => kE.extBut _ o D.l1TO (kD.extBut _ _ D.l1i2 (kC.extBut _ _ D.l1TO e))
  have mE : S2 (k + 1) hE := c2.keep nD (fun o e => kE.extBut _ o D.TOi2.symm e) fun o e => kE.extBut _ o D.l2TO e
  have zlt : z < hE.objs.size := Heap.lt_size zE
  show wpAny _ _ (Builtin.SmallTypes.ownedTupleHandOut (.ref z) (.ref hE.objs.size) >>= _) _ _ _
  refine wpAny_bind ?_
  unfold Builtin.SmallTypes.ownedTupleHandOut
  have zF : IsZip (hE.push { cls := .type "tuple", data := .seq #[x, y] }) z TI TO .ellipsis := Heap.get?_push_of_some _ zE
  refine wpAny_bind (wpAny_setField_rec zF (by simp) fun hG zG kG => ?_)
  have zG : IsZip hG z TI TO (rawInt hE.objs.size) := zG
  refine wpAny_setField_rec zG (by simp) fun hI zI kI => ?_
  have zI : IsZip hI z TI TO (rawInt hE.objs.size) := zI
  have up : ∀ c o, c ≠ z → hE.get? c = some o → hI.get? c = some o := fun c o q e => kI.extBut _ _ q (kG.extBut _ _ q (Heap.get?_push_of_some _ e))
  have tI : IsPair hI hE.objs.size x y := kI.extBut _ _ (Nat.ne_of_gt zlt) (kG.extBut _ _ (Nat.ne_of_gt zlt) (Heap.get?_push_size _ rfl))
  have sI : hI.objs.size = hE.objs.size + 1 := by rw [kI.1, kG.1, Heap.size_push]
  rw [sz] at zI tI sI
  refine wpAny_pure ⟨_, rfl, ?_⟩
  show Q (.ref hE.objs.size) _
  rw [sz]
  exact hQ hI zI (up _ _ D.TOz toE) (c1.keep nE (fun o e => up _ o D.i1z e) fun o e => up _ o D.l1z e) (c2.keep mE (fun o e => up _ o D.i2z e) fun o e => up _ o D.l2z e) tI sI fun c o q1 q2 q3 q4 e => up c o q1 (keE c o q1 q2 q3 q4 e)
theorem next_end {a b : Value} {k : Nat} {Q : Fin → Shared → Prop} (c1 : Src P w i1 l1 xs S1) (c2 : Src P w i2 l2 ys S2) (hh : A.handled = none) (D : ZipApart z TI TO i1 i2 l1 l2)
    (hz : IsZip s.heap z TI TO .none) (hTI : IsPair s.heap TI (.ref i1) (.ref i2)) (hTO : IsPair s.heap TO a b) (n1 : S1 k s.heap) (n2 : S2 k s.heap) (hend : xs[k]? = none ∨ ys[k]? = none)
    (hE : ∀ h' e, KeptZ z TO i1 i2 s.heap h' → (∃ o, h'.get? e = some o ∧ o.cls = .type "StopIteration") → E (.ref e) { s with heap := h' }) :
    wpAny (model P w) A (Builtin.«zip.__next__» ⟨[.ref z], []⟩) Q E s := by
  show wpAny _ _ (field (.ref z) 2 >>= _) _ _ _
  refine wpAny_bind (wpAny_field hz rfl (x := .bool false) rfl ?_)
  show wpAny _ _ (field (.ref z) 3 >>= _) _ _ _
  refine wpAny_bind (wpAny_field hz rfl (x := .ref TI) rfl (wpAny_bind (wpAny_seqItems hTI rfl ?_)))
  show wpAny _ _ (Builtin.SmallTypes.ownedTupleIsFree (.ref z) >>= _) _ _ _
  refine wpAny_bind ?_
  unfold Builtin.SmallTypes.ownedTupleIsFree
  refine wpAny_bind (wpAny_field hz rfl (x := .none) rfl (wpAny_pure ?_))
  simp only [if_true]
  refine wpAny_bind (wpAny_rule (wpAny_bind (wpAny_field hz rfl (x := .ref TO) rfl (wpAny_bind (wpAny_setField_rec hz (by simp) fun hA zA kA => ?_)))))
  have zA : IsZip hA z TI TO .ellipsis := zA
  refine wpAny_bind ?_
  simp only [List.zipIdx_cons, List.zipIdx_nil, List.forIn_cons, List.forIn_nil]
  refine wpAny_bind (wpAny_bind (wpAny_onRaise ?_))
  show wpAny _ _ (Builtin.SmallTypes.nextOf (.ref i1) >>= _) _ _ _
  have nA := c1.keep n1 (fun o e => kA.extBut _ o D.i1z e) fun o e => kA.extBut _ o D.l1z e
  have last : ∀ {h2 : Heap} {e : Addr} {oe : Obj}, IsZip h2 z TI TO .ellipsis → KeptZ z TO i1 i2 s.heap h2 → h2.get? e = some oe → oe.cls = .type "StopIteration" → ∀ {h3 : Heap}, Heap.SameBut z h2 h3 → E (.ref e) { s with heap := h3 } := fun {h2 e oe} zz kk he hc {h3} sb => by
    have ez : e ≠ z := fun q => by
      rw [q, zz] at he
      cases he
      simp at hc
    exact hE h3 e (fun c o q1 q2 q3 q4 x => sb.extBut _ _ q1 (kk c o q1 q2 q3 q4 x)) ⟨oe, sb.extBut _ _ ez he, hc⟩
  cases hx : xs[k]? with
  | none =>
    refine wpAny_bind (c1.stop hh nA hx fun hB e kB ⟨oe, he, hc⟩ => ?_)
    have zB : IsZip hB z TI TO .ellipsis := kB _ _ D.i1z.symm zA
    exact wpAny_setField_rec zB (by simp) fun hC _ kC => last zB (fun c o q1 _ q3 _ x => kB _ _ q3 (kA.extBut _ _ q1 x)) he hc kC
  | some x =>
    have hy : ys[k]? = none := hend.resolve_left fun q => by
      rw [hx] at q
      cases q
    refine wpAny_bind (c1.item nA hx fun hB nB kB => wpAny_pure ?_)
    have toB : IsPair hB TO a b := kB.extBut _ _ D.TOi1 (kA.extBut _ _ D.TOz hTO)
    refine wpAny_bind (wpAny_seqItems toB rfl (wpAny_bind (wpAny_updateSeq_pair toB fun hC toC kC => ?_)))
    refine wpAny_bind (wpAny_letGo (wpAny_pure ?_))
    refine wpAny_bind (wpAny_bind (wpAny_onRaise ?_))
    show wpAny _ _ (Builtin.SmallTypes.nextOf (.ref i2) >>= _) _ _ _
    have up2 : ∀ c o, c ≠ z → c ≠ i1 → c ≠ TO → s.heap.get? c = some o → hC.get? c = some o := fun c o q1 q2 q3 e => kC.extBut _ _ q3 (kB.extBut _ _ q2 (kA.extBut _ _ q1 e))
    refine wpAny_bind (c2.stop hh (c2.keep n2 (fun o e => up2 _ o D.i2z D.i12.symm D.TOi2.symm e) fun o e => up2 _ o D.l2z D.l2i1 D.l2TO e) hy fun hD e kD ⟨oe, he, hc⟩ => ?_)
    have zD : IsZip hD z TI TO .ellipsis := kD _ _ D.i2z.symm (kC.extBut _ _ D.TOz.symm (kB.extBut _ _ D.i1z.symm zA))
    exact wpAny_setField_rec zD (by simp) fun hE' _ kE => last zD (fun c o q1 q2 q3 q4 x => kD _ _ q4 (up2 c o q1 q3 q2 x)) he hc kE
end
section
variable {P : Program} {w : World} {A : Around} {E : Value → Shared → Prop} {s : Shared}
theorem at5 {h : Heap} {a b : Addr} {o : Obj} (e : h.get? a = some o) (q : a = b) : h.get? b = some o := by
  rw [← q]
  exact e
theorem zip_TL {l1 l2 : Addr} (xs ys : Array Value) :
    Meets (Builtin.«zip.__new__» ⟨[.type "zip", .ref l1, .ref l2], []⟩) (fun _ R s => s.heap.IsList l1 xs ∧ s.heap.IsTuple l2 ys ∧
      ∀ h', IsZip h' (s.heap.objs.size + 4) (s.heap.objs.size + 2) (s.heap.objs.size + 3) .none → IsPair h' (s.heap.objs.size + 2) (.ref s.heap.objs.size) (.ref (s.heap.objs.size + 1)) →
      IsPair h' (s.heap.objs.size + 3) .none .none → h'.IsListIter s.heap.objs.size l1 0 → h'.IsTupleIter (s.heap.objs.size + 1) l2 0 → h'.objs.size = s.heap.objs.size + 5 →
      (∀ c o, s.heap.get? c = some o → h'.get? c = some o) → R (.ok (.ret (.ref (s.heap.objs.size + 4)))) { s with heap := h' }) :=
  .of_wp fun prog w A R s h => by
    obtain ⟨hp, g, d, tk, os⟩ := s
    obtain ⟨hl1, hl2, h⟩ := h
    have hsub := sub_zip
    have hL1 : Heap.IsList (Shared.heap ⟨hp, g, d, tk, os⟩) l1 xs := hl1
    have hL2 : Heap.IsTuple (Shared.heap ⟨hp.push { cls := .type "list_iterator", data := .fields #[.ref l1, .int 0 0] }, g, d, tk, os⟩) l2 ys := Heap.IsTuple.push hl2 _
    wp_walk using wpAny_pyIter_list hL1, wpAny_pyIter_tuple hL2
    refine ⟨_, rfl, ?_⟩
    dsimp only
    simp only [Heap.size_push]
    refine h _ (at5 (Heap.get?_push_size _ rfl) (by simp only [Heap.size_push])) (at5 (Heap.get?_push_of_some _ (Heap.get?_push_of_some _ (Heap.get?_push_size _ rfl))) (by simp only [Heap.size_push]))
      (at5 (Heap.get?_push_of_some _ (Heap.get?_push_size _ rfl)) (by simp only [Heap.size_push]))
      ⟨_, Heap.get?_push_of_some _ (Heap.get?_push_of_some _ (Heap.get?_push_of_some _ (Heap.get?_push_of_some _ (Heap.get?_push_size _ rfl)))), rfl, rfl⟩
      ⟨_, at5 (Heap.get?_push_of_some _ (Heap.get?_push_of_some _ (Heap.get?_push_of_some _ (Heap.get?_push_size _ rfl)))) (by simp only [Heap.size_push]), rfl, rfl⟩
      (by simp only [Heap.size_push])
      fun c o x => Heap.get?_push_of_some _ (Heap.get?_push_of_some _ (Heap.get?_push_of_some _ (Heap.get?_push_of_some _ (Heap.get?_push_of_some _ x))))
theorem call_zipM {l1 l2 : Addr} {xs ys : Array Value} {Q : Value → Shared → Prop} (hl1 : s.heap.IsList l1 xs) (hl2 : s.heap.IsTuple l2 ys)
    (h : ∀ h', IsZip h' (s.heap.objs.size + 4) (s.heap.objs.size + 2) (s.heap.objs.size + 3) .none → IsPair h' (s.heap.objs.size + 2) (.ref s.heap.objs.size) (.ref (s.heap.objs.size + 1)) →
      IsPair h' (s.heap.objs.size + 3) .none .none → h'.IsListIter s.heap.objs.size l1 0 → h'.IsTupleIter (s.heap.objs.size + 1) l2 0 → h'.objs.size = s.heap.objs.size + 5 →
      (∀ c o, s.heap.get? c = some o → h'.get? c = some o) → Q (.ref (s.heap.objs.size + 4)) { s with heap := h' }) :
    wpAny (model P w) A (call (.type "zip") [.ref l1, .ref l2]) Q E s := by
  refine callType_new F.called_zip (by decide) (F.typeCall_zip_2 _ _) (F.newCall_zip_2 _ _) (fun obj => F.args_object_init_3 obj _ _) F.entry_zip_new (zip_TL xs ys) ⟨hl1, hl2, fun h' z ti to a b sz k => ?_⟩
  show _ ∧ _
  exact ⟨⟨_, z, rfl⟩, h h' z ti to a b sz k⟩
theorem pyNext_item {z TI TO i1 i2 l1 l2 : Addr} {xs ys : Array Value} {S1 S2 : Nat → Heap → Prop} {a b x y : Value} {k : Nat} {Q : Option Value → Shared → Prop} (c1 : Src P w i1 l1 xs S1) (c2 : Src P w i2 l2 ys S2) (D : ZipApart z TI TO i1 i2 l1 l2)
    (hz : IsZip s.heap z TI TO .none) (hTI : IsPair s.heap TI (.ref i1) (.ref i2)) (hTO : IsPair s.heap TO a b) (n1 : S1 k s.heap) (n2 : S2 k s.heap) (hx : xs[k]? = some x) (hy : ys[k]? = some y)
    (hQ : ∀ h', IsZip h' z TI TO (rawInt s.heap.objs.size) → IsPair h' TO x y → S1 (k + 1) h' → S2 (k + 1) h' → IsPair h' s.heap.objs.size x y → h'.objs.size = s.heap.objs.size + 1 → KeptZ z TO i1 i2 s.heap h' → Q (some (.ref s.heap.objs.size)) { s with heap := h' }) :
    wpAny (model P w) A (pyNext (.ref z)) Q E s := by
  have T : s.TypeIs (.ref z) "zip" := ⟨_, hz, rfl⟩
  unfold pyNext
  exact wpAny_bind (wpAny_attempt (wpAny_callSpecial?_slot (name := Str.ofString "__next__") T F.slot_zip_next
    (wpAny_call_entry F.slot_zip_next T F.entry_zip_next (next_item c1 c2 D hz hTI hTO n1 n2 hx hy fun h' a1 a2 a3 a4 a5 a6 a7 => wpAny_pure (hQ h' a1 a2 a3 a4 a5 a6 a7)) (F.args_zip_next_1 _))))
theorem pyNext_end {z TI TO i1 i2 l1 l2 : Addr} {xs ys : Array Value} {S1 S2 : Nat → Heap → Prop} {a b : Value} {k : Nat} {Q : Option Value → Shared → Prop} (c1 : Src P w i1 l1 xs S1) (c2 : Src P w i2 l2 ys S2) (hh : A.handled = none) (D : ZipApart z TI TO i1 i2 l1 l2)
    (hz : IsZip s.heap z TI TO .none) (hTI : IsPair s.heap TI (.ref i1) (.ref i2)) (hTO : IsPair s.heap TO a b) (n1 : S1 k s.heap) (n2 : S2 k s.heap) (hend : xs[k]? = none ∨ ys[k]? = none)
    (hQ : ∀ h', KeptZ z TO i1 i2 s.heap h' → Q none { s with heap := h' }) : wpAny (model P w) A (pyNext (.ref z)) Q E s := by
  have T : s.TypeIs (.ref z) "zip" := ⟨_, hz, rfl⟩
  unfold pyNext
  refine wpAny_bind (wpAny_attempt (wpAny_callSpecial?_slot (name := Str.ofString "__next__") T F.slot_zip_next
    (wpAny_call_entry F.slot_zip_next T F.entry_zip_next (next_end c1 c2 hh D hz hTI hTO n1 n2 hend fun h' e hk ⟨o, ho, hc⟩ => ?_) (F.args_zip_next_1 _))))
  exact wpAny_bind (wpAny_isInstance (T := "StopIteration") (b := true) ⟨o, ho, hc⟩ isSubtype_stop (wpAny_pure (hQ _ hk)))
end
/-- the list at a and the tuple at b, the items in new pairs -/
def ItzM (K : PySem.W.Frag) (a b : Addr) : It :=
  ⟨fun i H => ∃ (xs ys : List V) (x y : V), SqL K H a xs ∧ SqT K H b ys ∧ xs[i]? = some x ∧ ys[i]? = some y,
    fun i H v H' => ∃ T x y, v = .ref T ∧ H T = none ∧ H' = upd H T (.tup [x, y]) ∧ (∀ xs, SqL K H a xs → xs[i]? = some x) ∧ ∀ ys, SqT K H b ys → ys[i]? = some y,
    fun i H => ∃ xs ys : List V, SqL K H a xs ∧ SqT K H b ys ∧ (xs.length ≤ i ∨ ys.length ≤ i)⟩
theorem five {c z TI TO i1 i2 : Addr} (h : c ∈ [z, TI, TO, i1, i2]) : c = z ∨ c = TI ∨ c = TO ∨ c = i1 ∨ c = i2 := by simpa using h
theorem turn_zipM {P : Program} {w : World} {K : PySem.W.Frag} {elts : List Expr} {kk : Nat} {tpos : Pos} {a b z TI TO i1 i2 : Addr} (D : ZipApart z TI TO i1 i2 a b) :
    Turn P w K (.Tuple elts kk tpos) (ItzM K a b) [z, TI, TO, i1, i2] z (fun i h => IsZip h z TI TO .none ∧ IsPair h TI (.ref i1) (.ref i2) ∧ (∃ x y, IsPair h TO x y) ∧ h.IsListIter i1 a i ∧ h.IsTupleIter i2 b i) where
  mem := by simp
  obj := fun i h st c hc => by
    obtain ⟨hz, hTI, ⟨x, y, hTO⟩, ⟨o1, e1, _, d1⟩, ⟨o2, e2, _, d2⟩⟩ := st
    rcases five hc with q | q | q | q | q <;> subst q
    · exact ⟨_, hz, fun v q => nomatch q⟩
    · exact ⟨_, hTI, fun v q => nomatch q⟩
    · exact ⟨_, hTO, fun v q => nomatch q⟩
    · exact ⟨o1, e1, fun v q => by rw [d1] at q; cases q⟩
    · exact ⟨o2, e2, fun v q => by rw [d2] at q; cases q⟩
  keep := fun i h h' st k => by
    obtain ⟨hz, hTI, ⟨x, y, hTO⟩, h1, h2⟩ := st
    exact ⟨k z (by simp) _ hz, k TI (by simp) _ hTI, ⟨x, y, k TO (by simp) _ hTO⟩, h1.at fun o q => k i1 (by simp) o q, h2.at fun o q => k i2 (by simp) o q⟩
  item := by
    intro X hP hw hK hc i pins s σ H E I hf st hg
    subst hP hw hK
    obtain ⟨hz, hTI, ⟨x0, y0, hTO⟩, h1, h2⟩ := st
    obtain ⟨xs, ys, x, y, hqx, hqy, hx, hy⟩ := hg
    obtain ⟨its, rv, p, _⟩ := I.list hqx
    obtain ⟨its2, rv2, p2, _⟩ := I.tuple hqy
    obtain ⟨u, hu, ru⟩ := rv.get hx
    obtain ⟨u2, hu2, ru2⟩ := rv2.get hy
    have hzl : z < s.heap.objs.size := Heap.lt_size hz
    refine pyNext_item (src_list D.l1i1 its.toArray) (src_tup D.l2i2 its2.toArray) D hz hTI hTO ⟨h1, p.isList⟩ ⟨h2, p2⟩ (x := u) (y := u2) (by simpa using hu) (by simpa using hu2) fun h' z' TO' h1' h2' hT hsz hk => ?_
    refine ⟨_, rfl, wpAny_letOwnedTupleGo_zip (s := { s with heap := h' }) z' fun h'' z'' sb => ?_⟩
    have hT2 : h''.get? s.heap.objs.size = some { cls := .type "tuple", data := .seq #[u, u2] } := (sb.2 _ (Nat.ne_of_gt hzl)).trans hT
    have new : ObjOk X.prog X.w (upd H s.heap.objs.size (.tup [x, y])) h'' s.heap.objs.size (.tup [x, y]) :=
      ⟨by show 2 ≤ sizeLine; decide, [u, u2], .cons ru (.cons ru2 .nil), ⟨_, hT2, rfl, _, rfl⟩⟩
    have I1 : Inv X pins σ (upd H s.heap.objs.size (.tup [x, y])) { s with heap := h'' } :=
      I.turnedNew (t' := s.toks) (ch := [z, TI, TO, i1, i2]) (fun c o hb q => (sb.2 c (fun q' => hb (by simp [q']))).trans (hk c o (fun q' => hb (by simp [q'])) (fun q' => hb (by simp [q'])) (fun q' => hb (by simp [q'])) (fun q' => hb (by simp [q'])) q)) hf (Nat.le_refl _) new
    refine ⟨.ref s.heap.objs.size, _, I1, rfl, ⟨_, x, y, rfl, I.hok.fresh (Nat.le_refl _), rfl, fun l hl => by rw [I.list_inj hl hqx]; exact hx, fun l hl => by rw [I.tuple_inj hl hqy]; exact hy⟩, ⟨z'', ?_, ⟨u, u2, ?_⟩, ?_, ?_⟩, fun c hcm => ?_⟩
    · exact (sb.2 _ D.TIz).trans (hk _ _ D.TIz D.TITO D.TIi1 D.TIi2 hTI)
    · exact (sb.2 _ D.TOz).trans TO'
    · exact h1'.1.at fun o q => (sb.2 _ D.i1z).trans q
    · exact h2'.1.at fun o q => (sb.2 _ D.i2z).trans q
    · have hlt : c < s.heap.objs.size := by
        rcases five hcm with q | q | q | q | q <;> subst q
        · exact hzl
        · exact Heap.lt_size hTI
        · exact Heap.lt_size hTO
        · obtain ⟨_, e1, _⟩ := h1; exact Heap.lt_size e1
        · obtain ⟨_, e2, _⟩ := h2; exact Heap.lt_size e2
      rw [upd_ne (Nat.ne_of_lt hlt)]
      exact (hf c hcm).1
  done := by
    intro X hP hw hK hc i pins s σ H E I hf st hg
    subst hP hw hK
    obtain ⟨hz, hTI, ⟨x0, y0, hTO⟩, h1, h2⟩ := st
    obtain ⟨xs, ys, hqx, hqy, hend⟩ := hg
    obtain ⟨its, rv, p, _⟩ := I.list hqx
    obtain ⟨its2, rv2, p2, _⟩ := I.tuple hqy
    have l1 := rv.length
    have l2 := rv2.length
    have he : its.toArray[i]? = none ∨ its2.toArray[i]? = none := by
      rcases hend with q | q
      · exact .inl (by simp; omega)
      · exact .inr (by simp; omega)
    exact pyNext_end (src_list D.l1i1 its.toArray) (src_tup D.l2i2 its2.toArray) (I.ok.hd hc) D hz hTI hTO ⟨h1, p.isList⟩ ⟨h2, p2⟩ he fun h' hk => ⟨rfl, I.turnedL (t' := s.toks) (ch := [z, TI, TO, i1, i2]) (fun c o hb q =>
      hk c o (fun q' => hb (by simp [q'])) (fun q' => hb (by simp [q'])) (fun q' => hb (by simp [q'])) (fun q' => hb (by simp [q'])) q) hf⟩
  self := fun A i s Q E st h => wpAny_pyIter_zip st.1 h
def iZipM (K : PySem.W.Frag) (ta : TA) : TI := fun σ H R => ta σ H fun vs H1 => ∃ a b xs ys, vs = [.ref a, .ref b] ∧ SqL K H1 a xs ∧ SqT K H1 b ys ∧ R (ItzM K a b) H1
theorem pi_zipM {X : Cx} {e e2 : Expr} {ta : TA} {p pos tpos : Pos} {elts : List Expr} {kk : Nat} (hg : Gl X "zip") (hm : X.mg "zip" = none) (ha : PA X [e, e2] ta)
    (hs : starEach [e, e2] X.env = (false, eval e X.env) :: starEach [e2] X.env := by rfl) (hpl : (backTo pos (starEach [e2] X.env)).any (·.1) = false := by rfl) :
    PI X (.Tuple elts kk tpos) (.Call (.Name "zip" p) [e, e2] [] pos) (iZipM X.K ta) := by
  refine ⟨fun pins s σ H R I h => ?_⟩
  refine Call_ (ld_blt I hg hm PyProof.Rows.boot_zip (PyProof.Rows.callWith_type1 (thn (ha.run pos pins s σ H _ I h) fun us s1 ⟨vs, H1, I1, r1, q1⟩ => ?_) hs hpl))
  obtain ⟨a, b, xs, ys, ex, hqx, hqy, q⟩ := q1
  subst ex
  cases r1 with
  | cons r rr =>
    cases rr with
    | cons r' rr =>
      cases rr
      cases r
      cases r'
      have fresh5 : ∀ c, c ∈ [s1.heap.objs.size + 4, s1.heap.objs.size + 2, s1.heap.objs.size + 3, s1.heap.objs.size, s1.heap.objs.size + 1] → FpOk X pins H1 c := fun c hcm => by
        have hle : s1.heap.objs.size ≤ c := by
          rcases five hcm with z | z | z | z | z <;> subst z <;> omega
        exact I1.fpOk hle (I1.hok.fresh hle)
      obtain ⟨its, rv, p1, _⟩ := I1.list hqx
      obtain ⟨its2, rv2, p2, _⟩ := I1.tuple hqy
      obtain ⟨o2, ho2, _⟩ := id p2
      refine call_zipM p1.isList (show s1.heap.IsTuple b its2.toArray from p2) fun h' hz hTI hTO h1 h2 hsz hk => wpAny_pyIter_zip hz ?_
      have I2 : Inv X pins σ H1 { s1 with heap := h' } := I1.kept (t' := s1.toks) hk
      exact ⟨s1.heap.objs.size + 4, [s1.heap.objs.size + 4, s1.heap.objs.size + 2, s1.heap.objs.size + 3, s1.heap.objs.size, s1.heap.objs.size + 1], _, _, H1, rfl, I2, turn_zipM (PySem.W.ktu_apart s1.heap.objs.size a b p1.lt (Heap.lt_size ho2)), ⟨hz, hTI, ⟨_, _, hTO⟩, h1, h2⟩, fresh5, q⟩
end Zm
set_option Elab.async false
set_option linter.all false
set_option autoImplicit false
set_option maxRecDepth 100000
set_option maxHeartbeats 4000000
namespace K11
open PySem PySem.Spec PyProof.Rows L2 Vb Wd Xd Xo Xv SX Pc Zc Oi RZ Zt Zk Of Og Oh Ot Zm
/-! ### pictures and trees as the law holds them -/
mutual
/-- a picture: a tuple of its text and a list of its parts, or None -/
def pcD : Pic → PyData
  | .hole => .tuple [.str ".", .none]
  | .node n ps => .tuple [.str (S n), .list (pcDL ps)]
def pcDL : List Pic → List PyData
  | [] => []
  | p :: ps => pcD p :: pcDL ps
end
mutual
/-- a tree: None, or a tuple of its name and the tuple of its parts -/
def trD : Pic → PyData
  | .hole => .none
  | .node n ps => .tuple [.str (S n), .tuple (trDL ps)]
def trDL : List Pic → List PyData
  | [] => []
  | p :: ps => trD p :: trDL ps
end
theorem pcDL_map : ∀ ps, pcDL ps = ps.map pcD
  | [] => rfl
  | p :: ps => by
    show pcD p :: pcDL ps = _
    rw [pcDL_map ps]
    rfl
theorem trDL_map : ∀ ps, trDL ps = ps.map trD
  | [] => rfl
  | p :: ps => by
    show trD p :: trDL ps = _
    rw [trDL_map ps]
    rfl
theorem trD_only (p : Pic) : onlyT (trD p) = true := by
  refine Pic.ind (P := fun p => onlyT (trD p) = true) rfl (fun n ps ih => ?_) p
  show (true && (onlyTs (trDL ps) && true)) = true
  rw [trDL_map, onlyTs_all, List.all_map, Bool.and_true, Bool.true_and]
  exact List.all_eq_true.mpr fun p hp => ih p hp
/-- a law's picture in the heap -/
theorem pc_hole {H : Hp} {v : V} (h : Dt H v (pcD .hole)) : ∃ a, v = .ref a ∧ H a = some (.tup [.str ".", .non]) := by
  obtain ⟨a, xs, rfl, ha, al⟩ := dt_tup h
  cases al with
  | cons x al =>
    cases al with
    | cons y al =>
      cases al
      cases x
      cases y
      exact ⟨a, rfl, ha⟩
theorem pc_node {H : Hp} {v : V} {n : List Nat} {ps : List Pic} (h : Dt H v (pcD (.node n ps))) : ∃ a l xs, v = .ref a ∧ H a = some (.tup [.str (S n), .ref l]) ∧ H l = some (.lst xs) ∧ xs.length = ps.length ∧ (∀ (i : Nat) (x : V) (p : Pic), xs[i]? = some x → ps[i]? = some p → Dt H x (pcD p)) := by
  obtain ⟨a, xs, rfl, ha, al⟩ := dt_tup h
  cases al with
  | cons x al =>
    cases al with
    | cons y al =>
      cases al
      cases x
      cases y with
      | lst e al =>
        rw [pcDL_map] at al
        refine ⟨a, _, _, rfl, ha, e, by rw [al.len, List.length_map], fun i x p h1 h2 => ?_⟩
        obtain ⟨d, hd, k⟩ := al.get h1
        rw [List.getElem?_map, h2] at hd
        cases hd
        exact k
theorem tr_hole {H : Hp} {v : V} (h : Dt H v (trD .hole)) : v = .non := by
  cases h
  rfl
theorem tr_node {H : Hp} {v : V} {n : List Nat} {ps : List Pic} (h : Dt H v (trD (.node n ps))) : ∃ a l xs, v = .ref a ∧ H a = some (.tup [.str (S n), .ref l]) ∧ H l = some (.tup xs) ∧ xs.length = ps.length ∧ (∀ (i : Nat) (x : V) (p : Pic), xs[i]? = some x → ps[i]? = some p → Dt H x (trD p)) := by
  obtain ⟨a, xs, rfl, ha, al⟩ := dt_tup h
  cases al with
  | cons x al =>
    cases al with
    | cons y al =>
      cases al
      cases x
      cases y with
      | tup e al =>
        rw [trDL_map] at al
        refine ⟨a, _, _, rfl, ha, e, by rw [al.len, List.length_map], fun i x p h1 h2 => ?_⟩
        obtain ⟨d, hd, k⟩ := al.get h1
        rw [List.getElem?_map, h2] at hd
        cases hd
        exact k
/-! ### the forms by their names -/
theorem row_find (ps : List (FD × Addr)) (n : List Nat) : formOf (ps.map (·.1)) n = (ps.find? fun p => decide (p.1.1 = S n)).map (·.1) := by
  unfold formOf
  rw [List.find?_map]
  rfl
theorem row_val (ps : List (FD × Addr)) (n : List Nat) : valV (kvsP ps) (Sum.inr (S n)) = (ps.find? fun p => decide (p.1.1 = S n)).map fun p => V.ref p.2 := by
  unfold valV kvsP
  rw [List.find?_map]
  have e : ((fun kv : L2.Key × V => decide (kv.1 = Sum.inr (S n))) ∘ fun p : FD × Addr => ((Sum.inr p.1.1 : L2.Key), V.ref p.2)) = fun p => decide (p.1.1 = S n) := funext fun p => decide_eq_decide.mpr ⟨fun z => Sum.inr.inj z, fun z => congrArg Sum.inr z⟩
  rw [e, Option.map_map]
  rfl
theorem row_some {ps : List (FD × Addr)} {n : List Nat} {d : FD} (h : formOf (ps.map (·.1)) n = some d) : ∃ q, (d, q) ∈ ps ∧ valV (kvsP ps) (Sum.inr (S n)) = some (.ref q) := by
  rw [row_find] at h
  obtain ⟨p, hp, rfl⟩ := Option.map_eq_some_iff.mp h
  exact ⟨p.2, List.mem_of_find?_eq_some hp, by rw [row_val, hp]; rfl⟩
/-- what the law's plain scheme holds of a name -/
theorem plain_get {H : Hp} {a tl tb : Addr} {b : Str} {ts : List Str} {ps : List (FD × Addr)} (X : HeldR H a tl tb b ts ps) {n : List Nat} {d : FD} (h : formOf (ps.map (·.1)) n = some d) :
    ∃ q ch ks, DGet H tb (.str (S n)) (some (.ref q)) ∧ H q = some (.tup [.str d.2.1, .ref ch]) ∧ Kids H ch ks d.2.2 := by
  obtain ⟨q, hq, e⟩ := row_some h
  obtain ⟨ch, ks, e1, kk⟩ := X.row _ hq
  exact ⟨q, ch, ks, .inl ⟨kvsP ps, Sum.inr (S n), X.dict, rfl, e.symm⟩, e1, kk⟩
theorem plain_in {H : Hp} {a tl tb : Addr} {b : Str} {ts : List Str} {ps : List (FD × Addr)} (X : HeldR H a tl tb b ts ps) (n : List Nat) : ∃ o, DGet H tb (.str (S n)) o ∧ o.isSome = (formOf (ps.map (·.1)) n).isSome := by
  refine ⟨_, .inl ⟨kvsP ps, Sum.inr (S n), X.dict, rfl, rfl⟩, ?_⟩
  rw [row_val, row_find]
  cases ps.find? fun p => decide (p.1.1 = S n) <;> rfl
/-! ### a picture, written -/
abbrev s_l_written : Stmt := topS 59
theorem sc_l_written : FnScope ["_law_picture", "_law_inside", "_law_one"] ["_law_picture"] (defScope s_l_written) := ⟨rfl, rfl, rfl, by decide +kernel, rfl, by decide +kernel, by decide +kernel⟩
def spWritten (n : Nat) : Sp := fun vs H Q _ => ∃ (v : V) (p : Pic), vs = [v] ∧ Dt H v (pcD p) ∧ p.Ok ∧ p.lev < n ∧ p.lev ≤ 4 ∧ ∀ H', Same H H' → Q (.str (S p.cs)) H'
theorem hole_S : ("." : Str) = S [46] := by decide +kernel
theorem blank_S : (" " : Str) = S [32] := by decide +kernel
theorem inside {ps : List Pic} : Txt.join (" " : Str) (ps.map fun p => S p.cs) = S (csJ ps) := by
  have e : (ps.map fun p => S p.cs) = (ps.map Pic.cs).map S := by rw [List.map_map]; rfl
  rw [e, blank_S, join_S, csJ_join]
theorem cs_sum : ∀ ps : List Pic, (ps.map fun p => p.cs.length).sum ≤ (csJ ps).length
  | [] => Nat.zero_le _
  | p :: ps => by
    have h : ∀ qs : List Pic, (qs.map fun p => p.cs.length).sum ≤ (csT qs).length := fun qs => by
      induction qs with
      | nil => exact Nat.zero_le _
      | cons q qs ih =>
        show q.cs.length + (qs.map fun p => p.cs.length).sum ≤ (32 :: (q.cs ++ csT qs)).length
        rw [List.length_cons, List.length_append]
        omega
    show p.cs.length + (ps.map fun p => p.cs.length).sum ≤ (p.cs ++ csT ps).length
    rw [List.length_append]
    have := h ps
    omega
section
variable {P : Program} {w : World} {K : PySem.W.Frag} {mg : Str → Option Value} {base : Heap}
theorem ok_written (D : Df K mg "_law_written" s_l_written ["_law_picture"]) : ∀ n, Cg P w K mg base (1 + n) "_law_written" (spWritten n)
  | 0 => by
    obtain ⟨f, fd, F, m, b⟩ := D
    exact ⟨f, fd, _, ⟨fun vs H Q E h => by obtain ⟨_, p, _, _, _, l, _⟩ := h; omega, fun A outer s H args us vs Q E hc hr e0 hb r h => by obtain ⟨_, p, _, _, _, l, _⟩ := h; omega⟩, m, F.kp, b⟩
  | n + 1 => by
    have IH := ok_written D n
    refine D.ok (k := 1 + n) sc_l_written (fun vs H Q E h => ?_) (fun cdv A outer s H vs Q E f0 hc hr h => ?_)
    · obtain ⟨v, p, rfl, _⟩ := h
      rfl
    · obtain ⟨v, p, rfl, PD, ok, ln, l4, q⟩ := h
      refine ⟨_, (pss_cons (ps_if (pt_cmpR op_isN (pe_ix (ix_tup : IxR _ (rIxT K)) (pv 0) pe_int (fun _ _ => rfl)) pe_non (nomark _))
      (pss_one (ps_ret (pe_ix (ix_tup : IxR _ (rIxT K)) (pv 0) pe_int (fun _ _ => rfl))))
      pss_nil)
      (pss_cons (ps_set (i := 1) sc_l_written.nd rfl (Or.inl rfl) (pe_join pe_str (pe_lc (own := [("_law_one", 2)]) (g := gName 2) (by rfl) sc_l_written.nd (pi_list (pe_ix (ix_tup : IxR _ (rIxT K)) (pv 0) pe_int (fun _ _ => rfl))) (blkOk_by (own := [("_law_one", 2)]) (N := ["_law_picture", "_law_inside", "_law_one"]) (sc := defScope s_l_written) (by decide +kernel)) (fun _ _ _ _ _ => pg_name (i := 2) sc_l_written.nd rfl (Or.inl rfl)) (fun _ _ _ _ _ => pts_nil) (fun _ _ _ _ _ => (pe_cg IH hc hr (by rfl) (pa_cons (pv 2) pa_nil) (Nat.le_refl _))))))
      (pss_one (ps_ret (pe_joined (.cons (pe_fmt (pe_ix (ix_tup : IxR _ (rIxT K)) (pv 0) pe_int (fun _ _ => rfl))) (.cons pe_str (.cons (pe_fmt (pv 1)) (.cons pe_str .nil))))))))), ?_⟩
      cases p with
      | hole =>
        obtain ⟨a, rfl, ha⟩ := pc_hole PD
        refine ⟨_, rfl, a, _, 1, _, rfl, rfl, .inl (.inl ha), rfl, rfl, true, rfl, iteT ⟨_, rfl, a, _, 0, _, rfl, rfl, .inl (.inl ha), rfl, ?_⟩⟩
        have := q H (Same.refl H)
        rw [show S Pic.hole.cs = ("." : Str) from hole_S.symm] at this
        exact this
      | node n' ps =>
        obtain ⟨a, l, xs, rfl, ha, hl, xl, items⟩ := pc_node PD
        obtain ⟨wn, l2, lm4, oks⟩ := ok_node ok
        have e0 : (Pic.node n' ps).cs = n' ++ 40 :: (csJ ps ++ [41]) := rfl
        have len := len4 ok l4
        rw [e0] at len
        simp only [List.length_append, List.length_cons, List.length_nil] at len
        refine ⟨_, rfl, a, _, 1, _, rfl, rfl, .inl (.inl ha), rfl, rfl, false, rfl, iteF ?_⟩
        refine ⟨⟨_, rfl⟩, _, rfl, a, _, 1, _, rfl, rfl, .inl (.inl ha), rfl, l, rfl, ⟨_, .inl (.inl hl)⟩, fun Dl nD => ?_⟩
        refine lc_list (K := K) (a := l) (xs := xs) (fun i H' => Same H H' ∧ H' Dl = some (.lst (((ps.take i).map fun p => S p.cs).map V.str))) ⟨same_put nD (Same.refl _), upd_same⟩ (fun i H' _ h => .inl (.inl (h.1 _ _ hl))) (fun i x H1 hx h => ?_) (fun H1 h => ?_)
        · obtain ⟨s1, e1⟩ := h
          have il : i < ps.length := by
            have := (List.getElem?_eq_some_iff.mp hx).1
            omega
          have hp : ps[i]? = some ps[i] := List.getElem?_eq_getElem il
          have pm : ps[i] ∈ (Pic.node n' ps).parts := List.getElem_mem il
          have lp := lev_part pm
          have okp := ok_part ok pm
          have kd := items i x _ hx hp
          generalize ps[i] = pp at hp lp okp kd
          refine ⟨rfl, _, rfl, x, pp, rfl, Dt.same s1 _ _ kd, okp, by omega, by omega, fun H2 s2 => ⟨_, s2 _ _ e1, ?_, same_put nD (s1.trans s2), ?_⟩⟩
          · rw [List.length_map, List.length_map, List.length_take]
            exact Nat.lt_of_le_of_lt (show _ ≤ 4 by omega) (by decide)
          · rw [upd_same, List.take_add_one, hp, List.map_append, List.map_append]
            rfl
        · obtain ⟨s1, e1⟩ := h
          rw [xl, List.take_of_length_le (Nat.le_refl _)] at e1
          have sum := cs_sum ps
          refine ⟨" ", Dl, ps.map fun p => S p.cs, rfl, rfl, .inl (.inl (.inl e1)), ?_, ?_⟩
          · have e2 : ((ps.map fun p => S p.cs).map (·.length)) = ps.map fun p => p.cs.length := by rw [List.map_map]; exact List.map_congr_left fun p _ => S_len _
            have e3 : (" " : Str).length = 1 := by decide +kernel
            rw [e2, e3, List.length_map]
            omega
          · rw [inside]
            have lS : ∀ c : List Nat, (S c).length = c.length := fun c => S_len c
            refine ⟨_, rfl, a, _, 0, _, rfl, rfl, .inl (.inl (s1 _ _ ha)), rfl, .inl ⟨S n', rfl, ?_, S n', rfl, ?_, ?_⟩⟩
            · rw [lS]
              exact Nat.le_trans (show _ ≤ 1446 by omega) (by decide)
            · rw [empty_app, lS]
              exact Nat.le_trans (show _ ≤ 1446 by omega) (by decide)
            have e4 : Str.empty ++ S n' ++ ("(" : Str) = S (n' ++ [40]) := by
              rw [empty_app, open_S]
              exact S_cat _ _
            refine ⟨"(", rfl, ?_, ?_⟩
            · rw [e4, lS, List.length_append]
              exact Nat.le_trans (show _ ≤ 1446 by simp only [List.length_cons, List.length_nil]; omega) (by decide)
            rw [e4]
            have e5 : S (n' ++ [40]) ++ S (csJ ps) = S (n' ++ [40] ++ csJ ps) := S_cat _ _
            refine ⟨_, rfl, .inl ⟨_, rfl, ?_, _, rfl, ?_, ?_⟩⟩
            · rw [lS]
              exact Nat.le_trans (show _ ≤ 1446 by omega) (by decide)
            · rw [e5, lS]
              simp only [List.length_append, List.length_cons, List.length_nil]
              exact Nat.le_trans (show _ ≤ 1446 by omega) (by decide)
            rw [e5]
            have e6 : S (n' ++ [40] ++ csJ ps) ++ (")" : Str) = S (Pic.node n' ps).cs := by
              rw [close_S, e0]
              refine (S_cat _ _).trans (congrArg S ?_)
              simp
            refine ⟨")", rfl, ?_, ?_⟩
            · rw [e6, lS, e0]
              simp only [List.length_append, List.length_cons, List.length_nil]
              exact Nat.le_trans (show _ ≤ 1446 by omega) (by decide)
            · rw [e6]
              exact q H1 s1
end
end K11
set_option Elab.async false
set_option linter.all false
set_option autoImplicit false
set_option maxRecDepth 100000
set_option maxHeartbeats 4000000
namespace K11
open PySem PySem.Spec PyProof.Rows L2 Vb Wd Xd Xo Xv SX Pc Zc Oi RZ Zt Zk Of Og Oh Ot Zm
theorem word_ascS {n : List Nat} (w : word n) : Asc (S n) := (word_asc w).2
theorem pc_lays (p : Pic) : p.Ok → Lays (2 * p.lev + 1) (pcD p) := by
  refine Pic.ind (P := fun p => p.Ok → Lays (2 * p.lev + 1) (pcD p)) (fun _ => ?_) (fun n ps ih ok => ?_) p
  · refine lays_tup fun d hd => ?_
    rcases List.mem_cons.mp hd with rfl | hd
    · exact lays_str fun c hc => by
        rw [hole_S] at hc
        have : c = 46 := by simpa using hc
        omega
    · cases List.mem_singleton.mp hd
      exact ⟨rfl, Nat.le_refl _⟩
  · obtain ⟨w, l2, l4, oks⟩ := ok_node ok
    have e : 2 * (Pic.node n ps).lev + 1 = (2 * levL ps + 1 + 1) + 1 := by
      show 2 * (1 + levL ps) + 1 = _
      omega
    rw [e]
    refine lays_tup fun d hd => ?_
    rcases List.mem_cons.mp hd with rfl | hd
    · exact (lays_str (word_ascS w)).le (by omega)
    · cases List.mem_singleton.mp hd
      rw [pcDL_map]
      refine lays_lst fun d hd => ?_
      obtain ⟨p, hp, rfl⟩ := List.mem_map.mp hd
      have := lev_le hp
      exact (ih p hp (oks p hp)).le (by omega)
theorem pc_nodict (p : Pic) : (pcD p).hasDict = false := by
  refine Pic.ind (P := fun p => (pcD p).hasDict = false) rfl (fun n ps ih => ?_) p
  show (false || (PyData.hasDictAll (pcDL ps) || false)) = false
  have all : ∀ qs : List Pic, (∀ p ∈ qs, (pcD p).hasDict = false) → PyData.hasDictAll (pcDL qs) = false := fun qs => by
    induction qs with
    | nil => intro _; rfl
    | cons q qs ihq =>
      intro h
      show ((pcD q).hasDict || PyData.hasDictAll (pcDL qs)) = false
      rw [h q (List.mem_cons_self ..), ihq fun x hx => h x (List.mem_cons_of_mem _ hx)]
      rfl
  rw [all ps ih]
  rfl
theorem pcs_nodict : ∀ qs : List Pic, PyData.hasDictAll (qs.map pcD) = false
  | [] => rfl
  | q :: qs => by
    show ((pcD q).hasDict || PyData.hasDictAll (qs.map pcD)) = false
    rw [pc_nodict, pcs_nodict qs]
    rfl
abbrev s_l_fits : Stmt := topS 68
theorem sc_l_fits : FnScope ["_law_plain", "_law_picture", "_law_one"] ["_law_plain", "_law_picture"] (defScope s_l_fits) := ⟨rfl, rfl, rfl, by decide +kernel, rfl, by decide +kernel, by decide +kernel⟩
/-- whether a picture fits the forms -/
def spFits (n : Nat) : Sp := fun vs H Q _ => ∃ (a tl tb : Addr) (b : Str) (ts : List Str) (ps : List (FD × Addr)) (v : V) (p : Pic), vs = [.ref a, v] ∧ HeldR H a tl tb b ts ps ∧ Dt H v (pcD p) ∧ p.Ok ∧ p.lev < n ∧ p.lev ≤ 4 ∧ ∀ H', Same H H' → Q (.bl (fits (ps.map (·.1)) p)) H'
section
variable {P : Program} {w : World} {K : PySem.W.Frag} {mg : Str → Option Value} {base : Heap}
theorem ok_fits (D : Df K mg "_law_fits" s_l_fits ["_law_plain", "_law_picture"]) (z_len : mg "len" = none) : ∀ n, Cg P w K mg base (1 + n) "_law_fits" (spFits n)
  | 0 => by
    obtain ⟨f, fd, F, m, b⟩ := D
    exact ⟨f, fd, _, ⟨fun vs H Q E h => by obtain ⟨_, _, _, _, _, _, _, p, _, _, _, _, l, _⟩ := h; omega, fun A outer s H args us vs Q E hc hr e0 hb r h => by obtain ⟨_, _, _, _, _, _, _, p, _, _, _, _, l, _⟩ := h; omega⟩, m, F.kp, b⟩
  | n + 1 => by
    have IH := ok_fits D z_len n
    refine D.ok (k := 1 + n) sc_l_fits (fun vs H Q E h => ?_) (fun cdv A outer s H vs Q E f0 hc hr h => ?_)
    · obtain ⟨a, tl, tb, b, ts, ps, v, p, rfl, _⟩ := h
      rfl
    · obtain ⟨a, tl, tb, b, ts, fs, v, p, rfl, X, PD, ok, ln, l4, q⟩ := h
      have hr1 := hr.mono (show 1 ≤ 1 + n by omega)
      refine ⟨_, (pss_cons (ps_if (pt_cmpR op_isN (pe_ix (ix_tup : IxR _ (rIxT K)) (pv 1) pe_int (fun _ _ => rfl)) pe_non (nomark _))
      (pss_one (ps_ret pe_bl))
      pss_nil)
      (pss_cons (ps_if (PW.pt (pw_or (pt_cmp (pc_dnotin (hu_of hr1) (pe_ix (ix_tup : IxR _ (rIxT K)) (pv 1) pe_int (fun _ _ => rfl)) (pe_ix (ix_list : IxR _ (rIxL K)) (pv 0) pe_int (fun _ _ => rfl))) (by rfl)) (pw_or1 (pt_cmpR op_ne (pe_callB call_len_seq (by rfl) z_len PySem.boot_len (pa_cons (pe_ix (ix_tup : IxR _ (rIxT K)) (pe_dget (hu_of hr1) (pe_ix (ix_list : IxR _ (rIxL K)) (pv 0) pe_int (fun _ _ => rfl)) (pe_ix (ix_tup : IxR _ (rIxT K)) (pv 1) pe_int (fun _ _ => rfl)) (fun _ _ => rfl)) pe_int (fun _ _ => rfl)) pa_nil)) (pe_callB call_len_seq (by rfl) z_len PySem.boot_len (pa_cons (pe_ix (ix_tup : IxR _ (rIxT K)) (pv 1) pe_int (fun _ _ => rfl)) pa_nil)) (nomark _)))))
      (pss_one (ps_ret pe_bl))
      pss_nil)
      (pss_one (ps_ret (pe_cmpR (op_eqD hr1.units) (pe_lc (own := [("_law_one", 2)]) (g := gName 2) (by rfl) sc_l_fits.nd (pi_list (pe_ix (ix_tup : IxR _ (rIxT K)) (pv 1) pe_int (fun _ _ => rfl))) (blkOk_by (own := [("_law_one", 2)]) (N := ["_law_plain", "_law_picture", "_law_one"]) (sc := defScope s_l_fits) (by decide +kernel)) (fun _ _ _ _ _ => pg_name (i := 2) sc_l_fits.nd rfl (Or.inl rfl)) (fun _ _ _ _ _ => (pts_one (pt_not (pt_val (pe_cg IH hc hr (by rfl) (pa_cons (pv 0) (pa_cons (pv 2) pa_nil)) (Nat.le_refl _)))))) (fun _ _ _ _ _ => (pv 2))) (pe_lst pa_nil) (nomark _)))))), ?_⟩
      cases p with
      | hole =>
        obtain ⟨v', rfl, hv⟩ := pc_hole PD
        exact ⟨_, rfl, v', _, 1, _, rfl, rfl, .inl (.inl hv), rfl, rfl, true, rfl, iteT (q H (Same.refl H))⟩
      | node n' ps =>
        obtain ⟨v', l, xs, rfl, hv, hl, xl, items⟩ := pc_node PD
        obtain ⟨wn, l2, lm4, oks⟩ := ok_node ok
        refine ⟨_, rfl, v', _, 1, _, rfl, rfl, .inl (.inl hv), rfl, rfl, false, rfl, iteF ?_⟩
        obtain ⟨o, dg, os⟩ := plain_in X n'
        refine ⟨_, rfl, v', _, 0, _, rfl, rfl, .inl (.inl hv), rfl, _, rfl, a, _, 2, _, rfl, rfl, .inl (.inl X.at_), rfl, tb, o, rfl, dg, _, rfl, ?_⟩
        rw [os]
        have qn : ∀ H', Same H H' → Q (.bl (formed (fs.map (·.1)) (.node n' ps) && fitsL (fs.map (·.1)) ps)) H' := q
        cases ef : formOf (fs.map (·.1)) n' with
        | none =>
          rw [formed_no ef] at qn
          exact iteT (iteT (qn H (Same.refl H)))
        | some d =>
          rw [formed_yes ef] at qn
          obtain ⟨r, ch, ks, dg2, hr2, kk⟩ := plain_get X ef
          have kl := kk.len
          refine iteF ⟨_, rfl, a, _, 2, _, rfl, rfl, .inl (.inl X.at_), rfl, _, rfl, v', _, 0, _, rfl, rfl, .inl (.inl hv), rfl, tb, .ref r, rfl, dg2, r, _, 1, _, rfl, rfl, .inl (.inl hr2), rfl, ch, _, rfl, .inr (.inl (.inl kk.at_)), _, rfl, v', _, 1, _, rfl, rfl, .inl (.inl hv), rfl, l, _, rfl, .inl (.inl (.inl hl)), rfl, _, rfl, ?_⟩
          by_cases el : d.2.2.length = ps.length
          · rw [decide_eq_true (show V.int ((ks.map V.ref).length : Nat) = V.int (xs.length : Nat) by rw [List.length_map, kl, xl, el])]
            rw [decide_eq_true el, Bool.true_and] at qn
            refine iteF ⟨_, rfl, v', _, 1, _, rfl, rfl, .inl (.inl hv), rfl, l, rfl, ⟨_, .inl (.inl hl)⟩, fun Dl nD => ?_⟩
            refine lc_list (K := K) (a := l) (xs := xs) (fun i H' => Same H H' ∧ ∃ us, H' Dl = some (.lst us) ∧ us.length ≤ i ∧ DtAll H us (((ps.take i).filter fun p => !fits (fs.map (·.1)) p).map pcD)) ⟨same_put nD (Same.refl _), [], upd_same, Nat.le_refl _, .nil⟩ (fun i H' _ h => .inl (.inl (h.1 _ _ hl))) (fun i x H1 hx h => ?_) (fun H1 h => ?_)
            · obtain ⟨s1, us, e1, ul, du⟩ := h
              have il : i < ps.length := by
                have := (List.getElem?_eq_some_iff.mp hx).1
                omega
              have hp : ps[i]? = some ps[i] := List.getElem?_eq_getElem il
              have pm : ps[i] ∈ (Pic.node n' ps).parts := List.getElem_mem il
              have lp := lev_part pm
              have okp := ok_part ok pm
              have kd := items i x _ hx hp
              have tk : ps.take (i + 1) = ps.take i ++ [ps[i]] := by rw [List.take_add_one, hp]; rfl
              generalize ps[i] = pp at hp lp okp kd tk
              refine ⟨rfl, _, rfl, _, rfl, a, tl, tb, b, ts, fs, x, pp, rfl, X.same s1, Dt.same s1 _ _ kd, okp, by omega, by omega, fun H2 s2 => ⟨_, rfl, ?_⟩⟩
              have s12 := s1.trans s2
              have e2 := s2 _ _ e1
              rw [tk, List.filter_append, List.map_append]
              cases efp : fits (fs.map (·.1)) pp with
              | true =>
                have e0 : ([pp].filter fun p => !fits (fs.map (·.1)) p) = [] := by simp [efp]
                rw [e0, List.map_nil, List.append_nil]
                exact iteF ⟨s12, us, e2, by omega, du⟩
              | false =>
                have e0 : ([pp].filter fun p => !fits (fs.map (·.1)) p) = [pp] := by simp [efp]
                rw [e0]
                exact iteT ⟨_, rfl, us, e2, Nat.lt_of_le_of_lt (show _ ≤ 4 by omega) (by decide), same_put nD s12, us ++ [x], upd_same, by rw [List.length_append, List.length_singleton]; omega, du.app (.cons kd .nil)⟩
            · obtain ⟨s1, us, e1, ul, du⟩ := h
              rw [xl, List.take_of_length_le (Nat.le_refl _)] at du
              have ef2 : fitsL (fs.map (·.1)) ps = decide ((ps.filter fun p => !fits (fs.map (·.1)) p) = []) := by
                rw [fitsL_all]
                refine Bool.eq_iff_iff.mpr ⟨fun h => decide_eq_true ?_, fun h => List.all_eq_true.mpr fun p hp => ?_⟩
                · refine List.filter_eq_nil_iff.mpr fun p hp => ?_
                  rw [List.all_eq_true.mp h p hp]
                  simp
                · have := List.filter_eq_nil_iff.mp (of_decide_eq_true h) p hp
                  simpa using this
              refine ⟨by show 0 ≤ sizeLine; decide, fun l2 n2 => ?_⟩
              have s2 := same_new (o := .lst []) n2
              refine ⟨.list ((ps.filter fun p => !fits (fs.map (·.1)) p).map pcD), .list [], .lst (.inl (.inl (s2 _ _ e1))) (DtAll.dp _ _ (pcs_nodict _) (DtAll.same (s1.trans s2) _ _ du)), .lst (.inl (.inl upd_same)) .nil, ?_, rfl, ?_⟩
              · refine (lays_lst (n := 9) fun d hd => ?_).shaped (by decide)
                obtain ⟨p, hp, rfl⟩ := List.mem_map.mp hd
                have pm := (List.mem_filter.mp hp).1
                have := lev_part (p := .node n' ps) (q := p) pm
                exact (pc_lays p (oks p pm)).le (by omega)
              · have ev : ∀ l : List Pic, PyData.eqv (.list (l.map pcD)) (.list []) = decide (l = []) := fun l => by
                  cases l <;> rfl
                rw [ev, ← ef2]
                exact qn _ (s1.trans s2)
          · rw [decide_eq_false (show ¬ V.int ((ks.map V.ref).length : Nat) = V.int (xs.length : Nat) from fun z => by
              have := V.int.inj z
              rw [List.length_map] at this
              omega)]
            rw [decide_eq_false el, Bool.false_and] at qn
            exact iteT (qn H (Same.refl H))
end
end K11
set_option Elab.async false
set_option linter.all false
set_option autoImplicit false
set_option maxRecDepth 100000
set_option maxHeartbeats 4000000
namespace K11
open PySem PySem.Spec PyProof.Rows L2 Vb Wd Xd Xo Xv SX Pc Zc Oi RZ Zt Zk Of Og Oh Ot Zm
theorem walk_zipM {K : PySem.W.Frag} {a b : Addr} {xs ys : List V} (hl : xs.length = ys.length) : Walk (ItzM K a b) xs.length (fun H => SqL K H a xs ∧ SqT K H b ys) (YPair (fun i => xs[i]?) (fun i => ys[i]?)) := by
  refine ⟨fun i _ hi q => ?_, fun _ q => ⟨xs, ys, q.1, q.2, .inl (Nat.le_refl _)⟩, fun i H v H' _ q y => ?_⟩
  · have h2 : i < ys.length := by omega
    exact ⟨xs, ys, xs[i], ys[i], q.1, q.2, by simp [hi], by simp [h2]⟩
  · obtain ⟨T, x, z, h1, h2, h3, h4, h5⟩ := y
    exact ⟨T, x, z, h1, h2, h3, h4 xs q.1, h5 ys q.2⟩
theorem for_zipM {K : PySem.W.Frag} {a b : Addr} {xs ys : List V} {g : TG} {tb : TS} {D : Ends} {σ : L2.St} {H : Hp} (hl : xs.length = ys.length) (Pv : Nat → L2.St → Hp → Prop) (h0 : Pv 0 σ H) (hq : ∀ i σ H, Pv i σ H → SqL K H a xs ∧ SqT K H b ys)
    (hs : ∀ (i : Nat) (x y : V) (T : Addr) (σ : L2.St) (H : Hp), xs[i]? = some x → ys[i]? = some y → Pv i σ H → H T = none → g (.ref T) σ (upd H T (.tup [x, y])) fun σ2 H2 => tb { D with nx := Pv (i + 1), ct := Pv (i + 1), bk := D.nx } σ2 H2) (hd : ∀ σ H, Pv xs.length σ H → D.nx σ H) :
    ∃ W : Nat → Nat → L2.St → Hp → Prop, (∃ m, W 0 m σ H) ∧ ∀ i m σ H, W i m σ H →
      ((ItzM K a b).stop i H ∧ D.nx σ H) ∨ ((ItzM K a b).go i H ∧ ∃ N : L2.St → Hp → Prop, (∀ σ' H', N σ' H' → ∃ m', m' < m ∧ W (i + 1) m' σ' H') ∧ ∀ v H', (ItzM K a b).yld i H v H' → g v σ H' fun σ2 H2 => tb { D with nx := N, ct := N, bk := D.nx } σ2 H2) :=
  for_it (walk_zipM hl) Pv h0 (fun i σ H _ h => hq i σ H h) (fun i v σ H H' _ h y => by
    obtain ⟨T, x, z, rfl, nT, rfl, h1, h2⟩ := y
    exact hs i x z T σ H h1 h2 h nT) hd
/-! ### sound, part by part -/
theorem sound_yes {ds : List FD} {n : List Nat} {ps : List Pic} {d : FD} (e : formOf ds n = some d) (l : d.2.2.length = ps.length) (h : ∀ (i : Nat) (p : Pic) (c : Str × Int), ps[i]? = some p → d.2.2[i]? = some c → soundP ds p c.1 = true) : sound ds (.node n ps) = true := by
  rw [sound_node e, formed_yes e, decide_eq_true l, Bool.true_and, soundL_all, List.all_eq_true]
  intro x hx
  obtain ⟨i, hi, ei⟩ := List.mem_iff_getElem.mp hx
  have il : i < ps.length := by
    rw [List.length_zipWith] at hi
    omega
  have ic : i < d.2.2.length := by omega
  have := h i ps[i] d.2.2[i] (List.getElem?_eq_getElem il) (List.getElem?_eq_getElem ic)
  rw [← ei, List.getElem_zipWith]
  exact this
theorem sound_no {ds : List FD} {n : List Nat} {ps : List Pic} {d : FD} (e : formOf ds n = some d) {i : Nat} {p : Pic} {c : Str × Int} (hp : ps[i]? = some p) (hc : d.2.2[i]? = some c) (h : soundP ds p c.1 = false) : sound ds (.node n ps) = false := by
  rw [sound_node e, soundL_all, Bool.and_eq_false_iff]
  refine .inr (List.all_eq_false.mpr ⟨soundP ds p c.1, ?_, by rw [h]; simp⟩)
  refine List.mem_of_getElem? (i := i) ?_
  rw [List.getElem?_zipWith, hp, hc]
abbrev s_l_is_sound : Stmt := topS 62
abbrev nIS : List Str := ["_law_plain", "_law_picture", "_law_one", "_law_sort", "_law_step"]
theorem sc_l_is_sound : FnScope nIS ["_law_plain", "_law_picture"] (defScope s_l_is_sound) := ⟨rfl, rfl, rfl, by decide +kernel, rfl, by decide +kernel, by decide +kernel⟩
def spIsSound (n : Nat) : Sp := fun vs H Q _ => ∃ (a tl tb : Addr) (b : Str) (ts : List Str) (ps : List (FD × Addr)) (v : V) (p : Pic), vs = [.ref a, v] ∧ HeldR H a tl tb b ts ps ∧ Dt H v (pcD p) ∧ p.Ok ∧ p.lev < n ∧ p.lev ≤ 4 ∧ isHole p = false ∧ ∀ H', Same H H' → Q (.bl (sound (ps.map (·.1)) p)) H'
section
variable {P : Program} {w : World} {K : PySem.W.Frag} {mg : Str → Option Value} {base : Heap}
theorem ok_l_is_sound (D : Df K mg "_law_is_sound" s_l_is_sound ["_law_plain", "_law_picture"]) (z_len : mg "len" = none) (z_zip : mg "zip" = none) : ∀ n, Cg P w K mg base (1 + n) "_law_is_sound" (spIsSound n)
  | 0 => by
    obtain ⟨f, fd, F, m, b⟩ := D
    exact ⟨f, fd, _, ⟨fun vs H Q E h => by obtain ⟨_, _, _, _, _, _, _, p, _, _, _, _, l, _⟩ := h; omega, fun A outer s H args us vs Q E hc hr e0 hb r h => by obtain ⟨_, _, _, _, _, _, _, p, _, _, _, _, l, _⟩ := h; omega⟩, m, F.kp, b⟩
  | n + 1 => by
    have IH := ok_l_is_sound D z_len z_zip n
    refine D.ok (k := 1 + n) sc_l_is_sound (fun vs H Q E h => ?_) (fun cdv A outer s H vs Q E f0 hc hr h => ?_)
    · obtain ⟨a, tl, tb, b, ts, ps, v, p, rfl, _⟩ := h
      rfl
    · obtain ⟨a, tl, tb, b, ts, fs, v, p, rfl, X, PD, ok, ln, l4, nh, q⟩ := h
      have hr1 := hr.mono (show 1 ≤ 1 + n by omega)
      refine ⟨_, (pss_cons (ps_if (PW.pt (pw_or (pt_cmp (pc_dnotin (hu_of hr1) (pe_ix (ix_tup : IxR _ (rIxT K)) (pv 1) pe_int (fun _ _ => rfl)) (pe_ix (ix_list : IxR _ (rIxL K)) (pv 0) pe_int (fun _ _ => rfl))) (by rfl)) (pw_or1 (pt_cmpR op_ne (pe_callB call_len_seq (by rfl) z_len PySem.boot_len (pa_cons (pe_ix (ix_tup : IxR _ (rIxT K)) (pe_dget (hu_of hr1) (pe_ix (ix_list : IxR _ (rIxL K)) (pv 0) pe_int (fun _ _ => rfl)) (pe_ix (ix_tup : IxR _ (rIxT K)) (pv 1) pe_int (fun _ _ => rfl)) (fun _ _ => rfl)) pe_int (fun _ _ => rfl)) pa_nil)) (pe_callB call_len_seq (by rfl) z_len PySem.boot_len (pa_cons (pe_ix (ix_tup : IxR _ (rIxT K)) (pv 1) pe_int (fun _ _ => rfl)) pa_nil)) (nomark _)))))
      (pss_one (ps_ret pe_bl))
      pss_nil)
      (pss_cons (ps_for PassesOwn.never rfl (pi_zipM (by rfl) z_zip (pa_cons (pe_ix (ix_tup : IxR _ (rIxT K)) (pv 1) pe_int (fun _ _ => rfl)) (pa_cons (pe_ix (ix_tup : IxR _ (rIxT K)) (pe_dget (hu_of hr1) (pe_ix (ix_list : IxR _ (rIxL K)) (pv 0) pe_int (fun _ _ => rfl)) (pe_ix (ix_tup : IxR _ (rIxT K)) (pv 1) pe_int (fun _ _ => rfl)) (fun _ _ => rfl)) pe_int (fun _ _ => rfl)) pa_nil))) (pg_tup (by rfl) (pgs_cons (pg_name (i := 2) sc_l_is_sound.nd rfl (Or.inl rfl)) (pgs_cons (pg_tup (by rfl) (pgs_cons (pg_name (i := 3) sc_l_is_sound.nd rfl (Or.inl rfl)) (pgs_cons (pg_name (i := 4) sc_l_is_sound.nd rfl (Or.inl rfl)) pgs_nil))) pgs_nil)))
      (pss_one (ps_if (PW.pt (pw_and (pt_cmpR op_notN (pe_ix (ix_tup : IxR _ (rIxT K)) (pv 2) pe_int (fun _ _ => rfl)) pe_non (nomark _)) (pw_and1 (PW.pt (pw_or (pt_not (pt_val (pe_cg IH hc hr (by rfl) (pa_cons (pv 0) (pa_cons (pv 2) pa_nil)) (Nat.le_refl _)))) (pw_or1 (pt_cmpR op_ne (pe_ix (ix_tup : IxR _ (rIxT K)) (pe_dget (hu_of hr1) (pe_ix (ix_list : IxR _ (rIxL K)) (pv 0) pe_int (fun _ _ => rfl)) (pe_ix (ix_tup : IxR _ (rIxT K)) (pv 2) pe_int (fun _ _ => rfl)) (fun _ _ => rfl)) pe_int (fun _ _ => rfl)) (pv 3) (nomark _))))))))
      (pss_one (ps_ret pe_bl))
      pss_nil)))
      (pss_one (ps_ret pe_bl)))), ?_⟩
      cases p with
      | hole => cases nh
      | node n' ps =>
        obtain ⟨v', l, xs, rfl, hv, hl, xl, items⟩ := pc_node PD
        obtain ⟨wn, l2, lm4, oks⟩ := ok_node ok
        obtain ⟨o, dg, os⟩ := plain_in X n'
        refine ⟨_, rfl, v', _, 0, _, rfl, rfl, .inl (.inl hv), rfl, _, rfl, a, _, 2, _, rfl, rfl, .inl (.inl X.at_), rfl, tb, o, rfl, dg, _, rfl, ?_⟩
        rw [os]
        cases ef : formOf (fs.map (·.1)) n' with
        | none =>
          have e0 : sound (fs.map (·.1)) (.node n' ps) = false := by
            show (formed (fs.map (·.1)) (.node n' ps) && _) = false
            rw [formed_no ef]
            rfl
          rw [e0] at q
          exact iteT (iteT (q H (Same.refl H)))
        | some d =>
          obtain ⟨r, ch, ks, dg2, hr2, kk⟩ := plain_get X ef
          have kl := kk.len
          refine iteF ⟨_, rfl, a, _, 2, _, rfl, rfl, .inl (.inl X.at_), rfl, _, rfl, v', _, 0, _, rfl, rfl, .inl (.inl hv), rfl, tb, .ref r, rfl, dg2, r, _, 1, _, rfl, rfl, .inl (.inl hr2), rfl, ch, _, rfl, .inr (.inl (.inl kk.at_)), _, rfl, v', _, 1, _, rfl, rfl, .inl (.inl hv), rfl, l, _, rfl, .inl (.inl (.inl hl)), rfl, _, rfl, ?_⟩
          by_cases el : d.2.2.length = ps.length
          · rw [decide_eq_true (show V.int ((ks.map V.ref).length : Nat) = V.int (xs.length : Nat) by rw [List.length_map, kl, xl, el])]
            refine iteF ⟨_, rfl, v', _, 1, _, rfl, rfl, .inl (.inl hv), rfl, _, rfl, a, _, 2, _, rfl, rfl, .inl (.inl X.at_), rfl, _, rfl, v', _, 0, _, rfl, rfl, .inl (.inl hv), rfl, tb, .ref r, rfl, dg2, r, _, 1, _, rfl, rfl, .inl (.inl hr2), rfl, l, ch, xs, ks.map V.ref, rfl, .inl (.inl hl), .inl (.inl kk.at_), ?_⟩
            refine for_zipM (K := K) (a := l) (b := ch) (xs := xs) (ys := ks.map V.ref) (by rw [List.length_map]; omega) (fun i σ H' => (∃ o2 o3 o4 : Option V, σ = [some (.ref a), some (.ref v'), o2, o3, o4]) ∧ Same H H' ∧ ∀ (j : Nat) (p : Pic) (c : Str × Int), j < i → ps[j]? = some p → d.2.2[j]? = some c → soundP (fs.map (·.1)) p c.1 = true)
              ⟨⟨none, none, none, rfl⟩, Same.refl H, fun j p c h => by omega⟩ (fun i σ H' h => ⟨.inl (.inl (h.2.1 _ _ hl)), .inl (.inl (h.2.1 _ _ kk.at_))⟩) (fun i y1 y2 T σ H2 hy1 hy2 h nT => ?_) (fun σ H2 h => ?_)
            · obtain ⟨⟨o2, o3, o4, rfl⟩, s2, done⟩ := h
              rw [List.getElem?_map] at hy2
              obtain ⟨t1, ht1, rfl⟩ := Option.map_eq_some_iff.mp hy2
              obtain ⟨⟨c1, c2⟩, hc', kt⟩ := kk.get ht1
              have il : i < ps.length := by
                have := (List.getElem?_eq_some_iff.mp hy1).1
                omega
              have hp : ps[i]? = some ps[i] := List.getElem?_eq_getElem il
              have pm : ps[i] ∈ (Pic.node n' ps).parts := List.getElem_mem il
              have lp := lev_part pm
              have okp := ok_part ok pm
              have kd := items i y1 _ hy1 hp
              generalize ps[i] = pp at hp lp okp kd
              have s3 := s2.trans (same_new (o := .tup [y1, .ref t1]) nT)
              have eT : (upd H2 T (.tup [y1, .ref t1])) T = some (.tup [y1, .ref t1]) := upd_same
              generalize upd H2 T (.tup [y1, .ref t1]) = H3 at s3 eT ⊢
              have next : soundP (fs.map (·.1)) pp c1 = true → ∀ (j : Nat) (p : Pic) (c : Str × Int), j < i + 1 → ps[j]? = some p → d.2.2[j]? = some c → soundP (fs.map (·.1)) p c.1 = true := fun hs j p c hj h1 h2 => by
                by_cases e : j = i
                · subst e
                  rw [hp] at h1
                  rw [hc'] at h2
                  cases h1
                  cases h2
                  exact hs
                · exact done j p c (by omega) h1 h2
              have kd3 := Dt.same s3 _ _ kd
              have X3 := X.same s3
              refine ⟨T, _, rfl, .inl (.inl eT), rfl, y1, _, rfl, .ref t1, _, rfl, t1, _, rfl, .inl (.inl (s3 _ _ kt.at_)), rfl, .str c1, _, rfl, .int c2, _, rfl, rfl, rfl, ?_⟩
              cases pp with
              | hole =>
                obtain ⟨y', rfl, hy'⟩ := pc_hole kd3
                exact ⟨_, rfl, y', _, 1, _, rfl, rfl, .inl (.inl hy'), rfl, rfl, false, rfl, iteF (iteF ⟨⟨_, _, _, rfl⟩, s3, next rfl⟩)⟩
              | node m qs =>
                obtain ⟨y', l', xs', rfl, hy', hl', xl', items'⟩ := pc_node kd3
                refine ⟨_, rfl, y', _, 1, _, rfl, rfl, .inl (.inl hy'), rfl, rfl, true, rfl, iteT ⟨_, rfl, _, rfl, a, tl, tb, b, ts, fs, .ref y', .node m qs, rfl, X3, kd3, okp, by omega, by omega, rfl, fun H4 s4 => ⟨_, rfl, ?_⟩⟩⟩
                have s34 := s3.trans s4
                cases es : sound (fs.map (·.1)) (.node m qs) with
                | false =>
                  have eb : soundP (fs.map (·.1)) (.node m qs) c1 = false := by
                    show (false || (sound (fs.map (·.1)) (.node m qs) && _)) = false
                    rw [es]
                    rfl
                  rw [sound_no ef hp hc' eb] at q
                  exact iteT (iteT (q H4 s34))
                | true =>
                  obtain ⟨d', e', _⟩ := formed_form (sound_formed es)
                  have X4 := X.same s34
                  obtain ⟨r', ch', ks', dg', hr', kk'⟩ := plain_get X4 e'
                  have eb : soundP (fs.map (·.1)) (.node m qs) c1 = decide (d'.2.1 = c1) := by
                    show (false || (sound (fs.map (·.1)) (.node m qs) && sortOk (fs.map (·.1)) c1 (.node m qs))) = _
                    rw [es, sortOk_some e']
                    rfl
                  refine iteF ⟨_, rfl, a, _, 2, _, rfl, rfl, .inl (.inl X4.at_), rfl, _, rfl, y', _, 0, _, rfl, rfl, .inl (.inl (s4 _ _ hy')), rfl, tb, .ref r', rfl, dg', r', _, 0, _, rfl, rfl, .inl (.inl hr'), rfl, _, rfl, rfl, _, rfl, ?_⟩
                  by_cases ec : d'.2.1 = c1
                  · rw [decide_eq_true (show V.str d'.2.1 = V.str c1 by rw [ec])]
                    refine iteF ⟨⟨_, _, _, rfl⟩, s34, next ?_⟩
                    rw [eb, decide_eq_true ec]
                  · rw [decide_eq_false (show ¬ V.str d'.2.1 = V.str c1 from fun z => ec (V.str.inj z))]
                    rw [decide_eq_false ec] at eb
                    rw [sound_no ef hp hc' eb] at q
                    exact iteT (q H4 s34)
            · obtain ⟨⟨o2, o3, o4, rfl⟩, s2, done⟩ := h
              rw [sound_yes ef el fun i p c h1 h2 => done i p c (by have := (List.getElem?_eq_some_iff.mp h1).1; omega) h1 h2] at q
              exact q H2 s2
          · rw [decide_eq_false (show ¬ V.int ((ks.map V.ref).length : Nat) = V.int (xs.length : Nat) from fun z => by
              have := V.int.inj z
              rw [List.length_map] at this
              omega)]
            have e0 : sound (fs.map (·.1)) (.node n' ps) = false := by
              show (formed (fs.map (·.1)) (.node n' ps) && _) = false
              rw [formed_yes ef, decide_eq_false el]
              rfl
            rw [e0] at q
            exact iteT (q H (Same.refl H))
end
end K11
set_option Elab.async false
set_option linter.all false
set_option autoImplicit false
set_option maxRecDepth 100000
set_option maxHeartbeats 4000000
namespace K11
open PySem PySem.Spec PyProof.Rows L2 Vb Wd Xd Xo Xv SX Pc Zc Oi RZ Zt Zk Of Og Oh Ot Zm
abbrev s_l_steps_to : Stmt := topS 65
theorem sc_l_steps_to : FnScope ["_law_plain", "_law_picture", "_law_level", "_law_found", "_law_one", "_law_sort", "_law_step"] ["_law_plain", "_law_picture", "_law_level"] (defScope s_l_steps_to) := ⟨rfl, rfl, rfl, by decide +kernel, rfl, by decide +kernel, by decide +kernel⟩
def spSteps (n : Nat) : Sp := fun vs H Q _ => ∃ (a tl tb : Addr) (b : Str) (ts : List Str) (ps : List (FD × Addr)) (v : V) (p : Pic) (lv : Int), vs = [.ref a, v, .int lv] ∧ HeldR H a tl tb b ts ps ∧ Dt H v (pcD p) ∧ p.Ok ∧ p.lev < n ∧ p.lev ≤ 4 ∧ sound (ps.map (·.1)) p = true ∧
  ∀ l xs H', Same H H' → H l = none → H' l = some (.lst xs) → DtAll H' xs ((below (ps.map (·.1)) p lv).map spP) → Q (.ref l) H'
section
variable {P : Program} {w : World} {K : PySem.W.Frag} {mg : Str → Option Value} {base : Heap}
theorem ok_steps_to (D : Df K mg "_law_steps_to" s_l_steps_to ["_law_plain", "_law_picture", "_law_level"]) (z_zip : mg "zip" = none) : ∀ n, Cg P w K mg base (1 + n) "_law_steps_to" (spSteps n)
  | 0 => by
    obtain ⟨f, fd, F, m, b⟩ := D
    exact ⟨f, fd, _, ⟨fun vs H Q E h => by obtain ⟨_, _, _, _, _, _, _, p, _, _, _, _, _, l, _⟩ := h; omega, fun A outer s H args us vs Q E hc hr e0 hb r h => by obtain ⟨_, _, _, _, _, _, _, p, _, _, _, _, _, l, _⟩ := h; omega⟩, m, F.kp, b⟩
  | n + 1 => by
    have IH := ok_steps_to D z_zip n
    refine D.ok (k := 1 + n) sc_l_steps_to (fun vs H Q E h => ?_) (fun cdv A outer s H vs Q E f0 hc hr h => ?_)
    · obtain ⟨a, tl, tb, b, ts, ps, v, p, lv, rfl, _⟩ := h
      rfl
    · obtain ⟨a, tl, tb, b, ts, fs, v, p, lv, rfl, X, PD, ok, ln, l4, sd, q⟩ := h
      have hr1 := hr.mono (show 1 ≤ 1 + n by omega)
      refine ⟨_, (pss_cons (ps_set (i := 3) sc_l_steps_to.nd rfl (Or.inl rfl) (pe_lst pa_nil))
      (pss_cons (ps_for PassesOwn.never rfl (pi_zipM (by rfl) z_zip (pa_cons (pe_ix (ix_tup : IxR _ (rIxT K)) (pv 1) pe_int (fun _ _ => rfl)) (pa_cons (pe_ix (ix_tup : IxR _ (rIxT K)) (pe_dget (hu_of hr1) (pe_ix (ix_list : IxR _ (rIxL K)) (pv 0) pe_int (fun _ _ => rfl)) (pe_ix (ix_tup : IxR _ (rIxT K)) (pv 1) pe_int (fun _ _ => rfl)) (fun _ _ => rfl)) pe_int (fun _ _ => rfl)) pa_nil))) (pg_tup (by rfl) (pgs_cons (pg_name (i := 4) sc_l_steps_to.nd rfl (Or.inl rfl)) (pgs_cons (pg_tup (by rfl) (pgs_cons (pg_name (i := 5) sc_l_steps_to.nd rfl (Or.inl rfl)) (pgs_cons (pg_name (i := 6) sc_l_steps_to.nd rfl (Or.inl rfl)) pgs_nil))) pgs_nil)))
      (pss_one (ps_if (pt_cmpR op_isN (pe_ix (ix_tup : IxR _ (rIxT K)) (pv 4) pe_int (fun _ _ => rfl)) pe_non (nomark _))
      (pss_one (ps_expr (pe_bm PySem.F.plainAttrs_list PySem.F.slot_list_append PySem.F.type_list_append mt_append (pv 3) (pa_cons (pe_tup (pa_cons (pv 5) (pa_cons (pe_op op_sub (pv 2) (pv 6)) pa_nil))) pa_nil))))
      (pss_one (ps_expr (pe_bm PySem.F.plainAttrs_list PySem.F.slot_list_extend PySem.F.type_list_extend mt_extend (pv 3) (pa_cons (pe_cg IH hc hr (by rfl) (pa_cons (pv 0) (pa_cons (pv 4) (pa_cons (pe_op op_sub (pv 2) (pv 6)) pa_nil))) (Nat.le_refl _)) pa_nil)))))))
      (pss_one (ps_ret (pv 3))))), ?_⟩
      cases p with
      | hole => cases sd
      | node n' ps =>
        obtain ⟨v', l, xs, rfl, hv, hl, xl, items⟩ := pc_node PD
        obtain ⟨wn, l2, lm4, oks⟩ := ok_node ok
        obtain ⟨d, ef, dl⟩ := formed_form (sound_formed sd)
        obtain ⟨r, ch, ks, dg2, hr2, kk⟩ := plain_get X ef
        have kl := kk.len
        have k4 := kk.hi
        have big : ∀ {n : Nat}, n ≤ 600 → n < sizeLine := fun h => Nat.lt_of_le_of_lt h (by decide)
        have h256 := holes256 ok l4
        have hps : (Pic.node n' ps).holes = holesL ps := rfl
        refine ⟨by show 0 ≤ sizeLine; decide, fun R nR => ?_⟩
        have sR := same_new (o := .lst []) nR
        have eR : (upd H R (.lst [])) R = some (.lst []) := upd_same
        have hv1 := sR _ _ hv
        have hl1 := sR _ _ hl
        have hr1' := sR _ _ hr2
        have X1 := X.same sR
        obtain ⟨r1, ch1, ks1, dg1, hr21, kk1⟩ := plain_get X1 ef
        have ka1 := kk1.at_
        have kl1 := kk1.len
        have k41 := kk1.hi
        generalize upd H R (.lst []) = H1 at sR eR hv1 hl1 hr1' X1 dg1 hr21 kk1 ka1 ⊢
        refine ⟨_, rfl, v', _, 1, _, rfl, rfl, .inl (.inl hv1), rfl, _, rfl, a, _, 2, _, rfl, rfl, .inl (.inl X1.at_), rfl, _, rfl, v', _, 0, _, rfl, rfl, .inl (.inl hv1), rfl, tb, .ref r1, rfl, dg1, r1, _, 1, _, rfl, rfl, .inl (.inl hr21), rfl, l, ch1, xs, ks1.map V.ref, rfl, .inl (.inl hl1), .inl (.inl ka1), ?_⟩
        have lR : l ≠ R := ne_of_none hl nR
        have cR : ch1 ≠ R := fun z => by rw [z, eR] at ka1; cases ka1
        refine for_zipM (K := K) (a := l) (b := ch1) (xs := xs) (ys := ks1.map V.ref) (by rw [List.length_map]; omega) (fun i σ H' => (∃ o4 o5 o6 : Option V, σ = [some (.ref a), some (.ref v'), some (.int lv), some (.ref R), o4, o5, o6]) ∧ (∀ b o, b ≠ R → H1 b = some o → H' b = some o) ∧ ∃ us, H' R = some (.lst us) ∧ us.length = holesL (ps.take i) ∧ DtAll H' us ((belowL (fs.map (·.1)) (ps.take i) (d.2.2.take i) lv).map spP))
          ⟨⟨none, none, none, rfl⟩, fun _ _ _ e => e, [], eR, rfl, .nil⟩ (fun i σ H' h => ⟨.inl (.inl (h.2.1 _ _ lR hl1)), .inl (.inl (h.2.1 _ _ cR ka1))⟩) (fun i y1 y2 T σ H2 hy1 hy2 h nT => ?_) (fun σ H2 h => ?_)
        · obtain ⟨⟨o4, o5, o6, rfl⟩, k2, us, e2, ul, du⟩ := h
          have s2 : Same H H2 := fun b o hb => k2 _ _ (ne_of_none hb nR) (sR _ _ hb)
          rw [List.getElem?_map] at hy2
          obtain ⟨t1, ht1, rfl⟩ := Option.map_eq_some_iff.mp hy2
          obtain ⟨⟨c1, c2⟩, hc', kt⟩ := kk1.get ht1
          have il : i < ps.length := by
            have := (List.getElem?_eq_some_iff.mp hy1).1
            omega
          have hp : ps[i]? = some ps[i] := List.getElem?_eq_getElem il
          have pm : ps[i] ∈ (Pic.node n' ps).parts := List.getElem_mem il
          have lp := lev_part pm
          have okp := ok_part ok pm
          have kd := items i y1 _ hy1 hp
          have hor := sound_part sd ef hp
          have hh := holesL_take hp
          have hle := holesL_le (ps := ps) (i := i + 1)
          have ebl : belowL (fs.map (·.1)) (ps.take (i + 1)) (d.2.2.take (i + 1)) lv = belowL (fs.map (·.1)) (ps.take i) (d.2.2.take i) lv ++ (if isHole ps[i] = true then [(c1, lv - c2)] else below (fs.map (·.1)) ps[i] (lv - c2)) := by
            rw [List.take_add_one, List.take_add_one, hp, hc']
            exact belowL_snoc (by rw [List.length_take, List.length_take, dl])
          generalize ps[i] = pp at hp lp okp kd hor hh ebl
          have t1R : t1 ≠ R := fun z => by
            have q := kt.at_
            rw [z, eR] at q
            cases q
          have et2 := k2 _ _ t1R kt.at_
          have sT := same_new (o := .tup [y1, .ref t1]) nT
          have s3 := s2.trans sT
          have e3 := sT _ _ e2
          have du3 := DtAll.same sT _ _ du
          have et3 := sT _ _ et2
          have k3 : ∀ b o, b ≠ R → H1 b = some o → (upd H2 T (.tup [y1, .ref t1])) b = some o := fun b o n hb => sT _ _ (k2 _ _ n hb)
          have eT : (upd H2 T (.tup [y1, .ref t1])) T = some (.tup [y1, .ref t1]) := upd_same
          generalize upd H2 T (.tup [y1, .ref t1]) = H3 at s3 e3 du3 et3 eT k3 ⊢
          have kd3 := Dt.same s3 _ _ kd
          have X3 := X.same s3
          refine ⟨T, _, rfl, .inl (.inl eT), rfl, y1, _, rfl, .ref t1, _, rfl, t1, _, rfl, .inl (.inl et3), rfl, .str c1, _, rfl, .int c2, _, rfl, rfl, rfl, ?_⟩
          cases pp with
          | hole =>
            obtain ⟨y', rfl, hy'⟩ := pc_hole kd3
            have h1' : Pic.hole.holes = 1 := rfl
            refine ⟨_, rfl, y', _, 1, _, rfl, rfl, .inl (.inl hy'), rfl, rfl, true, rfl, iteT ⟨.ref R, rfl, .inl ⟨rfl, _, .inl (.inl e3)⟩, _, rfl, _, rfl, _, rfl, _, _, rfl, rfl, by show 2 ≤ sizeLine; decide, fun r nr => ?_⟩⟩
            have sr := same_new (o := .tup [.str c1, .int (lv - c2)]) nr
            refine ⟨R, _, _, rfl, rfl, sr _ _ e3, big (by omega), ⟨_, _, _, rfl⟩, fun b o n hb => ?_, _, upd_same, ?_, ?_⟩
            · rw [upd_ne n]
              exact sr _ _ (k3 _ _ n hb)
            · rw [List.length_append, ul, hh]
              rfl
            · rw [ebl, List.map_append]
              refine DtAll.tups (Tups.putL _ (sr _ _ e3)) _ _ (by rw [onlyTs_all, List.all_append, ← onlyTs_all, ← onlyTs_all, spP_only]; rfl) ?_
              exact (DtAll.same sr _ _ du3).app (.cons (spP_mk (s := (c1, lv - c2)) upd_same) .nil)
          | node m qs =>
            have sdp : sound (fs.map (·.1)) (.node m qs) = true := hor.resolve_left (by intro z; cases z)
            obtain ⟨y', l', xs', rfl, hy', hl', xl', items'⟩ := pc_node kd3
            refine ⟨_, rfl, y', _, 1, _, rfl, rfl, .inl (.inl hy'), rfl, rfl, false, rfl, iteF ⟨.ref R, rfl, .inl ⟨rfl, _, .inl (.inl e3)⟩, _, rfl, _, rfl, _, rfl, _, rfl, _, _, rfl, rfl, a, tl, tb, b, ts, fs, .ref y', .node m qs, lv - c2, rfl, X3, kd3, okp, by omega, by omega, sdp, fun l2 xs2 H4 s4 n4 e4 dx4 => ?_⟩⟩
            have x2 : xs2.length = (Pic.node m qs).holes := by rw [dx4.len, List.length_map]; exact (sound_below _ okp sdp _).1
            have e34 := s4 _ _ e3
            refine ⟨R, l2, us, xs2, rfl, rfl, e34, e4, Nat.le_of_lt (big (by omega)), ⟨_, _, _, rfl⟩, fun b o n hb => ?_, _, upd_same, ?_, ?_⟩
            · rw [upd_ne n]
              exact s4 _ _ (k3 _ _ n hb)
            · rw [List.length_append, ul, x2, hh]
            · rw [ebl, List.map_append]
              refine DtAll.tups (Tups.putL _ e34) _ _ (by rw [onlyTs_all, List.all_append, ← onlyTs_all, ← onlyTs_all, spP_only, spP_only]; rfl) ?_
              exact (DtAll.same s4 _ _ du3).app dx4
        · obtain ⟨⟨o4, o5, o6, rfl⟩, k2, us, e2, ul, du⟩ := h
          have s2 : Same H H2 := fun b o hb => k2 _ _ (ne_of_none hb nR) (sR _ _ hb)
          rw [List.take_of_length_le (by omega), List.take_of_length_le (by omega), ← below_node ef] at du
          exact ⟨_, rfl, q R us H2 s2 nR e2 du⟩
end
end K11
set_option Elab.async false
set_option linter.all false
set_option autoImplicit false
set_option maxRecDepth 100000
set_option maxHeartbeats 4000000
/-! Sn: a set of numbers that is made of a list. -/
namespace Sn
open PySem PySem.Spec PyProof.Rows L2 Vb
section
variable {P : Program} {w : World} {A : Around} {E : Value → Shared → Prop} {s : Shared}
def among (xs : List Int) (i : Nat) : Int → Bool := fun k => decide (k ∈ xs.take i)
theorem among_step {xs : List Int} {i : Nat} {x : Int} (h : xs[i]? = some x) : (fun j => among xs i j || decide (j = x)) = among xs (i + 1) := funext fun j => by
  unfold among
  rw [List.take_add_one, h]
  by_cases a : j ∈ xs.take i
  · simp [a]
  · simp [a]
theorem empty_set {h : Heap} {b : Addr} (ho : h.get? b = some { cls := .type "set", dict := none, data := .set #[] 0 (.fresh 0 0 (!w.params.followText "set-order")) }) : SetR w h b (fun _ => false) 0 :=
  ⟨_, #[], 0, _, ho, ⟨rfl, rfl, rfl⟩, rfl, (fun e he => by simp at he), (by simp), (fun k => by simp), (by decide), (by rfl), rfl, List.Pairwise.nil, by
    cases q : w.params.followText "set-order"
    · exact .inr rfl
    · exact .inl rfl⟩
/-- the loop that puts all items in -/
theorem fill {I : Addr} {fp wr : List Addr} {G : Array GenState → Array GenState → Prop} {n : Nat} {Pv : Nat → Value → Prop} {St : Nat → Shared → Prop} {R : Result → Shared → Prop} (W : WalksS P w A.in1 I fp wr G n Pv St) (D : Addr) (hD : D ∉ fp) (xs : List Int)
    (hn : xs.length = n) (few : n + 1 < scanBound) (val : ∀ i v, Pv i v → ∃ x t, xs[i]? = some x ∧ v = .int x t) : ∀ (left i c : Nat) (s : Shared), n - i = left → i ≤ n → c ≤ i → St i s → SetR w s.heap D (among xs i) c →
      (∀ s' c', Moved (D :: wr) G s s' → SetR w s'.heap D (among xs n) c' → c' ≤ n → R (.ok (.ret .none)) s') → codeAny (model P w) A (.builtin "set.update.loop" ⟨[.ref D, .ref I], []⟩) R s := by
  have hDw : D ∉ wr := fun h => hD (W.sub _ h)
  have up : ∀ b ∈ wr, b ∈ D :: wr := fun b hb => List.mem_cons_of_mem _ hb
  intro left
  induction left with
  | zero =>
    intro i c s hl hi hc hst T hR
    obtain rfl : i = n := by omega
    refine codeAny_builtin PyProof.Rows.F.entry_set_update_loop ?_
    rw [Around.under_plainId PyProof.Rows.F.plain_set_update_loop _]
    show wpAny _ A.in1 (pyNext (.ref I) >>= _) _ _ s
    refine wpAny_bind (W.done s _ _ hst fun s' hm => ?_)
    show wpAny _ A.in1 (ret Value.none) _ _ s'
    exact wpAny_pure (hR s' c (hm.mono up) (T.at fun o e => hm.heap D o hDw e) hc)
  | succ left ih =>
    intro i c s hl hi hc hst T hR
    have lt : i < n := by omega
    refine codeAny_builtin PyProof.Rows.F.entry_set_update_loop ?_
    rw [Around.under_plainId PyProof.Rows.F.plain_set_update_loop _]
    show wpAny _ A.in1 (pyNext (.ref I) >>= _) _ _ s
    refine wpAny_bind (W.item i s _ _ lt hst fun v s' hP hst' hm => ?_)
    obtain ⟨x, t, hx, rfl⟩ := val i v hP
    have T' : SetR w s'.heap D (among xs i) c := T.at fun o e => hm.heap D o hDw e
    show wpAny _ A.in1 (holding [Value.int x t] (setAdd D (.int x t)) >>= _) _ _ s'
    refine wpAny_bind (wpAny_holding ?_)
    unfold setAdd
    refine wpAny_holding (wpAny_bind ((intKind P w).pyHash (intKind_is P w x t) ?_))
    refine setR_add_hashed (s := { s' with toks := s'.toks + 1 }) T' (by omega) fun h' sb T2 => ?_
    rw [among_step hx] at T2
    have c2 : (if among xs i x = true then c else c + 1) ≤ i + 1 := by split <;> omega
    refine wpAny_pure ⟨plainId_quiet PyProof.Rows.F.plain_set_update_loop _, ih (i + 1) _ _ (by omega) lt c2 (W.frame _ s' _ _ hst' (Nat.le_succ _) fun b hb o e => ?_) T2 fun s'' c'' hm'' T'' hc'' => ?_⟩
    · rw [sb.2 b fun z : b = D => hD (z ▸ hb)]
      exact e
    · refine hR s'' c'' (Moved.trans W.gtrans ((hm.mono up).then_heap (Nat.le_succ _) fun b o hb e => ?_) hm'') T'' hc''
      rw [sb.2 b fun z : b = D => hb (z ▸ List.mem_cons_self)]
      exact e
theorem ints_get : ∀ {us : List Value} {xs : List Int}, IntsAre us xs → ∀ (i : Nat) (v : Value), us[i]? = some v → ∃ x t, xs[i]? = some x ∧ v = .int x t
  | _, _, .nil, _, _, h => by simp at h
  | _, _, .cons x t _, 0, v, h => ⟨x, t, rfl, by simpa using h.symm⟩
  | _, _, .cons _ _ r, i + 1, v, h => ints_get r i v (by simpa using h)
set_option maxHeartbeats 8000000 in
/-- set(list) -/
theorem set_of_list {l : Addr} {items : Array Value} {xs : List Int} {Q : Value → Shared → Prop} (hh : A.handled = none) (hl : s.heap.IsList l items) (hi : IntsAre items.toList xs) (few : xs.length + 1 < scanBound)
    (hQ : ∀ (h' : Heap) (tk c : Nat), SetR w h' s.heap.objs.size (among xs xs.length) c → c ≤ xs.length → (∀ b o, s.heap.get? b = some o → h'.get? b = some o) → Q (.ref s.heap.objs.size) { s with heap := h', toks := tk }) :
    wpAny (model P w) A (call (.type "set") [.ref l]) Q E s := by
  have hz : xs.length = items.size := by rw [← IntsAre.length hi, Array.length_toList]
  obtain ⟨c, tl, hmro⟩ := PySem.F.called_set.mro
  have made := PySem.F.called_set.made
  have subs := PySem.F.called_set.sub
  refine wpAny_call (codeAny_of_tree ?_)
  show wpAny _ _ (callAny (.type "set") _) _ _ _
  refine wpAny_pure ⟨Code.quiet_builtin _ (by decide +kernel), codeAny_builtin PySem.F.entry_type_call ?_⟩
  rw [Around.under_plain (weight_type_call_type "set" [.ref l] []) rfl]
  have k1 := PySem.F.called_set.notType
  have k2 := PySem.F.called_set.canCreate
  have k3 := PySem.F.typeCall_set_1 (.ref l)
  repeat (any_goals (first | assumption | wp_step))
  refine codeAny_mono (code_set_led1 (.ref l) (E := E) (Q₁ := fun obj s₁ => obj = .ref s.heap.objs.size ∧ s₁ = { s with heap := s.heap.push { cls := .type "set", dict := none, data := .set #[] 0 (.fresh 0 0 (!w.params.followText "set-order")) } }) ⟨rfl, rfl⟩) fun r s₁ hr => ?_
  match r, hr with
  | .error _, hr => exact hr
  | .ok .next, hr => exact hr.elim
  | .ok .brk, hr => exact hr.elim
  | .ok .cont, hr => exact hr.elim
  | .ok (.ret obj), hr =>
    obtain ⟨rfl, rfl⟩ := hr
    have hS : (s.heap.push { cls := .type "set", dict := none, data := .set #[] 0 (.fresh 0 0 (!w.params.followText "set-order")) }).get? s.heap.objs.size = some { cls := .type "set", dict := none, data := .set #[] 0 (.fresh 0 0 (!w.params.followText "set-order")) } := Heap.get?_push_size _ rfl
    have hT : Shared.TypeIs { s with heap := s.heap.push { cls := .type "set", dict := none, data := .set #[] 0 (.fresh 0 0 (!w.params.followText "set-order")) } } (.ref s.heap.objs.size) "set" := ⟨_, hS, rfl⟩
    have k4 := PySem.F.called_set.init.lookup
    have k5 := PySem.F.called_set.init.bind (.ref s.heap.objs.size)
    repeat (any_goals (first | assumption | wp_step))
    refine codeAny_mono (codeAny_call_builtin (R := wants (fun r s₂ => r = .none ∧ ∃ h' tk c, s₂ = { s with heap := h', toks := tk } ∧ SetR w h' s.heap.objs.size (among xs xs.length) c ∧ c ≤ xs.length ∧ (∀ b o, s.heap.get? b = some o → h'.get? b = some o)) E)
      PySem.F.called_set.init.plain PySem.F.entry_set_init (check_set_init_1 hT ?_)) fun r₂ s₂ hr₂ => ?_
    · obtain ⟨⟨ocls, odict, odata, oslots⟩, hol, hcl, nl, hdl⟩ := hl
      simp only at hcl hdl
      subst hcl
      subst hdl
      have hol' : (s.heap.push { cls := .type "set", dict := none, data := .set #[] 0 (.fresh 0 0 (!w.params.followText "set-order")) }).get? l = some { cls := .type "list", dict := odict, data := .seq items nl, slots := oslots } := Heap.get?_push_of_some _ hol
      have k6 := PySem.F.sub_list_set
      have k7 := PySem.F.sub_list_frozenset
      have k8 : (Value.type "list" == Value.type "dict") = false := by decide
      have hl1 : (s.heap.push { cls := .type "set", dict := none, data := .set #[] 0 (.fresh 0 0 (!w.params.followText "set-order")) }).IsList l items := ⟨_, hol', rfl, nl, rfl⟩
      unfold Builtin.«set.__init__» noKeywords Builtin.Frozenset.updateFrom
      generalize hPI : pyIter = PI
      wp_walk
      subst hPI
      refine wpAny_pyIter_list hl1 (wpAny_bind (wpAny_runValue ?_))
      have lS : l < s.heap.objs.size := Heap.lt_size hol
      have lI : l ≠ (s.heap.push { cls := .type "set", dict := none, data := .set #[] 0 (.fresh 0 0 (!w.params.followText "set-order")) }).objs.size := by
        rw [Heap.size_push]
        exact Nat.ne_of_lt (Nat.lt_succ_of_lt lS)
      have nS : s.heap.objs.size ∉ [(s.heap.push { cls := .type "set", dict := none, data := .set #[] 0 (.fresh 0 0 (!w.params.followText "set-order")) }).objs.size, l] := by
        rw [Heap.size_push]
        simp only [List.mem_cons, List.not_mem_nil, or_false, not_or]
        exact ⟨Nat.ne_of_lt (Nat.lt_succ_self _), Nat.ne_of_gt lS⟩
      refine fill ((Walks.list (by simp [hh]) _ l lI items).toS) s.heap.objs.size nS xs hz (by omega) (fun i v hv => ints_get hi i v (by rw [Array.getElem?_toList]; exact hv)) (items.size - 0) 0 0 _ rfl (Nat.zero_le _) (Nat.le_refl _) ⟨⟨_, Heap.get?_push_size _ rfl, rfl, rfl⟩, (hl1.push _)⟩ ?e0 ?e1
      case e0 =>
        have e : among xs 0 = fun _ => false := funext fun k => by simp [among]
        rw [e]
        exact empty_set (Heap.get?_push_of_some _ hS)
      case e1 =>
        intro s' c' hm T hc
        obtain ⟨h', g2, d', tk', os'⟩ := s'
        have eg : g2 = s.gens := hm.gens
        have ed : d' = s.drawn := hm.drawn
        have eo : os' = s.os := hm.os
        subst eg
        subst ed
        subst eo
        show wpAny _ _ _ _ _ _
        refine wpAny_pure ?_
        show wpAny _ _ (ret Value.none) _ _ _
        rw [← hz] at T hc
        refine wpAny_pure ⟨rfl, h', tk', c', rfl, T, hc, fun b o e => hm.heap b o ?_ (Heap.get?_push_of_some _ (Heap.get?_push_of_some _ e))⟩
        have lb : b < s.heap.objs.size := Heap.lt_size e
        rw [Heap.size_push]
        simp only [List.mem_cons, List.not_mem_nil, or_false, not_or]
        exact ⟨Nat.ne_of_lt lb, Nat.ne_of_lt (Nat.lt_succ_of_lt lb)⟩
    · match r₂, hr₂ with
      | .error _, hr₂ => exact hr₂
      | .ok .next, hr₂ => exact hr₂.elim
      | .ok .brk, hr₂ => exact hr₂.elim
      | .ok .cont, hr₂ => exact hr₂.elim
      | .ok (.ret r), hr₂ =>
        obtain ⟨rfl, h', tk, c', rfl, T, hc, hk⟩ := hr₂
        repeat (any_goals (first | assumption | wp_step))
        exact hQ _ _ _ T hc hk
end
section
variable {X : Cx}
def rSetInts (K : PySem.W.Frag) (w : World) : List V → Hp → VK → Prop := fun xs H Q => ∃ (l : Addr) (ys : List Int), xs = [.ref l] ∧ SqL K H l (ys.map V.int) ∧ ys.length ≤ 1000 ∧
  ∀ a c, H a = none → c ≤ ys.length → Q (.ref a) (upd H a (SetO w a (among ys ys.length) c))
theorem cr_setInts (hc : X.calm = true) : CallR X (.type "set") (rSetInts X.K X.w) := by
  intro pins s σ H xs us Q I r h
  obtain ⟨l, ys, rfl, hs, hl, q⟩ := h
  rw [Vals.ref1 r]
  have few : ys.length + 1 < scanBound := Nat.lt_of_le_of_lt (Nat.succ_le_succ hl) (by decide)
  have fin : ∀ (h' : Heap) (tk c : Nat), SetR X.w h' s.heap.objs.size (among ys ys.length) c → c ≤ ys.length → (∀ b o, s.heap.get? b = some o → h'.get? b = some o) → EP X pins σ Q (.ref s.heap.objs.size) { s with heap := h', toks := tk } := fun h' tk c T hc k =>
    ⟨.ref s.heap.objs.size, upd H s.heap.objs.size (SetO X.w s.heap.objs.size (among ys ys.length) c), I.laid (t' := tk) k (Nat.le_refl _) (setO_new T), rfl, q _ c (I.hok.fresh (Nat.le_refl _)) hc⟩
  obtain ⟨its, rv, pl, _⟩ := I.list hs
  exact set_of_list (P := X.prog) (w := X.w) (I.ok.hd hc) pl.isList (by simpa using RZ.intsAre_vals rv) few fin
end
end Sn
set_option Elab.async false
set_option linter.all false
set_option autoImplicit false
set_option maxRecDepth 100000
set_option maxHeartbeats 4000000
namespace K11
open PySem PySem.Spec PyProof.Rows L2 Vb Wd Xd Xo Xv SX Pc Zc Oi RZ Zt Zk Of Og Oh Ot Zm Sn
abbrev s_l_spot : Stmt := topS 55
abbrev nSp : List Str := ["_law_plain", "_law_tree", "_law_sort", "_law_children", "_law_ranks", "_law_child", "_law_below", "_law_spot_here"]
theorem sc_l_spot : FnScope nSp ["_law_plain", "_law_tree"] (defScope s_l_spot) := ⟨rfl, rfl, rfl, by decide +kernel, rfl, by decide +kernel, by decide +kernel⟩
/-- the spot of a tree -/
def spSpotL (n : Nat) : Sp := fun vs H Q _ => ∃ (a tl tb : Addr) (b : Str) (ts : List Str) (ps : List (FD × Addr)) (v : V) (t : Pic), vs = [.ref a, v] ∧ HeldR H a tl tb b ts ps ∧ Dt H v (trD t) ∧ fits (ps.map (·.1)) t = true ∧ t.lev < n ∧
  ∀ r H', Same H H' → Dt H' r (spO (spotT b (ps.map (·.1)) t)) → Q r H'
theorem fits_node {ds : List FD} {n : List Nat} {ps : List Pic} (h : fits ds (.node n ps) = true) : ∃ d, formOf ds n = some d ∧ d.2.2.length = ps.length ∧ ∀ p ∈ ps, fits ds p = true := by
  have h : (formed ds (.node n ps) && fitsL ds ps) = true := h
  rw [Bool.and_eq_true, fitsL_all, List.all_eq_true] at h
  obtain ⟨d, e, l⟩ := formed_form h.1
  exact ⟨d, e, l, h.2⟩
theorem one_iff {ns ms : List Int} (pw : ms.Pairwise (· < ·)) (mem : ∀ k : Int, k ∈ ms ↔ k ∈ ns) (ne : ns ≠ []) : decide (ms.length = 1) = sameL ns := by
  cases ns with
  | nil => exact (ne rfl).elim
  | cons x xs =>
    show _ = xs.all fun y => decide (y = x)
    refine Bool.eq_iff_iff.mpr ⟨fun h => List.all_eq_true.mpr fun y hy => decide_eq_true ?_, fun h => decide_eq_true ?_⟩
    · match ms, of_decide_eq_true h, mem with
      | [m], _, mem =>
        have h1 := (mem y).mpr (List.mem_cons_of_mem _ hy)
        have h2 := (mem x).mpr (List.mem_cons_self ..)
        rw [List.mem_singleton] at h1 h2
        rw [h1, h2]
    · have all : ∀ y ∈ ms, y = x := fun y hy => by
        rcases List.mem_cons.mp ((mem y).mp hy) with r | r
        · exact r
        · exact of_decide_eq_true (List.all_eq_true.mp h y r)
      match ms, pw, mem, all with
      | [], _, mem, _ =>
        have := (mem x).mpr (List.mem_cons_self ..)
        cases this
      | [m], _, _, _ => rfl
      | m1 :: m2 :: ms, pw, _, all =>
        have h1 := all m1 (List.mem_cons_self ..)
        have h2 := all m2 (List.mem_cons_of_mem _ (List.mem_cons_self ..))
        have := (List.pairwise_cons.mp pw).1 m2 (List.mem_cons_self ..)
        omega
theorem spotTL_at {b : Str} {ds : List FD} {ts : List Pic} {i : Nat} {t : Pic} (h : ts[i]? = some t) : (spotTL b ds ts)[i]? = some (spotT b ds t) := by
  rw [spotTL_map, List.getElem?_map, h]
  rfl
theorem spotTL_len {b : Str} {ds : List FD} {ts : List Pic} : (spotTL b ds ts).length = ts.length := by rw [spotTL_map, List.length_map]
section
variable {P : Program} {w : World} {K : PySem.W.Frag} {mg : Str → Option Value} {base : Heap}
theorem ok_l_spot (D : Df K mg "_law_spot" s_l_spot ["_law_plain", "_law_tree"]) (z_len : mg "len" = none) (z_zip : mg "zip" = none) (z_set : mg "set" = none) (z_sorted : mg "sorted" = none) : ∀ n, Cg P w K mg base (1 + n) "_law_spot" (spSpotL n)
  | 0 => by
    obtain ⟨f, fd, F, m, b⟩ := D
    exact ⟨f, fd, _, ⟨fun vs H Q E h => by obtain ⟨_, _, _, _, _, _, _, p, _, _, _, _, l, _⟩ := h; omega, fun A outer s H args us vs Q E hc hr e0 hb r h => by obtain ⟨_, _, _, _, _, _, _, p, _, _, _, _, l, _⟩ := h; omega⟩, m, F.kp, b⟩
  | n + 1 => by
    have IH := ok_l_spot D z_len z_zip z_set z_sorted n
    refine D.ok (k := 1 + n) sc_l_spot (fun vs H Q E h => ?_) (fun cdv A outer s H vs Q E f0 hc hr h => ?_)
    · obtain ⟨a, tl, tb, b, ts, ps, v, p, rfl, _⟩ := h
      rfl
    · obtain ⟨a, tl, tb, b, ts, fs, v, p, rfl, X, PD, fit, ln, q⟩ := h
      have hr1 := hr.mono (show 1 ≤ 1 + n by omega)
      refine ⟨_, (pss_cons (ps_if (pt_cmpR op_isN (pv 1) pe_non (nomark _))
      (pss_one (ps_ret (pe_tup (pa_cons (pe_ix (ix_list : IxR _ (rIxL K)) (pv 0) pe_int (fun _ _ => rfl)) (pa_cons pe_int pa_nil)))))
      pss_nil)
      (pss_cons (ps_asg (pe_dget (hu_of hr1) (pe_ix (ix_list : IxR _ (rIxL K)) (pv 0) pe_int (fun _ _ => rfl)) (pe_ix (ix_tup : IxR _ (rIxT K)) (pv 1) pe_int (fun _ _ => rfl)) (fun _ _ => rfl)) (pg_tup (by rfl) (pgs_cons (pg_name (i := 2) sc_l_spot.nd rfl (Or.inl rfl)) (pgs_cons (pg_name (i := 3) sc_l_spot.nd rfl (Or.inl rfl)) pgs_nil))))
      (pss_cons (ps_set (i := 4) sc_l_spot.nd rfl (Or.inl rfl) (pe_lst pa_nil))
      (pss_cons (ps_for PassesOwn.never rfl (pi_zipA (by rfl) z_zip (pa_cons (pv 3) (pa_cons (pe_ix (ix_tup : IxR _ (rIxT K)) (pv 1) pe_int (fun _ _ => rfl)) pa_nil))) (pg_tup (by rfl) (pgs_cons (pg_name (i := 5) sc_l_spot.nd rfl (Or.inl rfl)) (pgs_cons (pg_name (i := 6) sc_l_spot.nd rfl (Or.inl rfl)) pgs_nil)))
      (pss_cons (ps_set (i := 7) sc_l_spot.nd rfl (Or.inl rfl) (pe_cg IH hc hr (by rfl) (pa_cons (pv 0) (pa_cons (pv 6) pa_nil)) (Nat.le_refl _)))
      (pss_cons (ps_if (PW.pt (pw_or (pt_cmpR op_isN (pv 7) pe_non (nomark _)) (pw_or1 (pt_cmpR op_ne (pe_ix (ix_tup : IxR _ (rIxT K)) (pv 7) pe_int (fun _ _ => rfl)) (pe_ix (ix_tup : IxR _ (rIxT K)) (pv 5) pe_int (fun _ _ => rfl)) (nomark _)))))
      (pss_one (ps_ret pe_non))
      pss_nil)
      (pss_one (ps_expr (pe_bm PySem.F.plainAttrs_list PySem.F.slot_list_append PySem.F.type_list_append mt_append (pv 4) (pa_cons (pe_op op_add (pe_ix (ix_tup : IxR _ (rIxT K)) (pv 7) pe_int (fun _ _ => rfl)) (pe_ix (ix_tup : IxR _ (rIxT K)) (pv 5) pe_int (fun _ _ => rfl))) pa_nil)))))))
      (pss_one (ps_ret (pe_ifExp (pt_cmpR op_eq (pe_callB call_len_seq (by rfl) z_len PySem.boot_len (pa_cons (pe_callB (cr_sortedSet rfl) (by rfl) z_sorted (by decide +kernel) (pa_cons (pe_callTy (cr_setInts rfl) (by rfl) z_set (by decide +kernel) (pa_cons (pv 4) pa_nil)) pa_nil)) pa_nil)) pe_int (nomark _)) (pe_tup (pa_cons (pv 2) (pa_cons (pe_ix (ix_list : IxR _ (rIxL K)) (pv 4) pe_int (fun _ _ => rfl)) pa_nil))) pe_non))))))), ?_⟩
      cases p with
      | hole =>
        have := tr_hole PD
        subst this
        refine ⟨_, rfl, rfl, true, rfl, iteT ⟨_, rfl, a, _, 0, _, rfl, rfl, .inl (.inl X.at_), rfl, by show 2 ≤ sizeLine; decide, fun r nr => ?_⟩⟩
        exact q _ _ (same_new nr) (spP_mk (s := (b, 0)) upd_same)
      | node n' ps =>
        obtain ⟨v', l, xs, rfl, hv, hl, xl, items⟩ := tr_node PD
        obtain ⟨d, ef, dl, fitp⟩ := fits_node fit
        obtain ⟨r, ch, ks, dg2, hr2, kk⟩ := plain_get X ef
        have kl := kk.len
        have k4 := kk.hi
        have k2l := kk.lo
        have big : ∀ {n : Nat}, n ≤ 600 → n < sizeLine := fun h => Nat.lt_of_le_of_lt h (by decide)
        refine ⟨_, rfl, rfl, false, rfl, iteF ⟨_, rfl, a, _, 2, _, rfl, rfl, .inl (.inl X.at_), rfl, _, rfl, v', _, 0, _, rfl, rfl, .inl (.inl hv), rfl, tb, .ref r, rfl, dg2, r, _, rfl, .inl (.inl hr2), rfl, .str d.2.1, _, rfl, .ref ch, _, rfl, rfl, by show 0 ≤ sizeLine; decide, fun L nL => ?_⟩⟩
        have sl := same_new (o := .lst []) nL
        have eL : (upd H L (.lst [])) L = some (.lst []) := upd_same
        generalize upd H L (.lst []) = H1 at sl eL ⊢
        refine ⟨_, rfl, _, rfl, v', _, 1, _, rfl, rfl, .inl (.inl (sl _ _ hv)), rfl, ch, l, ks.map V.ref, xs, rfl, .inr ⟨.inl (.inl (sl _ _ kk.at_)), .inl (.inl (sl _ _ hl)), ?_⟩⟩
        have bad : ∀ {i : Nat} {pp : Pic} {c : Str × Int}, ps[i]? = some pp → d.2.2[i]? = some c → (∀ s : SpT, spotT b (fs.map (·.1)) pp = some s → s.1 ≠ c.1) → spotT b (fs.map (·.1)) (.node n' ps) = none := fun {i pp c} hp hc hb => by
          rw [spotT_node ef, okRes_none hc fun s hs => hb s (by rw [spotTL_at hp] at hs; simpa using hs)]
          rfl
        refine for_zipT (K := K) (a := ch) (b := l) (xs := ks.map V.ref) (ys := xs) (by rw [List.length_map]; omega) (fun i σ H' => (∃ o5 o6 o7 : Option V, σ = [some (.ref a), some (.ref v'), some (.str d.2.1), some (.ref ch), some (.ref L), o5, o6, o7]) ∧ (∀ b o, b ≠ L → H1 b = some o → H' b = some o) ∧ ∃ ns : List Int, H' L = some (.lst (ns.map V.int)) ∧ ns.length = i ∧ okRes (d.2.2.take i) ((spotTL b (fs.map (·.1)) ps).take i) = some ns)
          ⟨⟨none, none, none, rfl⟩, fun _ _ _ e => e, [], eL, rfl, rfl⟩ (fun i σ H' h => ?_) (fun i y1 y2 T σ H2 hy1 hy2 h nT => ?_) (fun σ H2 h => ?_)
        · have s2 : Same H H' := fun b o hb => h.2.1 _ _ (ne_of_none hb nL) (sl _ _ hb)
          exact ⟨.inl (.inl (s2 _ _ kk.at_)), .inl (.inl (s2 _ _ hl))⟩
        · obtain ⟨⟨o5, o6, o7, rfl⟩, k2, ns, e2, nsl, okn⟩ := h
          have s2 : Same H H2 := fun b o hb => k2 _ _ (ne_of_none hb nL) (sl _ _ hb)
          rw [List.getElem?_map] at hy1
          obtain ⟨t1, ht1, rfl⟩ := Option.map_eq_some_iff.mp hy1
          obtain ⟨⟨c1, c2⟩, hc', kt⟩ := kk.get ht1
          have il : i < ps.length := by
            have := (List.getElem?_eq_some_iff.mp hy2).1
            omega
          have hp : ps[i]? = some ps[i] := List.getElem?_eq_getElem il
          have pm : ps[i] ∈ (Pic.node n' ps).parts := List.getElem_mem il
          have lp := lev_part pm
          have fp := fitp _ pm
          have kd := items i y2 _ hy2 hp
          have hat := spotTL_at (b := b) (ds := fs.map (·.1)) hp
          generalize ps[i] = pp at hp lp fp kd hat
          have sT := same_new (o := .tup [.ref t1, y2]) nT
          have s3 := s2.trans sT
          have e3 := sT _ _ e2
          have k3 : ∀ b o, b ≠ L → H1 b = some o → (upd H2 T (.tup [.ref t1, y2])) b = some o := fun b o n hb => sT _ _ (k2 _ _ n hb)
          have eT : (upd H2 T (.tup [.ref t1, y2])) T = some (.tup [.ref t1, y2]) := upd_same
          generalize upd H2 T (.tup [.ref t1, y2]) = H3 at s3 e3 eT k3 ⊢
          have kd3 := Dt.same s3 _ _ kd
          have X3 := X.same s3
          refine ⟨T, _, rfl, .inl (.inl eT), rfl, .ref t1, _, rfl, y2, _, rfl, rfl, _, rfl, _, rfl, a, tl, tb, b, ts, fs, y2, pp, rfl, X3, kd3, fp, by omega, fun rv H5 s5 hv5 => ?_⟩
          have s05 := s3.trans s5
          have e5 := s5 _ _ e3
          have et5 := s05 _ _ kt.at_
          cases eh : spotT b (fs.map (·.1)) pp with
          | none =>
            rw [eh] at hv5
            cases hv5
            rw [bad hp hc' fun s z => by rw [eh] at z; cases z] at q
            exact ⟨_, rfl, rfl, true, rfl, iteT (iteT (q _ _ s05 .non))⟩
          | some s0 =>
            rw [eh] at hv5
            obtain ⟨t', rfl, e'⟩ := spP_inv hv5
            obtain ⟨z', i'⟩ := s0
            refine ⟨_, rfl, rfl, false, rfl, iteF ⟨_, rfl, t', _, 0, _, rfl, rfl, .inl (.inl e'), rfl, _, rfl, t1, _, 0, _, rfl, rfl, .inl (.inl et5), rfl, rfl, _, rfl, ?_⟩⟩
            by_cases ec : z' = c1
            · rw [decide_eq_true (show V.str z' = V.str c1 by rw [ec])]
              refine iteF ⟨.ref L, rfl, .inl ⟨rfl, _, .inl (.inl e5)⟩, _, rfl, t', _, 1, _, rfl, rfl, .inl (.inl e'), rfl, _, rfl, t1, _, 1, _, rfl, rfl, .inl (.inl et5), rfl, _, _, rfl, rfl, L, _, _, rfl, rfl, e5, by rw [List.length_map]; exact big (by omega), ⟨_, _, _, rfl⟩, fun b o n hb => ?_, ns ++ [i' + c2], ?_, by rw [List.length_append, nsl]; rfl, ?_⟩
              · rw [upd_ne n]
                exact s5 _ _ (k3 _ _ n hb)
              · rw [upd_same, List.map_append]
                rfl
              · rw [List.take_add_one, List.take_add_one, hc', hat, eh]
                exact okRes_snoc (c := (c1, c2)) okn (s := (z', i')) rfl ec
            · rw [decide_eq_false (show ¬ V.str z' = V.str c1 from fun z => ec (V.str.inj z))]
              rw [bad hp hc' fun s z => by rw [eh] at z; cases z; exact ec] at q
              exact iteT (q _ _ s05 .non)
        · obtain ⟨⟨o5, o6, o7, rfl⟩, k2, ns, e2, nsl, okn⟩ := h
          have s2 : Same H H2 := fun b o hb => k2 _ _ (ne_of_none hb nL) (sl _ _ hb)
          rw [List.length_map] at nsl okn
          rw [List.take_of_length_le (show (spotTL b (fs.map (·.1)) ps).length ≤ ks.length by rw [spotTL_len]; omega), List.take_of_length_le (show d.2.2.length ≤ ks.length by omega)] at okn
          rw [spotT_node ef, okn] at q
          have q' : ∀ r H', Same H H' → Dt H' r (spO (if sameL ns = true then some (d.2.1, ns.headD 0) else none)) → Q r H' := q
          refine ⟨_, rfl, L, ns, rfl, .inl (.inl e2), by omega, fun st c nst cle => ⟨st, among ns ns.length, c, rfl, upd_same, by omega, fun ms pl pw mem ml npl => ?_⟩⟩
          have mem' : ∀ k : Int, k ∈ ms ↔ k ∈ ns := fun k => by
            rw [mem k]
            unfold among
            rw [List.take_length, decide_eq_true_eq]
          have s3 := same_new (o := SetO w st (among ns ns.length) c) nst
          have s4 := same_new (o := .lst (ms.map V.int)) npl
          refine ⟨pl, _, rfl, .inl (.inl (.inl upd_same)), rfl, _, rfl, ?_⟩
          have e1 : (V.int ((ms.map V.int).length : Nat) = V.int 1) ↔ ms.length = 1 := by
            rw [List.length_map]
            exact ⟨fun z => by have := V.int.inj z; omega, fun z => by rw [z]; rfl⟩
          rw [decide_eq_decide.mpr e1, one_iff pw mem' (fun z => by rw [z] at nsl; simp at nsl; omega)]
          have sAll := (s2.trans s3).trans s4
          have eL4 := s4 _ _ (s3 _ _ e2)
          cases esm : sameL ns with
          | false =>
            rw [esm] at q'
            exact iteF (q' _ _ sAll .non)
          | true =>
            rw [esm] at q'
            match ns, nsl, eL4, q' with
            | [], nsl, _, _ => simp at nsl; omega
            | n0 :: nr, _, eL4, q' =>
              refine iteT ⟨_, rfl, _, rfl, L, _, 0, .int n0, rfl, rfl, .inl (.inl eL4), atI_nat (j := 0) rfl, by show 2 ≤ sizeLine; decide, fun t nt => ?_⟩
              have st' := same_new (o := .tup [.str d.2.1, .int n0]) nt
              exact q' _ _ (sAll.trans st') (spP_mk (s := (d.2.1, n0)) upd_same)
end
end K11
set_option Elab.async false
set_option linter.all false
set_option autoImplicit false
set_option maxRecDepth 100000
set_option maxHeartbeats 4000000
/-! Zs: sorted of a list of pairs of a text and a number. -/
namespace Zs
open PySem PySem.W PySem.Spec PyProof.Rows L2 Vb
end Zs
set_option Elab.async false
set_option linter.all false
set_option autoImplicit false
set_option maxRecDepth 100000
set_option maxHeartbeats 4000000
/-! Rl: how long data are when they are written out. -/
namespace Rl
open PySem PySem.Spec PyProof.Rows L2 Vb Wd
def lens (l : List Str) : Nat := (l.map (·.length)).sum
theorem join_len (y : Str) : ∀ l : List Str, (Str.join y l).length ≤ lens l + l.length * y.length
  | [] => Nat.zero_le _
  | [x] => by
    show x.length ≤ _
    simp [lens]
  | x :: z :: r => by
    have h := join_len y (z :: r)
    show (x ++ y ++ Str.join y (z :: r)).length ≤ _
    rw [PySem.Str.length_append, PySem.Str.length_append]
    simp only [lens, List.map_cons, List.sum_cons, List.length_cons] at h ⊢
    have e : (r.length + 1 + 1) * y.length = (r.length + 1) * y.length + y.length := Nat.succ_mul _ _
    omega
/-- data that may be written out: how deep, how long -/
structure Shw (n m : Nat) (d : PyData) : Prop where
  sh : d.showable = true
  nd : d.hasDict = false
  dp : d.depth ≤ n
  ln : d.shown.length ≤ m
theorem Shw.le {n m n' m' : Nat} {d : PyData} (h : Shw n m d) (a : n ≤ n') (b : m ≤ m') : Shw n' m' d := ⟨h.sh, h.nd, Nat.le_trans h.dp a, Nat.le_trans h.ln b⟩
end Rl
set_option Elab.async false
set_option linter.all false
set_option autoImplicit false
set_option maxRecDepth 100000
set_option maxHeartbeats 4000000
/-! Rd: repr of any data, in calm room. -/
namespace Rd
open PySem PySem.Spec PyProof.Rows L2 Vb
def rReprD (K : PySem.W.Frag) : List V → Hp → VK → Prop := fun xs H Q => ∃ (v : V) (d : PyData), xs = [v] ∧ Dp K H v d ∧ d.showable = true ∧ d.hasDict = false ∧ d.depth < 64 ∧ d.shown.length ≤ sizeLine ∧ Q (.str d.shown) H
theorem cr_reprD {X : Cx} (hc : Calm X.A) (hu : X.A.units + 64 < cLine) : CallR X (.builtin "repr") (rReprD X.K) := by
  intro pins s σ H xs us Q I r h
  obtain ⟨v, d, rfl, hd, hs, hn, hz, hl, q⟩ := h
  obtain ⟨u, rfl, r1⟩ := vals1 r
  have same : ∀ {t : Tok}, Inv X pins σ H { s with toks := t } := fun {t} => I.kept (h' := s.heap) (t' := t) fun _ _ e => e
  cases hd with
  | non =>
    cases (show u = Value.none from r1)
    exact PySem.P.repr_of_none ⟨.str _, H, same, ⟨_, rfl⟩, q⟩
  | bl b =>
    cases (show u = Value.bool b from r1)
    exact PySem.P.repr_of_bool ⟨.str _, H, same, ⟨_, rfl⟩, q⟩
  | int i =>
    obtain ⟨t, rfl⟩ := r1
    exact PySem.P.repr_of_int (of_decide_eq_true hs) ⟨.str _, H, same, ⟨_, rfl⟩, q⟩
  | str x =>
    obtain ⟨t, rfl⟩ := r1
    exact PySem.P.repr_of_str ⟨.str _, H, same, ⟨_, rfl⟩, q⟩ (hsz := hl)
  | lst a b => exact call_repr_data hc hu pins s σ H _ _ Q I (.cons r1 .nil) ⟨_, _, rfl, .lst a b, hs, hn, hz, hl, q⟩
  | tup a b => exact call_repr_data hc hu pins s σ H _ _ Q I (.cons r1 .nil) ⟨_, _, rfl, .tup a b, hs, hn, hz, hl, q⟩
end Rd
set_option Elab.async false
set_option linter.all false
set_option autoImplicit false
set_option maxRecDepth 100000
set_option maxHeartbeats 4000000
/-! Ed: == and != of lists that hold flat values, lists of these, and dicts; != of an object of an own class with a value of another kind. -/
namespace Ed
open PySem PySem.Spec PyProof.Rows L2 Vb Xv Oq Oi
/-! ### o != v, v of any known kind -/
end Ed
set_option Elab.async false
set_option linter.all false
set_option autoImplicit false
set_option maxRecDepth 100000
set_option maxHeartbeats 4000000
namespace K11
open PySem PySem.Spec PyProof.Rows L2 Vb Wd Xd Xo Xi Xm Xr Xv Ts K01 Oq Oi Zt Zk Zs Rl Rd Ed
theorem nam_asc {z : Str} (h : isNam (.str z) = true) : Asc z := fun c hc => by
  have h3 := (nam_len h).2.2
  have := List.all_eq_true.mp h3 c hc
  unfold low at this
  rw [Bool.and_eq_true, decide_eq_true_eq, decide_eq_true_eq] at this
  omega
theorem same_none {H H' : Hp} {p : Addr} (s : Same H H') (n : H' p = none) : H p = none := by
  cases e : H p with
  | none => rfl
  | some o =>
    rw [s _ _ e] at n
    cases n
/-! ### the words of a scheme, in order -/
theorem Held.plain {H : Hp} {a tl tb : Addr} {b : Str} {ts : List Str} {ps : List (FD × Addr)} (X : Held H a tl tb b ts ps) (O : SchOk b ts (ps.map (·.1))) : PlainAt H a tl tb b ts (ps.map (·.1)) (kvsP ps) := by
  have psn : (ps.map (·.1)).map (·.1) = ps.map (·.1.1) := by rw [List.map_map]; rfl
  obtain ⟨bm, ⟨d1, d24⟩, d8, once, kinds⟩ := O.parts
  have nd : (ps.map (·.1.1)).Nodup := by rw [← psn]; exact once
  obtain ⟨fy, ly, ny⟩ := O.tops
  refine ⟨X.at_, X.tops, X.dict, ?_, fun r hr => ?_, by omega, O.nams, (fy b bm).1, ⟨ly, fun y hy => (fy y hy).1⟩, ?_⟩
  · rw [kvsP_keys, List.map_map, List.map_map]
    rfl
  · obtain ⟨p, hp, rfl⟩ := List.mem_map.mp hr
    obtain ⟨ch, ks, e, k⟩ := X.row p hp
    exact ⟨p.2, ch, ks, kvsP_val nd hp, e, k⟩
  · rw [TL.join_eq]
    have h1 := join_len " " ts
    have h2 := words_sum ts 1000 fun y hy => (fy y hy).1
    have l1 : (" " : Str).length = 1 := by decide +kernel
    rw [l1] at h1
    unfold lens at h1
    omega
/-! ### what stays while dice roll -/
def Keep (H H' : Hp) : Prop := ∀ b o, (∀ g s c, o ≠ dz g s c) → (∀ ps, o ≠ .tbl ps) → H b = some o → H' b = some o
theorem Keep.same {H H' : Hp} (s : Same H H') : Keep H H' := fun b o _ _ h => s b o h
theorem Keep.past {d : Addr} {H H' : Hp} (hd : Dice H d) (p : Past d H H') : Keep H H' := fun b o n _ h => p.1 _ _ (ne_dice hd h n) h
theorem Keep.trans {H H1 H2 : Hp} (a : Keep H H1) (b : Keep H1 H2) : Keep H H2 := fun x o n t h => b x o n t (a x o n t h)
theorem Keep.refl (H : Hp) : Keep H H := fun _ _ _ _ h => h
theorem Keep.tup {H H' : Hp} (k : Keep H H') {b : Addr} {xs : List V} (h : H b = some (.tup xs)) : H' b = some (.tup xs) := k _ _ (fun _ _ _ z => nomatch z) (fun _ z => nomatch z) h
theorem Keep.ins {H H' : Hp} (k : Keep H H') {b C dx : Addr} {fs : List (Str × V)} (h : H b = some (.ins C dx fs)) : H' b = some (.ins C dx fs) := k _ _ (fun _ _ _ z => nomatch z) (fun _ z => nomatch z) h
theorem Keep.dk {H H' : Hp} (k : Keep H H') {b : Addr} {kvs : List (L2.Key × V)} (h : H b = some (.dK kvs)) : H' b = some (.dK kvs) := k _ _ (fun _ _ _ z => nomatch z) (fun _ z => nomatch z) h
theorem Keep.strs {H H' : Hp} (k : Keep H H') {b : Addr} {ys : List Str} (h : H b = some (.lst (ys.map V.str))) : H' b = some (.lst (ys.map V.str)) := k _ _ (fun g s c z => by
  cases ys with
  | nil => cases z
  | cons y r => cases z) (fun _ z => nomatch z) h
theorem Keep.tups {H H' : Hp} (k : Keep H H') : Tups H H' := fun b xs h => k.tup h
theorem Kids.keep {H H' : Hp} {c : Addr} {ts : List Addr} {cs : List (Str × Int)} (b : Keep H H') (k : Kids H c ts cs) : Kids H' c ts cs := k.tups b.tups
theorem FormAt.keep {H H' : Hp} {C a ch : Addr} {n so : Str} {ts : List Addr} {cs : List (Str × Int)} (s : Keep H H') (f : FormAt H C a ch n so ts cs) : FormAt H' C a ch n so ts cs := by
  obtain ⟨⟨dx, e⟩, k⟩ := f
  exact ⟨⟨dx, s.ins e⟩, k.keep s⟩
theorem SchemeAt.keep {H H' : Hp} {C CS a : Addr} {b : Str} {ys : List Str} {ds : List FD} (s : Keep H H') (S : SchemeAt H C CS a b ys ds) : SchemeAt H' C CS a b ys ds := by
  obtain ⟨⟨dx, t, bn, nm, f, so, kvs, fs, zs, ha, ht, hn, hf, FF, hb, hv, hs, mz, srt, nd⟩, q2, q3, q4, q5, q6, q7⟩ := S
  exact ⟨⟨dx, t, bn, nm, f, so, kvs, fs, zs, s.ins ha, s.tup ht, s.tup hn, s.tup hf, ⟨FF.len, fun i x d h1 h2 => by
    obtain ⟨ch, ts, FA⟩ := FF.at_ i x d h1 h2
    exact ⟨ch, ts, FA.keep s⟩⟩, s.dk hb, hv, s.tup hs, mz, srt, nd⟩, q2, q3, q4, q5, q6, q7⟩
theorem Held.keep {H H' : Hp} {a tl tb : Addr} {b : Str} {ts : List Str} {ps : List (FD × Addr)} (s : Keep H H') (X : Held H a tl tb b ts ps) : Held H' a tl tb b ts ps :=
  ⟨s _ _ (fun _ _ _ z => by cases z) (fun _ z => nomatch z) X.at_, s.strs X.tops, s.dk X.dict, fun p hp => by
    obtain ⟨ch, ks, e, k⟩ := X.row p hp
    exact ⟨ch, ks, s.tup e, k.keep s⟩⟩
/-- a form made anew -/
theorem made_form {K : PySem.W.Frag} {C x dx : Addr} {H1 : Hp} {R : VK} {E : XK} {n so : Str} {ch : Addr} {ks : List Addr} {cs : List (Str × Int)} (hn : isNam (.str n) = true) (hso : isNam (.str so) = true) (k : Kids H1 ch ks cs) (nx : H1 x = none) (ndx : H1 dx = none) (ne : dx ≠ x) (h : ∀ H', Same H1 H' → FormAt H' C x ch n so ks cs → R .non H') :
    spInit K C [.ref x, .str n, .str so, .ref ch] (upd (upd H1 dx (.own x)) x (.ins C dx [])) R E := by
  have c1 := (nam_len hn).2.1
  have c2 := (nam_len hso).2.1
  have s2 := (same_new (o := .own x) ndx).trans (same_new (o := .ins C dx []) (by rw [upd_ne ne.symm]; exact nx))
  refine ⟨x, dx, ch, n, so, ks, cs, rfl, upd_same, ⟨hn, by omega, nam_asc hn⟩, ⟨hso, by omega, nam_asc hso⟩, k.same s2, fun H' s' => ?_⟩
  generalize eH3 : upd H' x (.ins C dx (flds n so ch)) = H3
  have x3 : H3 x = some (.ins C dx (flds n so ch)) := by rw [← eH3]; exact upd_same
  have s13 : Same H1 H3 := fun b' o' h' => by
    have bx : b' ≠ x := ne_of_none h' nx
    rw [← eH3, upd_ne bx]
    exact s' _ _ (s2 _ _ h')
  exact h H3 s13 ⟨⟨dx, x3⟩, k.same s13⟩
theorem SchOk.of {b : Str} {ts : List Str} {rows : List FD} (bm : b ∈ ts) (d1 : 1 ≤ rows.length) (d24 : rows.length ≤ 24) (d8 : (dd (ts ++ said rows)).length ≤ 8) (once : (rows.map (·.1)).Nodup) (kinds : (rows.map (·.2)).Nodup) (nams : ∀ r ∈ rows, isNam (.str r.1) = true ∧ isNam (.str r.2.1) = true)
    (tops : (∀ y ∈ ts, Fine y) ∧ ts.length ≤ 60 ∧ (ts.all nam && asc ts) = true) : SchOk b ts rows := by
  refine ⟨?_, nams, tops⟩
  rw [schB_some, inV_mem bm, decide_eq_true d1, decide_eq_true d24, decide_eq_true d8, decide_eq_true once, decide_eq_true kinds]
  rfl
theorem SchOk.bare {b b' : Str} {ts : List Str} {rows : List FD} (S : SchOk b ts rows) (h : b' ∈ ts) : SchOk b' ts rows := by
  obtain ⟨_, ⟨d1, d24⟩, d8, once, kinds⟩ := S.parts
  exact SchOk.of h d1 d24 d8 once kinds S.nams S.tops
theorem Held.kids {H : Hp} {a tl tb : Addr} {b : Str} {ts : List Str} {ps : List (FD × Addr)} (X : Held H a tl tb b ts ps) : ∀ r ∈ ps.map (·.1), ∀ c ∈ r.2.2, isNam (.str c.1) = true := fun r hr c hc => by
  obtain ⟨p, hp, rfl⟩ := List.mem_map.mp hr
  obtain ⟨ch, ks, _, k⟩ := X.row p hp
  obtain ⟨j, hj⟩ := List.mem_iff_getElem?.mp hc
  have jl := (List.getElem?_eq_some_iff.mp hj).1
  have kl := k.len
  exact (k.kid j ks[j] c (List.getElem?_eq_getElem (by omega)) hj).nam
theorem dd_len_le {l m : List Str} (h : ∀ k ∈ l, k ∈ m) : (dd l).length ≤ (dd m).length := nodup_len _ _ (nodup_dd l) fun k hk => (mem_dd m k).mpr (h k ((mem_dd l k).mp hk))
theorem SchOk.perm {b : Str} {ts : List Str} {rows rows' : List FD} (S : SchOk b ts rows) (p : rows'.Perm rows) : SchOk b ts rows' := by
  obtain ⟨bm, ⟨d1, d24⟩, d8, once, kinds⟩ := S.parts
  have l := p.length_eq
  refine SchOk.of bm (by omega) (by omega) (Nat.le_trans (dd_len_le fun k hk => ?_) d8) ((p.map _).nodup_iff.mpr once) ((p.map _).nodup_iff.mpr kinds) (fun r hr => S.nams r (p.mem_iff.mp hr)) S.tops
  rcases List.mem_append.mp hk with h | h
  · exact List.mem_append_left _ h
  · exact List.mem_append_right _ ((said_perm p k).mp h)
end K11
set_option Elab.async false
set_option linter.all false
set_option autoImplicit false
set_option maxRecDepth 100000
set_option maxHeartbeats 4000000
/-! Fh: what of a heap is newer than another; data that is all new. -/
namespace Fh
open PySem PySem.Spec PyProof.Rows L2 Vb Zt Of
/-- what stands in H and did not stand in B -/
def Fr (B H : Hp) : Hp := fun x => match B x with
  | none => H x
  | some _ => none
/-- all that stands in B stands, as it may be, in H -/
def Dom (B H : Hp) : Prop := ∀ x, H x = none → B x = none
theorem Fr.new {B H : Hp} {x : Addr} (h : B x = none) : Fr B H x = H x := by
  unfold Fr
  rw [h]
theorem Fr.old {B H : Hp} {x : Addr} {o : HO} (h : B x = some o) : Fr B H x = none := by
  unfold Fr
  rw [h]
theorem Fr.same {B H : Hp} : Same (Fr B H) H := fun x o h => by
  cases e : B x with
  | none => rw [Fr.new e] at h; exact h
  | some o' => rw [Fr.old e] at h; cases h
theorem Fr.mono {B B' H H' : Hp} (hB : Dom B B') (hH : ∀ x o, B' x = none → H x = some o → H' x = some o) : Same (Fr B' H) (Fr B H') := fun x o h => by
  cases e : B' x with
  | none =>
    rw [Fr.new e] at h
    rw [Fr.new (hB x e)]
    exact hH x o e h
  | some o' => rw [Fr.old e] at h; cases h
theorem Fr.put {B H : Hp} {a : Addr} {o o' : HO} (h : B a = some o') : Fr B (upd H a o) = Fr B H := funext fun x => by
  cases e : B x with
  | none => rw [Fr.new e, Fr.new e, upd_ne fun z => by rw [z, h] at e; cases e]
  | some o'' => rw [Fr.old e, Fr.old e]
theorem Dom.refl (H : Hp) : Dom H H := fun _ h => h
theorem Dom.trans {A B C : Hp} (a : Dom A B) (b : Dom B C) : Dom A C := fun x h => a x (b x h)
theorem Dom.same {B H : Hp} (s : Same B H) : Dom B H := fun x h => by
  cases e : B x with
  | none => rfl
  | some o => rw [s x o e] at h; cases h
theorem Dom.past {d : Addr} {B H : Hp} (p : Past d B H) : Dom B H := fun x h => by
  cases e : B x with
  | none => rfl
  | some o =>
    by_cases z : x = d
    · subst z
      obtain ⟨g, s, c, q⟩ := p.2
      rw [q] at h
      cases h
    · rw [p.1 x o z e] at h
      cases h
theorem Dom.put {B : Hp} {a : Addr} {o : HO} : Dom B (upd B a o) := fun x h => by
  by_cases z : x = a
  · subst z
    rw [upd_same] at h
    cases h
  · rw [upd_ne z] at h
    exact h
/-- what is new stays when the dice, which are older, are thrown -/
theorem Fr.past {d : Addr} {B H H' : Hp} {o : HO} (hd : B d = some o) (p : Past d H H') : Same (Fr B H) (Fr B H') := Fr.mono (Dom.refl B) fun x o' h e => p.1 x o' (fun z => by rw [z, hd] at h; cases h) e
end Fh
set_option Elab.async false
set_option linter.all false
set_option autoImplicit false
set_option maxRecDepth 100000
set_option maxHeartbeats 4000000
namespace K11
open PySem PySem.Spec PyProof.Rows L2 Vb Wd Xd Xo Xv SX Pc Zc Oi RZ Zt Zk Of Og Oh Ot Zm Fh
/-! ### values of which a property is known -/
def Yp (p : Hp → V → Prop) (t : TE) (σ : L2.St) (H : Hp) : Prop := ∀ H1 Q, Same H H1 → (∀ v H', Same H1 H' → p H' v → Q v H') → t σ H1 Q
def YpA (p : Hp → V → Prop) (n : Nat) (t : TA) (σ : L2.St) (H : Hp) : Prop := ∀ H1 Q, Same H H1 → (∀ vs H', Same H1 H' → vs.length = n → (∀ v ∈ vs, p H' v) → Q vs H') → t σ H1 Q
section
variable {p : Hp → V → Prop} {σ : L2.St} {H : Hp}
theorem yp_nil : YpA p 0 tNil σ H := fun H1 Q s k => k [] H1 (Same.refl _) rfl fun _ h => nomatch h
theorem yp_cons {t : TE} {ts : TA} {n : Nat} (st : ∀ {H H' : Hp} {v : V}, Keep H H' → p H v → p H' v) (a : Yp p t σ H) (b : YpA p n ts σ H) : YpA p (n + 1) (tCons t ts) σ H := fun H1 Q s k =>
  a H1 _ s fun v H2 s2 h2 => b H2 _ (s.trans s2) fun vs H3 s3 l h3 => k (v :: vs) H3 (s2.trans s3) (by rw [List.length_cons, l]) fun x hx => by
    rcases List.mem_cons.mp hx with rfl | hx
    · exact st (Keep.same s3) h2
    · exact h3 x hx
theorem Yp.of {t : TE} {d : PyData} (g : Yd t σ H d) (h : ∀ {H' : Hp} {v : V}, Dt H' v d → p H' v) : Yp p t σ H := fun H1 Q s k => g H1 _ s fun v H' s' kd => k v H' s' (h kd)
/-- one of the items of a list that is tracked -/
theorem pick_at {K : PySem.W.Frag} {d l : Addr} {xs : List V} {σ : L2.St} {H : Hp} {Q : VK} {i : Nat} (st : ∀ {H H' : Hp} {v : V}, Keep H H' → p H v → p H' v) (h0 : σ[0]? = some (some (.ref d))) (hi : σ[i]? = some (some (.ref l))) (hd : Dice H d) (ld : l ≠ d) (e : H l = some (.lst xs)) (ne : 0 < xs.length) (few : xs.length ≤ 100)
    (hp : ∀ v ∈ xs, p H v) (q : ∀ v H', Past d H H' → p H' v → Q v H') : tCall (spPick K) [] E0 (tCons (tVar 0) (tCons (tVar i) tNil)) σ H Q :=
  ⟨.ref d, h0, .ref l, hi, d, .ref l, (fun v => p H v), rfl, hd, .inl ⟨l, xs, rfl, ld, .inl (.inl (.inl e)), (fun z => by rw [z] at ne; cases ne), by omega, hp⟩, fun v H' pt hv => q v H' pt (st (Keep.past hd pt) hv)⟩
/-- one of the items of a list that is written out -/
theorem pick_yp {K : PySem.W.Frag} {d : Addr} {t : TA} {n : Nat} {σ : L2.St} {H : Hp} {Q : VK} (st : ∀ {H H' : Hp} {v : V}, Keep H H' → p H v → p H' v) (h0 : σ[0]? = some (some (.ref d))) (hd : Dice H d) (g : YpA p n t σ H) (ne : 0 < n) (few : n ≤ 100)
    (q : ∀ v H', Past d H H' → p H' v → Q v H') : tCall (spPick K) [] E0 (tCons (tVar 0) (tCons (tLst t) tNil)) σ H Q := by
  refine ⟨.ref d, h0, g H _ (Same.refl _) fun vs H1 s1 l hv => ⟨by rw [l]; exact Nat.le_trans few (by decide), fun x nx => ?_⟩⟩
  have sx := same_new (o := .lst vs) nx
  have hd1 := (Past.same hd s1).dice
  have pt := Past.same hd (s1.trans sx)
  refine ⟨d, .ref x, (fun v => p (upd H1 x (.lst vs)) v), rfl, pt.dice, .inl ⟨x, vs, rfl, hd1.ne nx, .inl (.inl (.inl upd_same)), (fun z => by rw [z] at l; simp at l; omega), by omega, fun v hm => st (Keep.same sx) (hv v hm)⟩, fun v H' p' hv => q v H' (pt.trans p') (st (Keep.past pt.dice p') hv)⟩
end
/-! ### a picture that is drawn -/
abbrev s_l_drawn : Stmt := topS 63
abbrev nDr : List Str := ["_law_dice_here", "_law_names_here", "_law_depth", "_law_many", "_law_name", "_law_turn"]
theorem sc_l_drawn : FnScope nDr ["_law_dice_here", "_law_names_here", "_law_depth"] (defScope s_l_drawn) := ⟨rfl, rfl, rfl, by decide +kernel, rfl, by decide +kernel, by decide +kernel⟩
def spDrawn (n : Nat) : Sp := fun vs H Q _ => ∃ (d nl : Addr) (ws : List (List Nat)) (k : Nat), vs = [.ref d, .ref nl, .int k] ∧ Dice H d ∧ H nl = some (.lst (ws.map fun x => V.str (S x))) ∧ ws ≠ [] ∧ ws.length ≤ 60 ∧ (∀ x ∈ ws, word x) ∧ k < n ∧
  ∀ r p H', Past d H H' → Dt (Fr H H') r (pcD p) → p.Ok → p.lev ≤ k → Q r H'
def isM (_ : Hp) (v : V) : Prop := ∃ m : Nat, v = .int m ∧ 2 ≤ m ∧ m ≤ 4
theorem yp_m {σ : L2.St} {H : Hp} {m : Nat} (h2 : 2 ≤ m) (h4 : m ≤ 4) : Yp isM (tC (.int m)) σ H := fun H1 Q s k => k _ H1 (Same.refl _) ⟨m, rfl, h2, h4⟩
section
variable {P : Program} {w : World} {K : PySem.W.Frag} {mg : Str → Option Value} {base : Heap}
theorem ok_drawn (D : Df K mg "_law_drawn_picture" s_l_drawn ["_law_dice_here", "_law_names_here", "_law_depth"]) (G_l_roll : Cg P w K mg base 1 "_law_roll" spRoll) (G_l_pick : Cg P w K mg base 2 "_law_pick" (spPick K)) (z_range : mg "range" = none) : ∀ n, Cg P w K mg base (3 + n) "_law_drawn_picture" (spDrawn n)
  | 0 => by
    obtain ⟨f, fd, F, m, b⟩ := D
    exact ⟨f, fd, _, ⟨fun vs H Q E h => by obtain ⟨_, _, _, k, _, _, _, _, _, _, l, _⟩ := h; omega, fun A outer s H args us vs Q E hc hr e0 hb r h => by obtain ⟨_, _, _, k, _, _, _, _, _, _, l, _⟩ := h; omega⟩, m, F.kp, b⟩
  | n + 1 => by
    have IH := ok_drawn D G_l_roll G_l_pick z_range n
    refine D.ok (k := 3 + n) sc_l_drawn (fun vs H Q E h => ?_) (fun cdv A outer s H vs Q E f0 hc hr h => ?_)
    · obtain ⟨d, nl, ws, k, rfl, _⟩ := h
      rfl
    · obtain ⟨d, nl, ws, k, rfl, hd, hnl, wne, wl, ww, kn, q⟩ := h
      have hr3 := hr.mono (show 3 ≤ 3 + n by omega)
      have hr2 := hr.mono (show 2 ≤ 3 + n by omega)
      refine ⟨_, (pss_cons (ps_if (PW.pt (pw_or (pt_cmpR op_eq (pv 2) pe_int (nomark _)) (pw_or1 (pt_cmpR op_eq (pe_cg G_l_roll hc hr2 (by rfl) (pa_cons (pv 0) (pa_cons pe_int pa_nil))) pe_int (nomark _)))))
      (pss_one (ps_ret (pe_tup (pa_cons pe_str (pa_cons pe_non pa_nil)))))
      pss_nil)
      (pss_cons (ps_set (i := 3) sc_l_drawn.nd rfl (Or.inl rfl) (pe_cg G_l_pick hc hr2 (by rfl) (pa_cons (pv 0) (pa_cons (pe_lst (pa_cons pe_int (pa_cons pe_int (pa_cons pe_int (pa_cons pe_int (pa_cons pe_int (pa_cons pe_int pa_nil))))))) pa_nil))))
      (pss_cons (ps_set (i := 4) sc_l_drawn.nd rfl (Or.inl rfl) (pe_cg G_l_pick hc hr2 (by rfl) (pa_cons (pv 0) (pa_cons (pv 1) pa_nil))))
      (pss_one (ps_ret (pe_tup (pa_cons (pv 4) (pa_cons (pe_lc (own := [("_law_turn", 5)]) (g := gName 5) (by rfl) sc_l_drawn.nd (pi_range1 (by rfl) z_range (pa_cons (pv 3) pa_nil)) (blkOk_by (own := [("_law_turn", 5)]) (N := nDr) (sc := defScope s_l_drawn) (by decide +kernel)) (fun _ _ _ _ _ => pg_name (i := 5) sc_l_drawn.nd rfl (Or.inl rfl)) (fun _ _ _ _ _ => pts_nil) (fun _ _ _ _ _ => (pe_cg IH hc hr (by rfl) (pa_cons (pv 0) (pa_cons (pv 1) (pa_cons (pe_op op_sub (pv 2) pe_int) pa_nil))) (Nat.le_refl _)))) pa_nil)))))))), ?_⟩
      have hole : ∀ H1, Past d H H1 → ∀ r, H1 r = none → Q (.ref r) (upd H1 r (.tup [.str ".", .non])) := fun H1 p1 r nr => by
        have s2 := same_new (o := .tup [.str ".", .non]) nr
        refine q _ .hole _ (p1.trans (Past.same p1.dice s2)) (.tup (xs := [.str ".", .non]) ?_ (.cons (.str _) (.cons .non .nil))) trivial (Nat.zero_le _)
        rw [Fr.new ((Dom.past p1) r nr)]
        exact upd_same
      refine ⟨_, rfl, rfl, _, rfl, ?_⟩
      by_cases kz : k = 0
      · subst kz
        rw [decide_eq_true (show V.int ((0 : Nat) : Int) = V.int 0 from rfl)]
        exact iteT (iteT ⟨by show 2 ≤ sizeLine; decide, fun r nr => hole H (Past.refl hd) r nr⟩)
      rw [decide_eq_false (show ¬ V.int ((k : Nat) : Int) = V.int 0 from fun z => by have := V.int.inj z; omega)]
      refine iteF ⟨_, rfl, d, 3, rfl, hd, by decide, by decide +kernel, fun r1 H1 p1 r0 r3 => ⟨rfl, _, rfl, ?_⟩⟩
      refine ite2 (fun _ => ⟨by show 2 ≤ sizeLine; decide, fun r nr => hole H1 p1 r nr⟩) (fun _ => ?_)
      refine asg_at (pick_yp (p := isM) (n := 6) (fun _ h => h) rfl p1.dice (yp_cons (fun _ h => h) (yp_m (m := 2) (by decide) (by decide)) (yp_cons (fun _ h => h) (yp_m (m := 2) (by decide) (by decide)) (yp_cons (fun _ h => h) (yp_m (m := 2) (by decide) (by decide)) (yp_cons (fun _ h => h) (yp_m (m := 3) (by decide) (by decide)) (yp_cons (fun _ h => h) (yp_m (m := 3) (by decide) (by decide)) (yp_cons (fun _ h => h) (yp_m (m := 4) (by decide) (by decide)) yp_nil)))))) (by decide) (by decide) fun v H2 p2 hv => ?_)
      obtain ⟨m, rfl, m2, m4⟩ := hv
      have p12 := p1.trans p2
      have nd : nl ≠ d := fun z => by
        obtain ⟨g, s, c, e⟩ := hd
        rw [z, e] at hnl
        have : ws.map (fun x => V.str (S x)) = [.int g, .int s, .int c] := by
          have := Option.some.inj hnl
          exact (HO.lst.inj this).symm
        cases ws with
        | nil => exact wne rfl
        | cons x ws => cases this
      refine asg_at (pick_at (p := fun _ v => ∃ x, v = .str (S x) ∧ word x) (l := nl) (xs := ws.map fun x => V.str (S x)) (fun _ h => h) rfl rfl p12.dice nd (p12.1 _ _ nd hnl) (by rw [List.length_map]; cases ws with | nil => exact (wne rfl).elim | cons x ws => simp) (by rw [List.length_map]; omega) (fun v hv => by obtain ⟨x, hx, rfl⟩ := List.mem_map.mp hv; exact ⟨x, rfl, ww x hx⟩) fun v H3 p3 hv => ?_)
      obtain ⟨x, rfl, wx⟩ := hv
      have p123 := p12.trans p3
      refine ⟨_, rfl, _, rfl, (m : Int), rfl, by omega, by omega, fun Dl nD => ?_⟩
      have hd3 := p123.dice
      have dD : Dl ≠ d := fun z => by
        obtain ⟨g, s, c, e⟩ := hd3
        rw [z, e] at nD
        cases nD
      have nl3 := p123.1 _ _ nd hnl
      have bD : (upd H3 Dl (.lst [])) Dl = some (.lst []) := upd_same
      obtain ⟨od, ed⟩ : ∃ o, (upd H3 Dl (.lst [])) d = some o := by
        obtain ⟨g, s, c, e⟩ := hd3
        exact ⟨_, by rw [upd_ne dD.symm]; exact e⟩
      have mT : ((m : Int)).toNat = m := rfl
      refine lc_range (n := ((m : Int)).toNat) (lo := 0) (fun i H' => Past d H3 H' ∧ ∃ (us : List V) (qs : List Pic), H' Dl = some (.lst us) ∧ us.length = i ∧ DtAll (Fr (upd H3 Dl (.lst [])) H') us (qs.map pcD) ∧ ∀ q ∈ qs, q.Ok ∧ q.lev ≤ k - 1) ⟨past_put nD dD (Past.refl hd3), [], [], upd_same, rfl, .nil, (fun q h => nomatch h)⟩ (fun i H4 hi h => ?_) (fun H4 h => ?_)
      · obtain ⟨p4, us, qs, e4, ul, du, all⟩ := h
        have dom4 : Dom (upd H3 Dl (.lst [])) H4 := fun y hy => by
          by_cases z : y = Dl
          · rw [z, e4] at hy
            cases hy
          · rw [upd_ne z]
            exact Dom.past p4 y hy
        refine ⟨rfl, _, rfl, _, rfl, _, rfl, _, _, rfl, rfl, d, nl, ws, k - 1, ?_, p4.dice, p4.1 _ _ nd nl3, wne, wl, ww, by omega, fun r pp H5 p5 dt okp lp => ⟨us, p5.1 _ _ dD e4, ?_, past_put nD dD (p4.trans p5), us ++ [r], qs ++ [pp], upd_same, by rw [List.length_append, ul]; rfl, ?_, ?_⟩⟩
        · show [V.ref d, V.ref nl, V.int ((k : Int) - 1)] = _
          rw [show (k : Int) - 1 = ((k - 1 : Nat) : Int) by omega]
        · exact Nat.lt_of_le_of_lt (show _ ≤ 4 by omega) (by decide)
        · rw [Fr.put bD, List.map_append]
          exact (DtAll.same (Fr.past ed p5) _ _ du).app (.cons (Dt.same (Fr.mono dom4 fun _ _ _ e => e) _ _ dt) .nil)
        · intro q hq
          rcases List.mem_append.mp hq with h | h
          · exact all q h
          · rw [List.mem_singleton.mp h]
            exact ⟨okp, lp⟩
      · obtain ⟨p4, us, qs, e4, ul, du, all⟩ := h
        refine ⟨by show 2 ≤ sizeLine; decide, fun r nr => ?_⟩
        have sr := same_new (o := .tup [.str (S x), .ref Dl]) nr
        have p04 := p123.trans p4
        have nHD : H Dl = none := Dom.past p123 _ nD
        have rD : r ≠ Dl := fun z => by rw [z, e4] at nr; cases nr
        have ql : qs.length = m := by
          have := du.len
          rw [List.length_map] at this
          omega
        refine q _ (.node x qs) _ (p04.trans (Past.same p4.dice sr)) (.tup (xs := [.str (S x), .ref Dl]) ?_ (.cons (.str _) (.cons (.lst (xs := us) ?_ ?_) .nil))) (ok_mk wx (by omega) (by omega) fun q hq => (all q hq).1) ?_
        · rw [Fr.new (Dom.past p04 r nr)]
          exact upd_same
        · rw [Fr.new nHD, upd_ne rD.symm]
          exact e4
        · rw [pcDL_map]
          exact DtAll.same (Fr.mono ((Dom.past p123).trans Dom.put) fun y o _ e => sr y o e) _ _ du
        · show 1 + levL qs ≤ k
          have : levL qs ≤ k - 1 := by
            cases qs with
            | nil => exact Nat.zero_le _
            | cons q0 qs =>
              obtain ⟨q1, hq1, e1⟩ := levL_mem (ps := q0 :: qs) (List.cons_ne_nil _ _)
              rw [← e1]
              exact (all q1 hq1).2
          omega
end
end K11
set_option Elab.async false
set_option linter.all false
set_option autoImplicit false
set_option maxRecDepth 100000
set_option maxHeartbeats 4000000
namespace K11
open PySem PySem.Spec PyProof.Rows L2 Vb Wd Xd Xo Xv SX Pc Zc Oi RZ Zt Zk Of Og Oh Ot Zm Fh
/-! ### a picture that is sound, or a hole -/
theorem nam_S {z : Str} (h : isNam (.str z) = true) : ∃ n, word n ∧ z = S n := ⟨z.cps.toList, nam_word (by rw [S_tl]; exact h), (S_tl z).symm⟩
theorem formOf_at {ds : List FD} (nd : (ds.map (·.1)).Nodup) {d : FD} (hd : d ∈ ds) {n : List Nat} (e : d.1 = S n) : formOf ds n = some d := by
  induction ds with
  | nil => cases hd
  | cons x xs ih =>
    obtain ⟨h1, h2⟩ := List.nodup_cons.mp nd
    unfold formOf at ih ⊢
    rw [List.find?_cons]
    rcases List.mem_cons.mp hd with rfl | hd
    · rw [decide_eq_true e]
    · have : ¬ x.1 = S n := fun z => h1 (by
        show x.1 ∈ _
        rw [z, ← e]
        exact List.mem_map.mpr ⟨d, hd, rfl⟩)
      rw [decide_eq_false this]
      exact ih h2 hd
/-- the forms of a plain scheme: names, each once, two to four children -/
structure PlainOk (rows : List FD) : Prop where
  nam : ∀ r ∈ rows, isNam (.str r.1) = true
  once : (rows.map (·.1)).Nodup
  lo : ∀ r ∈ rows, 2 ≤ r.2.2.length
  hi : ∀ r ∈ rows, r.2.2.length ≤ 4
  few : rows.length ≤ 10
abbrev s_l_fit_picture : Stmt := topS 64
abbrev nFp : List Str := ["_law_dice_here", "_law_plain", "_law_sort", "_law_depth", "_law_name", "_law_some", "_law_child", "_law_step"]
theorem sc_l_fit_picture : FnScope nFp ["_law_dice_here", "_law_plain", "_law_sort", "_law_depth"] (defScope s_l_fit_picture) := ⟨rfl, rfl, rfl, by decide +kernel, rfl, by decide +kernel, by decide +kernel⟩
def spFitP (n : Nat) : Sp := fun vs H Q _ => ∃ (d a tl tb : Addr) (b : Str) (ts : List Str) (ps : List (FD × Addr)) (so : Str) (k : Nat), vs = [.ref d, .ref a, .str so, .int k] ∧ Dice H d ∧ Held H a tl tb b ts ps ∧ PlainOk (ps.map (·.1)) ∧ k < n ∧ k ≤ 4 ∧
  ∀ r p H', Past d H H' → Dt (Fr H H') r (pcD p) → p.Ok → p.lev ≤ k → soundP (ps.map (·.1)) p so = true → Q r H'
section
variable {P : Program} {w : World} {K : PySem.W.Frag} {mg : Str → Option Value} {base : Heap}
theorem ok_fitp (D : Df K mg "_law_fit_picture" s_l_fit_picture ["_law_dice_here", "_law_plain", "_law_sort", "_law_depth"]) (G_l_roll : Cg P w K mg base 1 "_law_roll" spRoll) (G_l_pick : Cg P w K mg base 2 "_law_pick" (spPick K)) (z_sorted : mg "sorted" = none) : ∀ n, Cg P w K mg base (3 + n) "_law_fit_picture" (spFitP n)
  | 0 => by
    obtain ⟨f, fd, F, m, b⟩ := D
    exact ⟨f, fd, _, ⟨fun vs H Q E h => by obtain ⟨_, _, _, _, _, _, _, _, k, _, _, _, _, l, _⟩ := h; omega, fun A outer s H args us vs Q E hc hr e0 hb r h => by obtain ⟨_, _, _, _, _, _, _, _, k, _, _, _, _, l, _⟩ := h; omega⟩, m, F.kp, b⟩
  | n + 1 => by
    have IH := ok_fitp D G_l_roll G_l_pick z_sorted n
    refine D.ok (k := 3 + n) sc_l_fit_picture (fun vs H Q E h => ?_) (fun cdv A outer s H vs Q E f0 hc hr h => ?_)
    · obtain ⟨d, a, tl, tb, b, ts, ps, so, k, rfl, _⟩ := h
      rfl
    · obtain ⟨d, a, tl, tb, b, ts, fs, so, k, rfl, hd, X, O, kn, k4, q⟩ := h
      have hr3 := hr.mono (show 3 ≤ 3 + n by omega)
      have hr2 := hr.mono (show 2 ≤ 3 + n by omega)
      refine ⟨_, (pss_cons (ps_setLc (i := 5) (own := [("_law_name", 4)]) (g := gName 4) (by rfl) sc_l_fit_picture.nd rfl rfl (sw_true rfl rfl rfl (by decide +kernel)) (pi_list (pe_callB (call_sortedD rfl) (by rfl) z_sorted (by decide +kernel) (pa_cons (pe_ix (ix_list : IxR _ (rIxL K)) (pv 1) pe_int (fun _ _ => rfl)) pa_nil))) (blkOk_by (own := [("_law_name", 4)]) (N := nFp) (sc := defScope s_l_fit_picture) (by decide +kernel)) (fun _ _ _ _ _ => pg_name (i := 4) sc_l_fit_picture.nd rfl (Or.inl rfl)) (fun _ _ _ _ _ => (pts_one (pt_cmpR op_eq (pe_ix (ix_tup : IxR _ (rIxT K)) (pe_dget (hu_of hr3) (pe_ix (ix_list : IxR _ (rIxL K)) (pv 1) pe_int (fun _ _ => rfl)) (pv 4) (fun _ _ => rfl)) pe_int (fun _ _ => rfl)) (pv 2) (nomark _)))) (fun _ _ _ _ _ => (pv 4)))
      (pss_cons (ps_if (PW.pt (pw_or (pt_cmpR op_eq (pv 3) pe_int (nomark _)) (pw_or (pt_cmpR (op_eqD hr3.units) (pv 5) (pe_lst pa_nil) (nomark _)) (pw_or1 (pt_cmpR op_eq (pe_cg G_l_roll hc hr2 (by rfl) (pa_cons (pv 0) (pa_cons pe_int pa_nil))) pe_int (nomark _))))))
      (pss_one (ps_ret (pe_tup (pa_cons pe_str (pa_cons pe_non pa_nil)))))
      pss_nil)
      (pss_cons (ps_set (i := 4) sc_l_fit_picture.nd rfl (Or.inl rfl) (pe_cg G_l_pick hc hr2 (by rfl) (pa_cons (pv 0) (pa_cons (pv 5) pa_nil))))
      (pss_one (ps_ret (pe_tup (pa_cons (pv 4) (pa_cons (pe_lc (own := [("_law_child", 6), ("_law_step", 7)]) (g := gTup K 2 (gCons (gName 6) (gCons (gName 7) gNil))) (by rfl) sc_l_fit_picture.nd (pi_tup (pe_ix (ix_tup : IxR _ (rIxT K)) (pe_dget (hu_of hr3) (pe_ix (ix_list : IxR _ (rIxL K)) (pv 1) pe_int (fun _ _ => rfl)) (pv 4) (fun _ _ => rfl)) pe_int (fun _ _ => rfl))) (blkOk_by (own := [("_law_child", 6), ("_law_step", 7)]) (N := nFp) (sc := defScope s_l_fit_picture) (by decide +kernel)) (fun _ _ _ _ _ => pg_tup (by rfl) (pgs_cons (pg_name (i := 6) sc_l_fit_picture.nd rfl (Or.inl rfl)) (pgs_cons (pg_name (i := 7) sc_l_fit_picture.nd rfl (Or.inl rfl)) pgs_nil))) (fun _ _ _ _ _ => pts_nil) (fun _ _ _ _ _ => (pe_cg IH hc hr (by rfl) (pa_cons (pv 0) (pa_cons (pv 1) (pa_cons (pv 6) (pa_cons (pe_op op_sub (pv 3) pe_int) pa_nil)))) (Nat.le_refl _)))) pa_nil)))))))), ?_⟩
      have psn : (fs.map (·.1)).map (·.1) = fs.map (·.1.1) := by rw [List.map_map]; rfl
      have nd : (fs.map (·.1.1)).Nodup := by rw [← psn]; exact O.once
      have f10 : fs.length ≤ 10 := by have := O.few; rwa [List.length_map] at this
      have big : ∀ {n : Nat}, n ≤ 300 → n < sizeLine := fun h => Nat.lt_of_le_of_lt h (by decide)
      have hole : ∀ H1, Past d H H1 → ∀ r, H1 r = none → Q (.ref r) (upd H1 r (.tup [.str ".", .non])) := fun H1 p1 r nr => by
        have s2 := same_new (o := .tup [.str ".", .non]) nr
        refine q _ .hole _ (p1.trans (Past.same p1.dice s2)) (.tup (xs := [.str ".", .non]) ?_ (.cons (.str _) (.cons .non .nil))) trivial (Nat.zero_le _) rfl
        rw [Fr.new ((Dom.past p1) r nr)]
        exact upd_same
      -- the names of the sort
      refine ⟨_, rfl, a, _, _, .ref tb, rfl, rfl, .inl (.inl X.at_), by rfl, tb, kvsP fs, fs.map (·.1.1), rfl, .inl X.dict, by rw [kvsP_keys], by rw [List.length_map]; omega, fun zs p1 pz sz np1 => ?_⟩
      have s1 := same_new (o := .lst (zs.map V.str)) np1
      have n1 : (upd H p1 (.lst (zs.map V.str))) p1 = some (.lst (zs.map V.str)) := upd_same
      generalize upd H p1 (.lst (zs.map V.str)) = H1 at s1 n1 ⊢
      have X1 := X.same s1
      have zl : zs.length ≤ 10 := by rw [pz.length_eq, List.length_map]; exact f10
      refine ⟨p1, rfl, ⟨_, .inl (.inl n1)⟩, fun Dl nD => ?_⟩
      refine lc_list (K := K) (a := p1) (xs := zs.map V.str) (fun i H' => Same H1 H' ∧ ∃ ws : List Str, H' Dl = some (.lst (ws.map V.str)) ∧ ws.length ≤ i ∧ ∀ x ∈ ws, ∃ p ∈ fs, p.1.1 = x ∧ p.1.2.1 = so) ⟨same_put nD (Same.refl _), [], upd_same, Nat.le_refl _, fun x h => nomatch h⟩ (fun i H' _ h => .inl (.inl (h.1 _ _ n1))) (fun i x H2 hx h => ?_) (fun H2 h => ?_)
      · obtain ⟨s2, ws, e2, wl, all⟩ := h
        rw [List.getElem?_map] at hx
        obtain ⟨z, hz, rfl⟩ := Option.map_eq_some_iff.mp hx
        have iz := (List.getElem?_eq_some_iff.mp hz).1
        obtain ⟨p, hp, pe⟩ := List.mem_map.mp (pz.mem_iff.mp (List.mem_of_getElem? hz))
        subst pe
        have X2 := X1.same s2
        obtain ⟨ch, ks, eq, kk⟩ := X2.row p hp
        have dg : DGet H2 tb (kV (Sum.inr p.1.1)) (some (.ref p.2)) := .inl ⟨kvsP fs, Sum.inr p.1.1, .inl X2.dict, rfl, (kvsP_val nd hp).symm⟩
        refine ⟨rfl, _, rfl, a, _, _, .ref tb, rfl, rfl, .inl (.inl X2.at_), by rfl, _, rfl, tb, .ref p.2, rfl, dg, p.2, _, 0, _, rfl, rfl, .inl (.inl eq), rfl, _, rfl, rfl, _, rfl, ?_⟩
        by_cases e : p.1.2.1 = so
        · rw [decide_eq_true (show V.str p.1.2.1 = V.str so by rw [e])]
          exact iteT ⟨_, rfl, ws.map V.str, e2, by rw [List.length_map]; exact big (by omega), same_put nD s2, ws ++ [p.1.1], by rw [upd_same, List.map_append]; rfl, by rw [List.length_append, List.length_singleton]; omega, fun x hx => (List.mem_append.mp hx).elim (all x) fun h => by
            rw [List.mem_singleton.mp h]
            exact ⟨p, hp, rfl, e⟩⟩
        · rw [decide_eq_false (show ¬ V.str p.1.2.1 = V.str so from fun z => e (V.str.inj z))]
          exact iteF ⟨s2, ws, e2, by omega, all⟩
      obtain ⟨s2, ws, e2, wl, all⟩ := h
      rw [List.length_map] at wl
      have s12 := s1.trans s2
      have hd2 := (Past.same hd s12)
      refine ⟨_, rfl, rfl, _, rfl, ?_⟩
      by_cases kz : k = 0
      · subst kz
        rw [decide_eq_true (show V.int ((0 : Nat) : Int) = V.int 0 from rfl)]
        exact iteT (iteT ⟨by show 2 ≤ sizeLine; decide, fun r nr => hole H2 hd2 r nr⟩)
      rw [decide_eq_false (show ¬ V.int ((k : Nat) : Int) = V.int 0 from fun z => by have := V.int.inj z; omega)]
      refine iteF ⟨_, rfl, by show 0 ≤ sizeLine; decide, fun l2 n2 => ?_⟩
      have s3 := same_new (o := .lst []) n2
      have e3 := s3 _ _ e2
      have f3 : (upd H2 l2 (.lst [])) l2 = some (.lst []) := upd_same
      generalize upd H2 l2 (.lst []) = H3 at s3 e3 f3 ⊢
      have p3 := hd2.trans (Past.same hd2.dice s3)
      have X3 := (X1.same s2).same s3
      refine ⟨.list (ws.map PyData.str), .list [], .lst (.inl (.inl e3)) (dp_strs ws), .lst (.inl (.inl f3)) .nil, ?_, rfl, ?_⟩
      · refine (lays_lst (n := 0) fun x hx => ?_).shaped (by decide)
        obtain ⟨y, hy, rfl⟩ := List.mem_map.mp hx
        obtain ⟨p, hp, rfl, _⟩ := all y hy
        exact lays_str (nam_asc (O.nam _ (List.mem_map.mpr ⟨p, hp, rfl⟩)))
      have ev : PyData.eqv (.list (ws.map PyData.str)) (.list []) = decide (ws = []) := by cases ws <;> rfl
      rw [ev]
      by_cases we : ws = []
      · rw [decide_eq_true we]
        exact ⟨_, rfl, iteT (iteT ⟨by show 2 ≤ sizeLine; decide, fun r nr => hole H3 p3 r nr⟩)⟩
      rw [decide_eq_false we]
      have w1 : 0 < ws.length := List.length_pos_iff.mpr we
      refine ⟨_, rfl, iteF ⟨_, rfl, d, 3, rfl, p3.dice, by decide, by decide +kernel, fun r1 H4 p4 r0 r3 => ⟨rfl, _, rfl, ?_⟩⟩⟩
      have p04 := p3.trans p4
      refine ite2 (fun _ => ⟨by show 2 ≤ sizeLine; decide, fun r nr => hole H4 p04 r nr⟩) (fun _ => ?_)
      have dDl : Dl ≠ d := ((Past.same hd s1).dice).ne nD
      have e4 := p4.1 _ _ dDl e3
      refine asg_at (pick_at (p := fun _ v => ∃ p ∈ fs, v = .str p.1.1 ∧ p.1.2.1 = so) (l := Dl) (xs := ws.map V.str) (fun _ h => h) rfl rfl p04.dice dDl e4 (by rw [List.length_map]; exact w1) (by rw [List.length_map]; omega) (fun v hv => by
        obtain ⟨y, hy, rfl⟩ := List.mem_map.mp hv
        obtain ⟨p, hp, rfl, es⟩ := all y hy
        exact ⟨p, hp, rfl, es⟩) fun v H5 p5 hv => ?_)
      obtain ⟨p, hp, rfl, es⟩ := hv
      have p05 := p04.trans p5
      have X5 := X.keep (Keep.past hd p05)
      obtain ⟨ch, ks, eq, kk⟩ := X5.row p hp
      have kl := kk.len
      have dg : DGet H5 tb (kV (Sum.inr p.1.1)) (some (.ref p.2)) := .inl ⟨kvsP fs, Sum.inr p.1.1, .inl X5.dict, rfl, (kvsP_val nd hp).symm⟩
      refine ⟨_, rfl, _, rfl, a, _, _, .ref tb, rfl, rfl, .inl (.inl X5.at_), by rfl, _, rfl, tb, .ref p.2, rfl, dg, p.2, _, 1, _, rfl, rfl, .inl (.inl eq), rfl, ch, rfl, ⟨_, .inl (.inl kk.at_)⟩, fun Dm nM => ?_⟩
      have dM := p05.dice.ne nM
      have bM : (upd H5 Dm (.lst [])) Dm = some (.lst []) := upd_same
      obtain ⟨od, ed⟩ : ∃ o, (upd H5 Dm (.lst [])) d = some o := by
        obtain ⟨g, s, c, e⟩ := p05.dice
        exact ⟨_, by rw [upd_ne dM.symm]; exact e⟩
      have pm : p.1 ∈ fs.map (·.1) := List.mem_map.mpr ⟨p, hp, rfl⟩
      have l2c := O.lo _ pm
      have l4c := O.hi _ pm
      refine lc_tup (K := K) (a := ch) (xs := ks.map V.ref) (fun i H' => Past d H5 H' ∧ ∃ (us : List V) (qs : List Pic), H' Dm = some (.lst us) ∧ us.length = i ∧ DtAll (Fr (upd H5 Dm (.lst [])) H') us (qs.map pcD) ∧ (∀ q ∈ qs, q.Ok ∧ q.lev ≤ k - 1) ∧ ∀ (j : Nat) (q : Pic) (c : Str × Int), qs[j]? = some q → p.1.2.2[j]? = some c → soundP (fs.map (·.1)) q c.1 = true) ⟨past_put nM dM (Past.refl p05.dice), [], [], upd_same, rfl, .nil, (fun q h => nomatch h), fun j q c h => by simp at h⟩ (fun i H' _ h => .inl (.inl (Tups.past p05.dice h.1 _ _ kk.at_))) (fun i x H6 hx h => ?_) (fun H6 h => ?_)
      · obtain ⟨p6, us, qs, e6, ul, du, ok6, sd6⟩ := h
        rw [List.getElem?_map] at hx
        obtain ⟨t1, ht1, rfl⟩ := Option.map_eq_some_iff.mp hx
        obtain ⟨⟨c1, c2⟩, hc', kt⟩ := kk.get ht1
        have kt6 := kt.tups (Tups.past p05.dice p6)
        have dom6 : Dom (upd H5 Dm (.lst [])) H6 := fun y hy => by
          by_cases z : y = Dm
          · rw [z, e6] at hy
            cases hy
          · rw [upd_ne z]
            exact Dom.past p6 y hy
        have il : i < ks.length := (List.getElem?_eq_some_iff.mp ht1).1
        refine ⟨t1, _, rfl, .inl (.inl kt6.at_), rfl, .str c1, _, rfl, .int c2, _, rfl, rfl, rfl, _, rfl, _, rfl, _, rfl, _, rfl, _, _, rfl, rfl, d, a, tl, tb, b, ts, fs, c1, k - 1, ?_, p6.dice, X5.keep (Keep.past p05.dice p6), O, by omega, by omega, fun r pp H7 p7 dt okp lp sp => ⟨us, p7.1 _ _ dM e6, ?_, past_put nM dM (p6.trans p7), us ++ [r], qs ++ [pp], upd_same, by rw [List.length_append, ul]; rfl, ?_, ?_, ?_⟩⟩
        · show [V.ref d, V.ref a, V.str c1, V.int ((k : Int) - 1)] = _
          rw [show (k : Int) - 1 = ((k - 1 : Nat) : Int) by omega]
        · exact big (by omega)
        · rw [Fr.put bM, List.map_append]
          exact (DtAll.same (Fr.past ed p7) _ _ du).app (.cons (Dt.same (Fr.mono dom6 fun _ _ _ e => e) _ _ dt) .nil)
        · intro q hq
          rcases List.mem_append.mp hq with h | h
          · exact ok6 q h
          · rw [List.mem_singleton.mp h]
            exact ⟨okp, lp⟩
        · intro j q c hj hcj
          have ql : qs.length = i := by
            have := du.len
            rw [List.length_map] at this
            omega
          by_cases ji : j < qs.length
          · rw [List.getElem?_append_left ji] at hj
            exact sd6 j q c hj hcj
          · rw [List.getElem?_append_right (by omega)] at hj
            have je : j = i := by
              have := (List.getElem?_eq_some_iff.mp hj).1
              simp at this
              omega
            subst je
            rw [hc'] at hcj
            rw [ql, Nat.sub_self] at hj
            cases hj
            cases hcj
            exact sp
      · obtain ⟨p6, us, qs, e6, ul, du, ok6, sd6⟩ := h
        rw [List.length_map, kl] at ul
        have ql : qs.length = p.1.2.2.length := by
          have := du.len
          rw [List.length_map] at this
          omega
        obtain ⟨m, wm, em⟩ := nam_S (O.nam _ pm)
        have ef : formOf (fs.map (·.1)) m = some p.1 := formOf_at (by rw [psn]; exact nd) pm em
        have okN : Pic.Ok (.node m qs) := ok_mk wm (by omega) (by omega) fun q hq => (ok6 q hq).1
        refine ⟨by show 2 ≤ sizeLine; decide, fun r nr => ?_⟩
        have sr := same_new (o := .tup [.str p.1.1, .ref Dm]) nr
        have p06 := p05.trans p6
        have nHM : H Dm = none := Dom.past p05 _ nM
        have rM : r ≠ Dm := fun z => by rw [z, e6] at nr; cases nr
        refine q _ (.node m qs) _ (p06.trans (Past.same p6.dice sr)) (.tup (xs := [.str p.1.1, .ref Dm]) ?_ (.cons (em ▸ .str _) (.cons (.lst (xs := us) ?_ ?_) .nil))) okN ?_ ?_
        · rw [Fr.new (Dom.past p06 r nr)]
          exact upd_same
        · rw [Fr.new nHM, upd_ne rM.symm]
          exact e6
        · rw [pcDL_map]
          exact DtAll.same (Fr.mono ((Dom.past p05).trans Dom.put) fun y o _ e => sr y o e) _ _ du
        · show 1 + levL qs ≤ k
          have : levL qs ≤ k - 1 := by
            cases qs with
            | nil => exact Nat.zero_le _
            | cons q0 qs =>
              obtain ⟨q1, hq1, e1⟩ := levL_mem (ps := q0 :: qs) (List.cons_ne_nil _ _)
              rw [← e1]
              exact (ok6 q1 hq1).2
          omega
        · show (false || (sound (fs.map (·.1)) (.node m qs) && sortOk (fs.map (·.1)) so (.node m qs))) = true
          rw [sortOk_some ef, decide_eq_true es, sound_yes ef ql.symm sd6]
          rfl
end
end K11
set_option Elab.async false
set_option linter.all false
set_option autoImplicit false
set_option maxRecDepth 100000
set_option maxHeartbeats 4000000
namespace K11
open PySem PySem.Spec PyProof.Rows L2 Vb Wd Xd Xo Xv SX Pc Zc Oi RZ Zt Zk Of Og Oh Ot Zm Fh
/-! ### numbers with a sum -/
/-- all lists of so many numbers with a sum -/
def splitsL : Nat → Nat → List (List Nat)
  | 0, _ => []
  | 1, t => [[t]]
  | m + 2, t => (List.range (t + 1)).flatMap fun f => (splitsL (m + 1) (t - f)).map (f :: ·)
def spD (l : List Nat) : PyData := .tuple (l.map fun (n : Nat) => .int n)
theorem spD_only (ls : List (List Nat)) : onlyTs (ls.map spD) = true := by
  rw [onlyTs_all, List.all_eq_true]
  intro d hd
  obtain ⟨s, _, rfl⟩ := List.mem_map.mp hd
  show onlyTs _ = true
  rw [onlyTs_all, List.all_eq_true]
  intro e he
  obtain ⟨n, _, rfl⟩ := List.mem_map.mp he
  rfl
theorem spD_inv {H : Hp} {v : V} {s : List Nat} (h : Dt H v (spD s)) : ∃ t, v = .ref t ∧ H t = some (.tup (s.map fun (n : Nat) => V.int n)) := by
  obtain ⟨a, xs, rfl, ha, al⟩ := dt_tup h
  have e : ∀ (s : List Nat) (xs : List V), DtAll H xs (s.map fun (n : Nat) => PyData.int n) → xs = s.map fun (n : Nat) => V.int n := fun s => by
    induction s with
    | nil => intro xs h; cases h; rfl
    | cons n s ih =>
      intro xs h
      cases h with
      | cons x al =>
        cases x
        rw [ih _ al]
        rfl
  rw [e s xs al] at ha
  exact ⟨a, rfl, ha⟩
theorem spD_mk {H : Hp} {t : Addr} {s : List Nat} (h : H t = some (.tup (s.map fun (n : Nat) => V.int n))) : Dt H (.ref t) (spD s) := by
  refine .tup h ?_
  induction s with
  | nil => exact .nil
  | cons n s ih => exact .cons (.int _) (by
      clear h ih
      induction s with
      | nil => exact .nil
      | cons n s ih => exact .cons (.int _) ih)
theorem splits_few : ∀ m ≤ 4, ∀ t ≤ 4, (splitsL m t).length ≤ 35 := by decide +kernel
theorem splits_facts (m t : Nat) (h4 : m ≤ 4) (t4 : t ≤ 4) (h2 : 2 ≤ m) (h6 : m + t ≤ 6) : (splitsL m t).length ≤ 10 ∧ ∀ l ∈ splitsL m t, l.length = m ∧ l.sum = t ∧ (l.filter fun n => decide (n ≠ 0)).length ≤ 3 := by
  have all : ∀ m ≤ 4, ∀ t ≤ 4, 2 ≤ m → m + t ≤ 6 → (splitsL m t).length ≤ 10 ∧ ((splitsL m t).all fun l => decide (l.length = m) && (decide (l.sum = t) && decide ((l.filter fun n => decide (n ≠ 0)).length ≤ 3))) = true := by decide +kernel
  obtain ⟨a, b⟩ := all m h4 t t4 h2 h6
  refine ⟨a, fun l hl => ?_⟩
  have := List.all_eq_true.mp b l hl
  rw [Bool.and_eq_true, Bool.and_eq_true, decide_eq_true_eq, decide_eq_true_eq, decide_eq_true_eq] at this
  exact this
theorem splits_len : ∀ (m t : Nat), ∀ l ∈ splitsL m t, l.length = m
  | 0, _, l, h => nomatch h
  | 1, t, l, h => by
    rw [List.mem_singleton.mp h]
    rfl
  | m + 2, t, l, h => by
    obtain ⟨f, _, h2⟩ := List.mem_flatMap.mp h
    obtain ⟨r, hr, rfl⟩ := List.mem_map.mp h2
    rw [List.length_cons, splits_len (m + 1) _ r hr]
abbrev s_l_splits : Stmt := topS 57
abbrev nSl : List Str := ["_law_total", "_law_many", "_law_found", "_law_first", "_law_rest"]
theorem sc_l_splits : FnScope nSl ["_law_total", "_law_many"] (defScope s_l_splits) := ⟨rfl, rfl, rfl, by decide +kernel, rfl, by decide +kernel, by decide +kernel⟩
def spSplits (n : Nat) : Sp := fun vs H Q _ => ∃ (t m : Nat), vs = [.int t, .int m] ∧ t ≤ 4 ∧ 1 ≤ m ∧ m ≤ 4 ∧ m < n ∧ ∀ l xs H', Same H H' → H l = none → H' l = some (.lst xs) → DtAll H' xs ((splitsL m t).map spD) → Q (.ref l) H'
section
variable {P : Program} {w : World} {K : PySem.W.Frag} {mg : Str → Option Value} {base : Heap}
theorem ok_splits (D : Df K mg "_law_splits" s_l_splits ["_law_total", "_law_many"]) (z_range : mg "range" = none) : ∀ n, Cg P w K mg base (1 + n) "_law_splits" (spSplits n)
  | 0 => by
    obtain ⟨f, fd, F, m, b⟩ := D
    exact ⟨f, fd, _, ⟨fun vs H Q E h => by obtain ⟨_, _, _, _, _, _, l, _⟩ := h; omega, fun A outer s H args us vs Q E hc hr e0 hb r h => by obtain ⟨_, _, _, _, _, _, l, _⟩ := h; omega⟩, m, F.kp, b⟩
  | n + 1 => by
    have IH := ok_splits D z_range n
    refine D.ok (k := 1 + n) sc_l_splits (fun vs H Q E h => ?_) (fun cdv A outer s H vs Q E f0 hc hr h => ?_)
    · obtain ⟨t, m, rfl, _⟩ := h
      rfl
    · obtain ⟨t, m, rfl, t4, m1, m4, mn, q⟩ := h
      refine ⟨_, (pss_cons (ps_if (pt_cmpR op_eq (pv 1) pe_int (nomark _))
      (pss_one (ps_ret (pe_lst (pa_cons (pe_tup (pa_cons (pv 0) pa_nil)) pa_nil))))
      pss_nil)
      (pss_cons (ps_set (i := 2) sc_l_splits.nd rfl (Or.inl rfl) (pe_lst pa_nil))
      (pss_cons (ps_for PassesOwn.never rfl (pi_range1 (by rfl) z_range (pa_cons (pe_op op_add (pv 0) pe_int) pa_nil)) (pg_name (i := 3) sc_l_splits.nd rfl (Or.inr rfl))
      (pss_one (ps_expr (pe_bm PySem.F.plainAttrs_list PySem.F.slot_list_extend PySem.F.type_list_extend mt_extend (pv 2) (pa_cons (pe_lc (own := [("_law_rest", 4)]) (g := gName 4) (by rfl) sc_l_splits.nd (pi_list (pe_cg IH hc hr (by rfl) (pa_cons (pe_op op_sub (pv 0) (pv 3)) (pa_cons (pe_op op_sub (pv 1) pe_int) pa_nil)) (Nat.le_refl _))) (blkOk_by (own := [("_law_rest", 4)]) (N := nSl) (sc := defScope s_l_splits) (by decide +kernel)) (fun _ _ _ _ _ => pg_name (i := 4) sc_l_splits.nd rfl (Or.inl rfl)) (fun _ _ _ _ _ => pts_nil) (fun _ _ _ _ _ => (pe_op (op_catT : OpR _ _ (rCatT K)) (pe_tup (pa_cons (pv 3) pa_nil)) (pv 4)))) pa_nil)))))
      (pss_one (ps_ret (pv 2)))))), ?_⟩
      have big : ∀ {n : Nat}, n ≤ 600 → n < sizeLine := fun h => Nat.lt_of_le_of_lt h (by decide)
      refine ⟨_, rfl, rfl, _, rfl, ?_⟩
      by_cases e1 : m = 1
      · subst e1
        rw [decide_eq_true (show V.int ((1 : Nat) : Int) = V.int 1 from rfl)]
        refine iteT ⟨_, rfl, by show 1 ≤ sizeLine; decide, fun p np => ⟨by show 1 ≤ sizeLine; decide, fun l nl => ?_⟩⟩
        have s1 := same_new (o := .tup [.int t]) np
        have s2 := same_new (o := .lst [.ref p]) nl
        exact q l [.ref p] _ (s1.trans s2) (same_none s1 nl) upd_same (.cons (spD_mk (s := [t]) (s2 _ _ upd_same)) .nil)
      rw [decide_eq_false (show ¬ V.int ((m : Nat) : Int) = V.int 1 from fun z => by have := V.int.inj z; omega)]
      obtain ⟨m', rfl⟩ : ∃ m', m = m' + 2 := ⟨m - 2, by omega⟩
      refine iteF ⟨by show 0 ≤ sizeLine; decide, fun R nR => ?_⟩
      have sR := same_new (o := .lst []) nR
      have eR : (upd H R (.lst [])) R = some (.lst []) := upd_same
      generalize upd H R (.lst []) = H1 at sR eR ⊢
      have hn : ((t : Int) + 1).toNat = t + 1 := by omega
      refine ⟨_, rfl, _, _, rfl, rfl, _, rfl, by omega, by omega, ?_⟩
      rw [hn]
      refine for_range (lo := 0) (n := t + 1) (fun i σ H' => (∃ o3 o4 : Option V, σ = [some (.int t), some (.int ((m' + 2 : Nat) : Int)), some (.ref R), o3, o4]) ∧ (∀ b o, b ≠ R → H1 b = some o → H' b = some o) ∧ ∃ us, H' R = some (.lst us) ∧ us.length ≤ 35 * i ∧ DtAll H' us (((List.range i).flatMap fun f => (splitsL (m' + 1) (t - f)).map (f :: ·)).map spD))
        ⟨⟨none, none, rfl⟩, fun _ _ _ e => e, [], eR, Nat.le_refl _, .nil⟩ (fun i σ H2 hi h => ?_) (fun σ H2 h => ?_)
      · obtain ⟨⟨o3, o4, rfl⟩, k2, us, e2, ul, du⟩ := h
        refine ⟨.ref R, rfl, .inl ⟨rfl, _, .inl (.inl e2)⟩, _, rfl, _, rfl, _, _, rfl, rfl, _, rfl, _, _, rfl, rfl, t - i, m' + 1, ?_, by omega, by omega, by omega, by omega, fun l xs H3 s3 nl el dl => ⟨l, rfl, ⟨_, .inl (.inl el)⟩, fun Dl nD => ?_⟩⟩
        · have z1 : (t : Int) - (0 + (i : Int)) = ((t - i : Nat) : Int) := by omega
          have z2 : ((m' + 2 : Nat) : Int) - 1 = ((m' + 1 : Nat) : Int) := by omega
          rw [← z1, ← z2]
          rfl
        have xl : xs.length = (splitsL (m' + 1) (t - i)).length := by rw [dl.len, List.length_map]
        have x35 := splits_few (m' + 1) (by omega) (t - i) (by omega)
        have e3 := s3 _ _ e2
        have RD : R ≠ Dl := fun z => by rw [z, nD] at e3; cases e3
        refine lc_list (K := K) (a := l) (xs := xs) (fun j H' => Same H3 H' ∧ ∃ vs, H' Dl = some (.lst vs) ∧ vs.length = j ∧ DtAll H' vs (((splitsL (m' + 1) (t - i)).take j).map fun r => spD (i :: r))) ⟨same_put nD (Same.refl _), [], upd_same, rfl, .nil⟩ (fun j H' _ h => .inl (.inl (h.1 _ _ el))) (fun j x H4 hx h => ?_) (fun H4 h => ?_)
        · obtain ⟨s4, vs, e4, vl, dv⟩ := h
          have jl : j < (splitsL (m' + 1) (t - i)).length := by
            have := (List.getElem?_eq_some_iff.mp hx).1
            omega
          obtain ⟨dd, hdd, kd⟩ := dl.get hx
          rw [List.getElem?_map, List.getElem?_eq_getElem jl] at hdd
          have tk : (splitsL (m' + 1) (t - i)).take (j + 1) = (splitsL (m' + 1) (t - i)).take j ++ [(splitsL (m' + 1) (t - i))[j]] := by rw [List.take_add_one, List.getElem?_eq_getElem jl]; rfl
          have rl := splits_len _ _ _ (List.getElem_mem jl)
          generalize (splitsL (m' + 1) (t - i))[j] = r at hdd tk rl
          cases hdd
          obtain ⟨tr, rfl, etr⟩ := spD_inv kd
          refine ⟨rfl, _, rfl, by show 1 ≤ sizeLine; decide, fun p np => ?_⟩
          have sp := same_new (o := .tup [.int (0 + (i : Int))]) np
          have ep : (upd H4 p (.tup [.int (0 + (i : Int))])) p = some (.tup [.int (0 + (i : Int))]) := upd_same
          have e4' := sp _ _ e4
          have onl : onlyTs ((((splitsL (m' + 1) (t - i)).take j).map fun r => spD (i :: r)) ++ [r].map (fun r => spD (i :: r))) = true := by
            have : (((splitsL (m' + 1) (t - i)).take j).map fun r => spD (i :: r)) ++ [r].map (fun r => spD (i :: r)) = (((splitsL (m' + 1) (t - i)).take j ++ [r]).map (i :: ·)).map spD := by
              rw [List.map_append, List.map_append, List.map_map]
              rfl
            rw [this]
            exact spD_only _
          generalize upd H4 p (.tup [.int (0 + (i : Int))]) = H5 at sp ep e4' ⊢
          have s5 := s4.trans sp
          have z0 : (0 + (i : Int)) = ((i : Nat) : Int) := by omega
          rw [z0] at ep
          refine ⟨_, rfl, p, tr, _, _, rfl, rfl, .inl (.inl ep), .inl (.inl (s5 _ _ etr)), by simp, ?_, fun z => ⟨vs, e4', big (by omega), same_put nD s5, vs ++ [.ref p], upd_same, by rw [List.length_append, vl]; rfl, ?_⟩, fun nz p2 np2 => ?_⟩
          · rw [List.length_map, rl]
            exact Nat.le_of_lt (big (by show 1 + _ ≤ 600; omega))
          · rw [tk, List.map_append]
            have : r = [] := by cases r with | nil => rfl | cons => cases z
            subst this
            exact DtAll.tups (Tups.putL _ e4') _ _ onl (by exact (DtAll.same sp _ _ dv).app (.cons (spD_mk (s := [i]) ep) .nil))
          · have sp2 := same_new (o := .tup ([.int ((i : Nat) : Int)] ++ r.map fun (n : Nat) => V.int n)) np2
            refine ⟨vs, sp2 _ _ e4', big (by omega), same_put nD (s5.trans sp2), vs ++ [.ref p2], upd_same, by rw [List.length_append, vl]; rfl, ?_⟩
            rw [tk, List.map_append]
            exact DtAll.tups (Tups.putL _ (sp2 _ _ e4')) _ _ onl ((DtAll.same (sp.trans sp2) _ _ dv).app (.cons (spD_mk (s := i :: r) upd_same) .nil))
        · obtain ⟨s4, vs, e4, vl, dv⟩ := h
          rw [xl] at vl dv
          rw [List.take_of_length_le (Nat.le_refl _)] at dv
          have e3' := s4 _ _ e3
          refine ⟨R, Dl, us, vs, rfl, rfl, e3', e4, Nat.le_of_lt (big (by omega)), ⟨_, _, rfl⟩, fun b o n hb => ?_, us ++ vs, upd_same, by rw [List.length_append]; omega, ?_⟩
          · rw [upd_ne n]
            exact s4 _ _ (s3 _ _ (k2 _ _ n hb))
          · refine DtAll.tups (Tups.putL _ e3') _ _ (spD_only _) ?_
            rw [List.range_succ, List.flatMap_append, List.map_append]
            refine (DtAll.same (s3.trans s4) _ _ du).app ?_
            rw [List.flatMap_singleton, List.map_map]
            exact dv
      · obtain ⟨⟨o3, o4, rfl⟩, k2, us, e2, ul, du⟩ := h
        have s2 : Same H H2 := fun b o hb => k2 _ _ (ne_of_none hb nR) (sR _ _ hb)
        exact ⟨_, rfl, q R us H2 s2 nR e2 du⟩
end
end K11
set_option Elab.async false
set_option linter.all false
set_option autoImplicit false
set_option maxRecDepth 100000
set_option maxHeartbeats 4000000
namespace K11
open PySem PySem.Spec PyProof.Rows L2 Vb Wd Xd Xo Xv SX Pc Zc Oi RZ Zt Zk Of Og Oh Ot Zm Fh
/-! ### trees that fit children -/
abbrev Ent := SpT × Pic
def entD (e : Ent) : PyData := .tuple [spP e.1, trD e.2]
abbrev Fil := List Pic × Option Int
def rkD : Option Int → PyData
  | none => .none
  | some i => .int i
def rkV : Option Int → V
  | none => .non
  | some i => .int i
def filD (f : Fil) : PyData := .tuple [.tuple (f.1.map trD), rkD f.2]
theorem trDs_only (ts : List Pic) : onlyTs (ts.map trD) = true := by
  rw [onlyTs_all, List.all_map]
  exact List.all_eq_true.mpr fun p _ => trD_only p
theorem entD_only (es : List Ent) : onlyTs (es.map entD) = true := by
  rw [onlyTs_all, List.all_map]
  refine List.all_eq_true.mpr fun e _ => ?_
  show (true && (onlyT (trD e.2) && true)) = true
  rw [trD_only]
  rfl
theorem filD_only (fs : List Fil) : onlyTs (fs.map filD) = true := by
  rw [onlyTs_all, List.all_map]
  refine List.all_eq_true.mpr fun f _ => ?_
  show (onlyTs (f.1.map trD) && (onlyT (rkD f.2) && true)) = true
  rw [trDs_only]
  cases f.2 <;> rfl
theorem rk_inv {H : Hp} {v : V} {r : Option Int} (h : Dt H v (rkD r)) : v = rkV r := by
  cases r <;> cases h <;> rfl
theorem rk_mk {H : Hp} (r : Option Int) : Dt H (rkV r) (rkD r) := by
  cases r with
  | none => exact .non
  | some i => exact .int i
theorem ent_inv {H : Hp} {v : V} {e : Ent} (h : Dt H v (entD e)) : ∃ a t x, v = .ref a ∧ H a = some (.tup [.ref t, x]) ∧ H t = some (.tup [.str e.1.1, .int e.1.2]) ∧ Dt H x (trD e.2) := by
  obtain ⟨a, xs, rfl, ha, al⟩ := dt_tup h
  cases al with
  | cons x al =>
    cases al with
    | cons y al =>
      cases al
      obtain ⟨t, rfl, ht⟩ := spP_inv x
      exact ⟨a, t, _, rfl, ha, ht, y⟩
theorem ent_mk {H : Hp} {a t : Addr} {x : V} {e : Ent} (h1 : H a = some (.tup [.ref t, x])) (h2 : H t = some (.tup [.str e.1.1, .int e.1.2])) (h3 : Dt H x (trD e.2)) : Dt H (.ref a) (entD e) := .tup h1 (.cons (spP_mk (s := e.1) h2) (.cons h3 .nil))
theorem fil_inv {H : Hp} {v : V} {f : Fil} (h : Dt H v (filD f)) : ∃ a q xs, v = .ref a ∧ H a = some (.tup [.ref q, rkV f.2]) ∧ H q = some (.tup xs) ∧ DtAll H xs (f.1.map trD) := by
  obtain ⟨a, xs, rfl, ha, al⟩ := dt_tup h
  cases al with
  | cons x al =>
    cases al with
    | cons y al =>
      cases al
      obtain ⟨q, ys, rfl, hq, aq⟩ := dt_tup x
      rw [rk_inv y] at ha
      exact ⟨a, q, ys, rfl, ha, hq, aq⟩
theorem fil_mk {H : Hp} {a q : Addr} {xs : List V} {f : Fil} (h1 : H a = some (.tup [.ref q, rkV f.2])) (h2 : H q = some (.tup xs)) (h3 : DtAll H xs (f.1.map trD)) : Dt H (.ref a) (filD f) := .tup h1 (.cons (.tup h2 h3) (.cons (rk_mk f.2) .nil))
/-- trees of lists that fit the first children, and the rank that they ask of their parent -/
structure FillOk (Ls : List (List Ent)) (cs : List (Str × Int)) (i : Nat) (f : Fil) : Prop where
  len : f.1.length = i
  at_ : ∀ (j : Nat) (t : Pic), f.1[j]? = some t → ∃ L s c, Ls[j]? = some L ∧ cs[j]? = some c ∧ (s, t) ∈ L ∧ s.1 = c.1 ∧ f.2 = some (s.2 + c.2)
  nil : i = 0 → f.2 = none
theorem FillOk.zero (Ls : List (List Ent)) (cs : List (Str × Int)) : FillOk Ls cs 0 ([], none) := ⟨rfl, fun j t h => by simp at h, fun _ => rfl⟩
theorem FillOk.step {Ls : List (List Ent)} {cs : List (Str × Int)} {i : Nat} {f : Fil} {L : List Ent} {c : Str × Int} {s : SpT} {t : Pic} (F : FillOk Ls cs i f) (hL : Ls[i]? = some L) (hc : cs[i]? = some c) (hm : (s, t) ∈ L) (hs : s.1 = c.1) (hr : f.2 = none ∨ f.2 = some (s.2 + c.2)) :
    FillOk Ls cs (i + 1) (f.1 ++ [t], some (s.2 + c.2)) := by
  refine ⟨by rw [List.length_append, F.len]; rfl, fun j u hj => ?_, fun z => by omega⟩
  by_cases ji : j < f.1.length
  · rw [List.getElem?_append_left ji] at hj
    obtain ⟨L', s', c', a1, a2, a3, a4, a5⟩ := F.at_ j u hj
    refine ⟨L', s', c', a1, a2, a3, a4, ?_⟩
    rcases hr with h | h
    · rw [h] at a5; cases a5
    · exact h.symm.trans a5
  · have hj2 := hj
    rw [List.getElem?_append_right (by omega)] at hj
    have je : j = i := by
      have := (List.getElem?_eq_some_iff.mp hj).1
      have := F.len
      simp at *
      omega
    subst je
    rw [F.len, Nat.sub_self] at hj
    cases hj
    exact ⟨L, s, c, hL, hc, hm, hs, rfl⟩
def prodM (ns : List Nat) : Nat := ns.foldl (fun a n => a * max 1 n) 1
theorem prodM_snoc (ns : List Nat) (n : Nat) : prodM (ns ++ [n]) = prodM ns * max 1 n := by
  unfold prodM
  rw [List.foldl_append]
  rfl
theorem prodM_take (ns : List Nat) (i : Nat) : prodM (ns.take i) ≤ prodM ns := by
  have : ∀ (ms ns : List Nat), prodM ns ≤ prodM (ns ++ ms) := fun ms => by
    induction ms with
    | nil => intro ns; rw [List.append_nil]; exact Nat.le_refl _
    | cons m ms ih =>
      intro ns
      have e : ns ++ m :: ms = (ns ++ [m]) ++ ms := by simp
      rw [e]
      refine Nat.le_trans ?_ (ih _)
      rw [prodM_snoc]
      exact Nat.le_trans (Nat.le_of_eq (Nat.mul_one _).symm) (Nat.mul_le_mul_left _ (Nat.le_max_left 1 m))
  conv => rhs; rw [← List.take_append_drop i ns]
  exact this _ _
abbrev s_l_fillings : Stmt := topS 56
abbrev nFi : List Str := ["_law_lists", "_law_children", "_law_found", "_law_some", "_law_sort", "_law_step", "_law_longer", "_law_one", "_law_rank", "_law_spot_here", "_law_tree"]
theorem sc_l_fillings : FnScope nFi ["_law_lists", "_law_children"] (defScope s_l_fillings) := ⟨rfl, rfl, rfl, by decide +kernel, rfl, by decide +kernel, by decide +kernel⟩
/-- a list of lists of sound trees -/
structure Layers (H : Hp) (A : Addr) (as : List Addr) (Ls : List (List Ent)) : Prop where
  at_ : H A = some (.lst (as.map V.ref))
  len : as.length = Ls.length
  one : ∀ (i : Nat) (a : Addr) (L : List Ent), as[i]? = some a → Ls[i]? = some L → ∃ xs, H a = some (.lst xs) ∧ DtAll H xs (L.map entD)
theorem Layers.same {H H' : Hp} {A : Addr} {as : List Addr} {Ls : List (List Ent)} (s : Same H H') (X : Layers H A as Ls) : Layers H' A as Ls :=
  ⟨s _ _ X.at_, X.len, fun i a L h1 h2 => by
    obtain ⟨xs, e, d⟩ := X.one i a L h1 h2
    exact ⟨xs, s _ _ e, DtAll.same s _ _ d⟩⟩
def spFills : Sp := fun vs H Q _ => ∃ (A ch : Addr) (as ks : List Addr) (Ls : List (List Ent)) (cs : List (Str × Int)), vs = [.ref A, .ref ch] ∧ Layers H A as Ls ∧ Kids H ch ks cs ∧ Ls.length = cs.length ∧ prodM (Ls.map (·.length)) ≤ 216000 ∧
  ∀ l xs (fs : List Fil) H', Same H H' → H l = none → H' l = some (.lst xs) → DtAll H' xs (fs.map filD) → (∀ f ∈ fs, FillOk Ls cs cs.length f) → fs.length ≤ prodM (Ls.map (·.length)) → Q (.ref l) H'
theorem inV_rank (r : Option Int) (x : Int) : inV (rkV r) [.non, .int x] = decide (r = none ∨ r = some x) := by
  cases r with
  | none => rfl
  | some i =>
    show (false || ((x == i) || false)) = _
    rw [Bool.false_or, Bool.or_false]
    by_cases e : x = i
    · rw [e, beq_self_eq_true]
      exact (decide_eq_true (.inr rfl)).symm
    · rw [beq_eq_false_iff_ne.mpr e]
      exact (decide_eq_false fun z => z.elim (fun z => by cases z) fun z => e (Option.some.inj z).symm).symm
/-- a list of such trees while it grows -/
def FilI (H4 : Hp) (G : Addr) (Ls : List (List Ent)) (cs : List (Str × Int)) (i n : Nat) (H' : Hp) : Prop := (∀ b o, b ≠ G → H4 b = some o → H' b = some o) ∧ ∃ (vs : List V) (gs : List Fil), H' G = some (.lst vs) ∧ DtAll H' vs (gs.map filD) ∧ (∀ f ∈ gs, FillOk Ls cs (i + 1) f) ∧ gs.length ≤ n
theorem FilI.le {H4 H' : Hp} {G : Addr} {Ls : List (List Ent)} {cs : List (Str × Int)} {i n m : Nat} (h : FilI H4 G Ls cs i n H') (l : n ≤ m) : FilI H4 G Ls cs i m H' := by
  obtain ⟨k, vs, gs, a, b, c, d⟩ := h
  exact ⟨k, vs, gs, a, b, c, by omega⟩
theorem FilI.same {H4 H' H8 : Hp} {G : Addr} {Ls : List (List Ent)} {cs : List (Str × Int)} {i n : Nat} (h : FilI H4 G Ls cs i n H') (s : Same H' H8) : FilI H4 G Ls cs i n H8 := by
  obtain ⟨k, vs, gs, a, b, c, d⟩ := h
  exact ⟨fun b o n h => s _ _ (k b o n h), vs, gs, s _ _ a, DtAll.same s _ _ b, c, d⟩
theorem FilI.add {H4 H6 H8 : Hp} {G p3 r : Addr} {Ls : List (List Ent)} {cs : List (Str × Int)} {i n : Nat} {ys : List V} {ts : List Pic} {x : Int} (h : FilI H4 G Ls cs i n H6) (s : Same H6 H8) (e3 : H8 p3 = some (.tup [.ref r, .int x])) (er : H8 r = some (.tup ys)) (d : DtAll H8 ys (ts.map trD)) (ok : FillOk Ls cs (i + 1) (ts, some x)) :
    ∃ vs, H8 G = some (.lst vs) ∧ vs.length ≤ n ∧ FilI H4 G Ls cs i (n + 1) (upd H8 G (.lst (vs ++ [.ref p3]))) := by
  obtain ⟨k, vs, gs, a, b, c, l⟩ := h
  have eG := s _ _ a
  have vl : vs.length = gs.length := by rw [b.len, List.length_map]
  refine ⟨vs, eG, by omega, fun b o n h => by rw [upd_ne n]; exact s _ _ (k b o n h), _, gs ++ [(ts, some x)], upd_same, ?_, fun f hf => ?_, by rw [List.length_append, List.length_singleton]; omega⟩
  · refine DtAll.tups (Tups.putL _ eG) _ _ (filD_only _) ?_
    rw [List.map_append]
    exact (DtAll.same s _ _ b).app (.cons (fil_mk (f := (ts, some x)) e3 er d) .nil)
  · rcases List.mem_append.mp hf with hf | hf
    · exact c f hf
    · rw [List.mem_singleton.mp hf]
      exact ok
section
variable {P : Program} {w : World} {K : PySem.W.Frag} {mg : Str → Option Value} {base : Heap}
theorem ok_fillings (D : Df K mg "_law_fillings" s_l_fillings ["_law_lists", "_law_children"]) (z_zip : mg "zip" = none) (z_list : mg "list" = none) : Cg P w K mg base 1 "_law_fillings" spFills := by
  refine D.ok sc_l_fillings (fun vs H Q E h => ?_) (fun cdv A0 outer s H vs Q E f0 hc hr h => ?_)
  · obtain ⟨A, ch, as, ks, Ls, cs, rfl, _⟩ := h
    rfl
  · obtain ⟨A, ch, as, ks, Ls, cs, rfl, X, kk, ll, lim, q⟩ := h
    refine ⟨_, (pss_cons (ps_set (i := 2) sc_l_fillings.nd rfl (Or.inl rfl) (pe_lst (pa_cons (pe_tup (pa_cons (pe_tup pa_nil) (pa_cons pe_non pa_nil))) pa_nil)))
      (pss_cons (ps_for PassesOwn.never rfl (pi_zipM (by rfl) z_zip (pa_cons (pv 0) (pa_cons (pv 1) pa_nil))) (pg_tup (by rfl) (pgs_cons (pg_name (i := 3) sc_l_fillings.nd rfl (Or.inl rfl)) (pgs_cons (pg_tup (by rfl) (pgs_cons (pg_name (i := 4) sc_l_fillings.nd rfl (Or.inl rfl)) (pgs_cons (pg_name (i := 5) sc_l_fillings.nd rfl (Or.inl rfl)) pgs_nil))) pgs_nil)))
      (pss_cons (ps_set (i := 6) sc_l_fillings.nd rfl (Or.inl rfl) (pe_lst pa_nil))
      (pss_cons (ps_for PassesOwn.never rfl (pi_list (pv 2)) (pg_tup (by rfl) (pgs_cons (pg_name (i := 7) sc_l_fillings.nd rfl (Or.inl rfl)) (pgs_cons (pg_name (i := 8) sc_l_fillings.nd rfl (Or.inl rfl)) pgs_nil)))
      (pss_one (ps_for PassesOwn.never rfl (pi_list (pv 3)) (pg_tup (by rfl) (pgs_cons (pg_name (i := 9) sc_l_fillings.nd rfl (Or.inl rfl)) (pgs_cons (pg_name (i := 10) sc_l_fillings.nd rfl (Or.inl rfl)) pgs_nil)))
      (pss_one (ps_if (PW.pt (pw_and (pt_cmpR op_eq (pe_ix (ix_tup : IxR _ (rIxT K)) (pv 9) pe_int (fun _ _ => rfl)) (pv 4) (nomark _)) (pw_and1 (pt_cmpR op_in_seq (pv 8) (pe_tup (pa_cons pe_non (pa_cons (pe_op op_add (pe_ix (ix_tup : IxR _ (rIxT K)) (pv 9) pe_int (fun _ _ => rfl)) (pv 5)) pa_nil))) (by rfl)))))
      (pss_one (ps_expr (pe_bm PySem.F.plainAttrs_list PySem.F.slot_list_append PySem.F.type_list_append mt_append (pv 6) (pa_cons (pe_tup (pa_cons (pe_op (op_catA : OpR _ _ (rCatA K)) (pv 7) (pe_tup (pa_cons (pv 10) pa_nil))) (pa_cons (pe_op op_add (pe_ix (ix_tup : IxR _ (rIxT K)) (pv 9) pe_int (fun _ _ => rfl)) (pv 5)) pa_nil))) pa_nil))))
      pss_nil)))))
      (pss_one (ps_set (i := 2) sc_l_fillings.nd rfl (Or.inl rfl) (pe_callTy call_list_of (by rfl) z_list (by decide +kernel) (pa_cons (pv 6) pa_nil)))))))
      (pss_one (ps_ret (pv 2))))), ?_⟩
    have kl := kk.len
    have k4 := kk.hi
    refine ⟨by show 0 ≤ sizeLine; decide, fun p0 np0 => ⟨by show 2 ≤ sizeLine; decide, fun p1 np1 => ⟨by show 1 ≤ sizeLine; decide, fun R nR => ?_⟩⟩⟩
    have s0 := same_new (o := .tup []) np0
    have s1 := same_new (o := .tup [.ref p0, .non]) np1
    have sR := same_new (o := .lst [.ref p1]) nR
    have dR : DtAll (upd (upd (upd H p0 (.tup [])) p1 (.tup [.ref p0, .non])) R (.lst [.ref p1])) [.ref p1] ([(([], none) : Fil)].map filD) := .cons (fil_mk (f := ([], none)) (sR _ _ upd_same) (sR _ _ (s1 _ _ upd_same)) .nil) .nil
    have eR : (upd (upd (upd H p0 (.tup [])) p1 (.tup [.ref p0, .non])) R (.lst [.ref p1])) R = some (.lst [.ref p1]) := upd_same
    have sA := (s0.trans s1).trans sR
    have nRH : H R = none := same_none (s0.trans s1) nR
    generalize upd (upd (upd H p0 (.tup [])) p1 (.tup [.ref p0, .non])) R (.lst [.ref p1]) = H1 at dR eR sA ⊢
    refine ⟨_, rfl, _, rfl, A, ch, as.map V.ref, ks.map V.ref, rfl, .inl (.inl (sA _ _ X.at_)), .inl (.inl (sA _ _ kk.at_)), ?_⟩
    refine for_zipM (K := K) (a := A) (b := ch) (xs := as.map V.ref) (ys := ks.map V.ref) (by rw [List.length_map, List.length_map, X.len, ll, kl]) (fun i σ H' => ∃ (F : Addr) (o3 o4 o5 o6 o7 o8 o9 o10 : Option V) (us : List V) (fs : List Fil), σ = [some (.ref A), some (.ref ch), some (.ref F), o3, o4, o5, o6, o7, o8, o9, o10] ∧ Same H H' ∧ H F = none ∧ H' F = some (.lst us) ∧ DtAll H' us (fs.map filD) ∧ (∀ f ∈ fs, FillOk Ls cs i f) ∧ fs.length ≤ prodM ((Ls.map (·.length)).take i))
      ⟨R, none, none, none, none, none, none, none, none, _, _, rfl, sA, nRH, eR, dR, fun f hf => by rw [List.mem_singleton.mp hf]; exact FillOk.zero _ _, Nat.le_refl _⟩ (fun i σ H' h => ?_) (fun i y1 y2 T σ H2 hy1 hy2 h nT => ?_) (fun σ H2 h => ?_)
    · obtain ⟨F, o3, o4, o5, o6, o7, o8, o9, o10, us, fs, rfl, s2, nF, eF, du, ok, few⟩ := h
      exact ⟨.inl (.inl (s2 _ _ X.at_)), .inl (.inl (s2 _ _ kk.at_))⟩
    · obtain ⟨F, o3, o4, o5, o6, o7, o8, o9, o10, us, fs, rfl, s2, nF, eF, du, ok, few⟩ := h
      rw [List.getElem?_map] at hy1 hy2
      obtain ⟨La, hLa, rfl⟩ := Option.map_eq_some_iff.mp hy1
      obtain ⟨t1, ht1, rfl⟩ := Option.map_eq_some_iff.mp hy2
      obtain ⟨⟨c1, c2⟩, hc', kt⟩ := kk.get ht1
      have il : i < Ls.length := by
        have := (List.getElem?_eq_some_iff.mp hLa).1
        have := X.len
        omega
      have hL : Ls[i]? = some Ls[i] := List.getElem?_eq_getElem il
      have tkL : (Ls.map (·.length)).take (i + 1) = (Ls.map (·.length)).take i ++ [Ls[i].length] := by rw [List.take_add_one, List.getElem?_map, hL]; rfl
      obtain ⟨ys, eL, dL⟩ := X.one i La _ hLa hL
      generalize Ls[i] = L at hL tkL dL
      have pr1 : prodM ((Ls.map (·.length)).take i) * max 1 L.length ≤ 216000 := by
        have := prodM_take (Ls.map (·.length)) (i + 1)
        rw [tkL, prodM_snoc] at this
        omega
      have sT := same_new (o := .tup [.ref La, .ref t1]) nT
      have s3 := s2.trans sT
      have eF3 := sT _ _ eF
      have du3 := DtAll.same sT _ _ du
      have eT : (upd H2 T (.tup [.ref La, .ref t1])) T = some (.tup [.ref La, .ref t1]) := upd_same
      generalize upd H2 T (.tup [.ref La, .ref t1]) = H3 at s3 eF3 du3 eT ⊢
      refine ⟨T, _, rfl, .inl (.inl eT), rfl, .ref La, _, rfl, .ref t1, _, rfl, t1, _, rfl, .inl (.inl (s3 _ _ kt.at_)), rfl, .str c1, _, rfl, .int c2, _, rfl, rfl, rfl, by show 0 ≤ sizeLine; decide, fun G nG => ?_⟩
      have sG := same_new (o := .lst []) nG
      have s4 := s3.trans sG
      have eF4 := sG _ _ eF3
      have du4 := DtAll.same sG _ _ du3
      have eG : (upd H3 G (.lst [])) G = some (.lst []) := upd_same
      have nGH := same_none s3 nG
      have GF : F ≠ G := fun z => by rw [z, nG] at eF3; cases eF3
      generalize upd H3 G (.lst []) = H4 at s4 eF4 du4 eG ⊢
      have eL4 := s4 _ _ eL
      have dL4 := DtAll.same s4 _ _ dL
      have LG : La ≠ G := fun z => by rw [z, nGH] at eL; cases eL
      have fl : fs.length = us.length := by have := du.len; rw [List.length_map] at this; exact this.symm
      have Ll : L.length = ys.length := by have := dL.len; rw [List.length_map] at this; exact this.symm
      have fp : fs.length ≤ prodM ((Ls.map (·.length)).take i) := few
      have bnd : ∀ j, j < us.length → ∀ k, k < ys.length → j * L.length + k < sizeLine := fun j hj k hk => by
        have h1 : (j + 1) * L.length ≤ prodM ((Ls.map (·.length)).take i) * max 1 L.length := Nat.mul_le_mul (by omega) (Nat.le_max_right 1 _)
        rw [Nat.succ_mul] at h1
        exact Nat.lt_of_lt_of_le (show _ < 216001 by omega) (by decide)
      refine ⟨_, rfl, F, rfl, ⟨_, .inl (.inl eF4)⟩, ?_⟩
      refine for_list (K := K) (a := F) (xs := us) (fun j σ H' => (∃ o7 o8 o9 o10 : Option V, σ = [some (.ref A), some (.ref ch), some (.ref F), some (.ref La), some (.str c1), some (.int c2), some (.ref G), o7, o8, o9, o10]) ∧ FilI H4 G Ls cs i (j * L.length) H')
        ⟨⟨o7, o8, o9, o10, rfl⟩, fun _ _ _ e => e, [], [], eG, .nil, (fun f h => nomatch h), Nat.zero_le _⟩ (fun j σ H' _ h => .inl (.inl (h.2.1 _ _ GF eF4))) (fun j x σ H5 hx h => ?_) (fun σ H5 h => ?_)
      · obtain ⟨⟨o7, o8, o9, o10, rfl⟩, I5⟩ := h
        have tup4 : ∀ {H' : Hp} {n : Nat}, FilI H4 G Ls cs i n H' → Tups H4 H' := fun I b xs hb => I.1 b _ (fun z => by rw [z, eG] at hb; cases hb) hb
        have jl := (List.getElem?_eq_some_iff.mp hx).1
        obtain ⟨dd, hdd, kd⟩ := du4.get hx
        have jf : j < fs.length := by omega
        rw [List.getElem?_map, List.getElem?_eq_getElem jf] at hdd
        have okf := ok _ (List.getElem_mem jf)
        generalize fs[j] = f at hdd okf
        cases hdd
        obtain ⟨xa, qa, xs1, rfl, hxa, hqa, dqa⟩ := fil_inv kd
        have xs4 : xs1.length ≤ 4 := by
          rw [dqa.len, List.length_map, okf.len]
          omega
        refine ⟨xa, _, rfl, .inl (.inl (tup4 I5 _ _ hxa)), rfl, .ref qa, _, rfl, rkV f.2, _, rfl, rfl, _, rfl, La, rfl, ⟨_, .inl (.inl (I5.1 _ _ LG eL4))⟩, ?_⟩
        refine for_list (K := K) (a := La) (xs := ys) (fun k σ H' => (∃ o9 o10 : Option V, σ = [some (.ref A), some (.ref ch), some (.ref F), some (.ref La), some (.str c1), some (.int c2), some (.ref G), some (.ref qa), some (rkV f.2), o9, o10]) ∧ FilI H4 G Ls cs i (j * L.length + k) H')
          ⟨⟨o9, o10, rfl⟩, I5⟩ (fun k σ H' _ h => .inl (.inl (h.2.1 _ _ LG eL4))) (fun k y σ H6 hy h => ?_) (fun σ H6 h => ?_)
        · obtain ⟨⟨o9, o10, rfl⟩, I6⟩ := h
          have kl := (List.getElem?_eq_some_iff.mp hy).1
          obtain ⟨dd, hdd, kd2⟩ := dL4.get hy
          have kL : k < L.length := by omega
          rw [List.getElem?_map, List.getElem?_eq_getElem kL] at hdd
          have me := List.getElem_mem kL
          generalize L[k] = e at hdd me
          cases hdd
          obtain ⟨ea, st, tv, rfl, hea, hst, dtv⟩ := ent_inv kd2
          obtain ⟨⟨s1', s2'⟩, t⟩ := e
          have T6 := tup4 I6
          have hst6 := T6 _ _ hst
          have nx : FilI H4 G Ls cs i (j * L.length + (k + 1)) H6 := I6.le (by omega)
          refine ⟨ea, _, rfl, .inl (.inl (T6 _ _ hea)), rfl, .ref st, _, rfl, tv, _, rfl, rfl, _, rfl, st, _, 0, _, rfl, rfl, .inl (.inl hst6), rfl, _, rfl, rfl, _, rfl, ?_⟩
          by_cases es : s1' = c1
          · rw [decide_eq_true (show V.str s1' = V.str c1 by rw [es])]
            refine iteT ⟨_, rfl, _, rfl, st, _, 1, _, rfl, rfl, .inl (.inl hst6), rfl, _, rfl, _, _, rfl, rfl, by show 2 ≤ sizeLine; decide, fun p np => ⟨p, _, rfl, .inr (.inl (.inl upd_same)), ?_, rfl, _, rfl, ?_⟩⟩
            · cases f.2 <;> rfl
            have sp := same_new (o := .tup [.non, .int (s2' + c2)]) np
            show (if (if false = true then _ else inV (rkV f.2) [.non, .int (s2' + c2)]) = true then _ else _)
            rw [if_neg (by simp : ¬ false = true), inV_rank]
            generalize upd H6 p (.tup [.non, .int (s2' + c2)]) = H7 at sp ⊢
            have I7 := I6.same sp
            have T7 := tup4 I7
            by_cases er : f.2 = none ∨ f.2 = some (s2' + c2)
            · rw [decide_eq_true er]
              obtain ⟨_, vs7, gs7, eG7, _⟩ := id I7
              refine iteT ⟨.ref G, rfl, .inl ⟨rfl, _, .inl (.inl eG7)⟩, _, rfl, _, rfl, by show 1 ≤ sizeLine; decide, fun p8 np8 => ?_⟩
              have s8 := same_new (o := .tup [tv]) np8
              have e8 : (upd H7 p8 (.tup [tv])) p8 = some (.tup [tv]) := upd_same
              generalize upd H7 p8 (.tup [tv]) = H8 at s8 e8 ⊢
              have T8 := T7.trans (Tups.of s8)
              have ok' : FillOk Ls cs (i + 1) (f.1 ++ [t], some (s2' + c2)) := FillOk.step (L := L) (c := (c1, c2)) (s := (s1', s2')) okf hL hc' me es er
              have ds : ∀ {H9 : Hp}, Same H8 H9 → DtAll H9 (xs1 ++ [tv]) ((f.1 ++ [t]).map trD) := fun {H9} s9 => by
                rw [List.map_append]
                exact (DtAll.tups (T8.trans (Tups.of s9)) _ _ (trDs_only _) dqa).app (.cons (Dt.tups (T8.trans (Tups.of s9)) _ _ (trD_only _) dtv) .nil)
              have fin : ∀ (r : Addr) (H9 : Hp), Same H8 H9 → H9 r = some (.tup (xs1 ++ [tv])) → ∀ p3, H9 p3 = none → ∃ vs, (upd H9 p3 (.tup [.ref r, .int (s2' + c2)])) G = some (.lst vs) ∧ vs.length < sizeLine ∧ FilI H4 G Ls cs i (j * L.length + (k + 1)) (upd (upd H9 p3 (.tup [.ref r, .int (s2' + c2)])) G (.lst (vs ++ [.ref p3]))) := fun r H9 s9 e9 p3 n3 => by
                have s3 := same_new (o := .tup [.ref r, .int (s2' + c2)]) n3
                obtain ⟨vs, a, b, c⟩ := I7.add (p3 := p3) (s8.trans (s9.trans s3)) upd_same (s3 _ _ e9) (ds (s9.trans s3)) ok'
                exact ⟨vs, a, Nat.lt_of_le_of_lt b (bnd j jl k kl), c⟩
              refine ⟨qa, p8, xs1, [tv], rfl, rfl, .inl (.inl (T8 _ _ hqa)), .inl (.inl e8), by simp only [List.length_singleton]; exact Nat.le_trans (show _ ≤ 5 by omega) (by decide), fun z => ?_, (fun _ z => nomatch z), fun _ _ p9 np9 => ?_⟩
              · refine ⟨_, rfl, st, _, 1, _, rfl, rfl, .inl (.inl (T8 _ _ hst)), rfl, _, rfl, _, _, rfl, rfl, by show 2 ≤ sizeLine; decide, fun p3 np3 => ?_⟩
                obtain ⟨vs, a, b, c⟩ := fin p8 H8 (Same.refl _) (by rw [z]; exact e8) p3 np3
                exact ⟨G, vs, _, rfl, rfl, a, b, ⟨_, _, rfl⟩, c⟩
              · have s9 := same_new (o := .tup (xs1 ++ [tv])) np9
                refine ⟨_, rfl, st, _, 1, _, rfl, rfl, .inl (.inl (s9 _ _ (T8 _ _ hst))), rfl, _, rfl, _, _, rfl, rfl, by show 2 ≤ sizeLine; decide, fun p3 np3 => ?_⟩
                obtain ⟨vs, a, b, c⟩ := fin p9 _ s9 upd_same p3 np3
                exact ⟨G, vs, _, rfl, rfl, a, b, ⟨_, _, rfl⟩, c⟩
            · rw [decide_eq_false er]
              exact iteF ⟨⟨_, _, rfl⟩, nx.same sp⟩
          · rw [decide_eq_false (show ¬ V.str s1' = V.str c1 from fun z => es (V.str.inj z))]
            exact iteF (iteF ⟨⟨_, _, rfl⟩, nx⟩)
        · obtain ⟨⟨o9, o10, rfl⟩, I6⟩ := h
          refine ⟨⟨_, _, _, _, rfl⟩, I6.le ?_⟩
          rw [Nat.succ_mul, Ll]
          exact Nat.le_refl _
      · obtain ⟨⟨o7, o8, o9, o10, rfl⟩, I5⟩ := h
        obtain ⟨k5, vs, gs, eG5, dv, okg, fewg⟩ := id I5
        refine ⟨_, rfl, G, vs, rfl, .inl (.inl (.inl eG5)), fun l nl => ?_⟩
        have sl := same_new (o := .lst vs) nl
        have s45 : Same H H5 := fun b o hb => k5 _ _ (ne_of_none hb nGH) (s4 _ _ hb)
        refine ⟨l, _, _, _, _, _, _, _, _, vs, gs, rfl, s45.trans sl, same_none s45 nl, upd_same, DtAll.same sl _ _ dv, okg, ?_⟩
        rw [tkL, prodM_snoc]
        refine Nat.le_trans fewg ?_
        exact Nat.mul_le_mul (by omega) (Nat.le_max_right 1 _)
    · obtain ⟨F, o3, o4, o5, o6, o7, o8, o9, o10, us, fs, rfl, s2, nF, eF, du, ok, few⟩ := h
      rw [List.length_map] at ok few
      rw [X.len, ll] at ok
      refine ⟨_, rfl, q F us fs H2 s2 nF eF du ok ?_⟩
      rw [List.take_of_length_le (by rw [List.length_map, X.len]; exact Nat.le_refl _)] at few
      exact few
end
end K11
set_option Elab.async false
set_option linter.all false
set_option autoImplicit false
set_option maxRecDepth 100000
set_option maxHeartbeats 4000000
namespace K11
open PySem PySem.Spec PyProof.Rows L2 Vb Wd Xd Xo Xv SX Pc Zc Oi RZ Zt Zk Of Og Oh Ot Zm Fh
/-! ### sound trees with few keys -/
/-- a sound tree with its spot -/
structure EntOk (ds : List FD) (b : Str) (m : Nat) (e : Ent) : Prop where
  spot : spotT b ds e.2 = some e.1
  fit : fits ds e.2 = true
  lev : e.2.lev ≤ m
  lo : 0 ≤ e.1.2
  hi : e.1.2 ≤ 3 * (m : Int)
  sort : e.1.1 = b ∨ ∃ r ∈ ds, e.1.1 = r.2.1
theorem EntOk.le {ds : List FD} {b : Str} {m n : Nat} {e : Ent} (h : EntOk ds b m e) (l : m ≤ n) : EntOk ds b n e := ⟨h.spot, h.fit, Nat.le_trans h.lev l, h.lo, by have := h.hi; omega, h.sort⟩
theorem EntOk.hole (ds : List FD) (b : Str) : EntOk ds b 0 ((b, 0), .hole) := ⟨rfl, rfl, Nat.le_refl _, Int.le_refl _, Int.le_refl _, .inl rfl⟩
theorem sameL_rep (n : Nat) (x : Int) : sameL (List.replicate n x) = true := by
  cases n with
  | zero => rfl
  | succ n =>
    refine List.all_eq_true.mpr fun y hy => decide_eq_true ?_
    exact (List.mem_replicate.mp hy).2
theorem levL_le {ps : List Pic} {m : Nat} (h : ∀ p ∈ ps, p.lev ≤ m) : levL ps ≤ m := by
  cases ps with
  | nil => exact Nat.zero_le _
  | cons p ps =>
    obtain ⟨q, hq, e⟩ := levL_mem (ps := p :: ps) (List.cons_ne_nil _ _)
    rw [← e]
    exact h q hq
theorem EntOk.node {ds : List FD} {b : Str} {k : Nat} {n : List Nat} {d : FD} {Ls : List (List Ent)} {ts : List Pic} {r : Option Int} (ef : formOf ds n = some d) (hd : d ∈ ds) (l1 : 1 ≤ d.2.2.length) (steps : ∀ c ∈ d.2.2, 0 ≤ c.2 ∧ c.2 ≤ 3)
    (all : ∀ L ∈ Ls, ∀ e ∈ L, EntOk ds b k e) (F : FillOk Ls d.2.2 d.2.2.length (ts, r)) : ∃ x, r = some x ∧ EntOk ds b (k + 1) ((d.2.1, x), .node n ts) := by
  have tl : ts.length = d.2.2.length := F.len
  have t0 : 0 < ts.length := by omega
  obtain ⟨L0, s0, c0, a1, a2, a3, a4, a5⟩ := F.at_ 0 (ts[0]'t0) (List.getElem?_eq_getElem t0)
  have a5 : r = some (s0.2 + c0.2) := a5
  have e0 := all L0 (List.mem_of_getElem? a1) _ a3
  have b0 := steps c0 (List.mem_of_getElem? a2)
  have h1 : 0 ≤ s0.2 := e0.lo
  have h2 : s0.2 ≤ 3 * (k : Int) := e0.hi
  have each : ∀ (j : Nat) (t : Pic), ts[j]? = some t → ∃ s c, d.2.2[j]? = some c ∧ spotT b ds t = some s ∧ fits ds t = true ∧ t.lev ≤ k ∧ s.1 = c.1 ∧ s0.2 + c0.2 = s.2 + c.2 := fun j t hj => by
    obtain ⟨L, s, c, b1, b2, b3, b4, b5⟩ := F.at_ j t hj
    have e := all L (List.mem_of_getElem? b1) _ b3
    have b5 : r = some (s.2 + c.2) := b5
    rw [a5] at b5
    exact ⟨s, c, b2, e.spot, e.fit, e.lev, b4, Option.some.inj b5⟩
  refine ⟨_, a5, ?_, ?_, ?_, ?_, ?_, .inr ⟨d, hd, rfl⟩⟩
  · show spotT b ds (.node n ts) = some (d.2.1, s0.2 + c0.2)
    rw [spotT_node ef, okRes_of (ls := List.replicate d.2.2.length (s0.2 + c0.2)) (by rw [spotTL_len, tl]) (by rw [List.length_replicate]) fun j c hc => ?_]
    · show (if sameL _ = true then some (d.2.1, _) else none) = _
      rw [if_pos (sameL_rep _ _)]
      cases e : d.2.2.length with
      | zero => omega
      | succ m => rfl
    · have jl := (List.getElem?_eq_some_iff.mp hc).1
      have hj : ts[j]? = some ts[j] := List.getElem?_eq_getElem (by omega)
      obtain ⟨s, c', b2, b3, _, _, b4, b5⟩ := each j _ hj
      rw [hc] at b2
      cases b2
      refine ⟨s, by rw [spotTL_at hj, b3], b4, ?_⟩
      rw [List.getElem?_replicate, if_pos jl, b5]
  · show (formed ds (.node n ts) && fitsL ds ts) = true
    rw [formed_yes ef, decide_eq_true tl.symm, Bool.true_and, fitsL_all, List.all_eq_true]
    intro t ht
    obtain ⟨j, hj, e⟩ := List.mem_iff_getElem.mp ht
    obtain ⟨_, _, _, _, f, _⟩ := each j t (by rw [List.getElem?_eq_getElem hj, e])
    exact f
  · show 1 + levL ts ≤ k + 1
    have := levL_le (ps := ts) (m := k) fun t ht => by
      obtain ⟨j, hj, e⟩ := List.mem_iff_getElem.mp ht
      obtain ⟨_, _, _, _, _, l, _⟩ := each j t (by rw [List.getElem?_eq_getElem hj, e])
      exact l
    omega
  · show 0 ≤ s0.2 + c0.2
    omega
  · show s0.2 + c0.2 ≤ 3 * ((k + 1 : Nat) : Int)
    omega
/-- the parts of a split have few trees -/
theorem prod_splits {Ls : List (List Ent)} {l : List Nat} (h0 : ∀ L, Ls[0]? = some L → L.length ≤ 1) (h60 : ∀ L ∈ Ls, L.length ≤ 60) (lt : ∀ n ∈ l, n < Ls.length) (few : (l.filter fun n => decide (n ≠ 0)).length ≤ 3) :
    prodM (l.map fun n => (Ls.getD n []).length) ≤ 216000 := by
  have main : ∀ l : List Nat, (∀ n ∈ l, n < Ls.length) → prodM (l.reverse.map fun n => (Ls.getD n []).length) ≤ 60 ^ (l.reverse.filter fun n => decide (n ≠ 0)).length := fun l => by
    induction l with
    | nil => intro _; exact Nat.le_refl _
    | cons n l ih =>
      intro lt
      have ih := ih fun m hm => lt m (List.mem_cons_of_mem _ hm)
      have ln := lt n (List.mem_cons_self ..)
      have en : Ls.getD n [] = Ls[n] := by rw [List.getD_eq_getElem?_getD, List.getElem?_eq_getElem ln]; rfl
      rw [List.reverse_cons, List.map_append, List.map_cons, List.map_nil, prodM_snoc, List.filter_append, List.length_append]
      by_cases z : n = 0
      · subst z
        have := h0 _ (List.getElem?_eq_getElem ln)
        rw [en, Nat.max_eq_left this, Nat.mul_one]
        simpa using ih
      · have := h60 _ (List.getElem_mem ln)
        have e1 : ([n].filter fun n => decide (n ≠ 0)).length = 1 := by simp [z]
        rw [en, e1, Nat.pow_succ]
        exact Nat.mul_le_mul ih (Nat.max_le.mpr ⟨by decide, this⟩)
  have main := main l.reverse fun n hn => lt n (List.mem_reverse.mp hn)
  rw [List.reverse_reverse] at main
  refine Nat.le_trans main ?_
  exact Nat.le_trans (Nat.pow_le_pow_right (by decide) few) (by decide)
end K11
set_option Elab.async false
set_option linter.all false
set_option autoImplicit false
set_option maxRecDepth 100000
set_option maxHeartbeats 4000000
namespace K11
open PySem PySem.Spec PyProof.Rows L2 Vb Wd Xd Xo Xv SX Pc Zc Oi RZ Zt Zk Of Og Oh Ot Zm Fh
theorem join_at {te : TE} {σ : L2.St} {H : Hp} {Q : VK} (I : V → Hp → Prop) (h1 : ∀ Q' : VK, (∀ v H', I v H' → Q' v H') → te σ H Q') (h2 : ∀ v H', I v H' → Q v H') : te σ H Q := h1 Q h2
/-- a list of trees while it grows -/
def LayI (H1 : Hp) (Y : Addr) (ds : List FD) (b : Str) (k n : Nat) (H' : Hp) : Prop := (∀ c o, c ≠ Y → H1 c = some o → H' c = some o) ∧ ∃ (us : List V) (es : List Ent), H' Y = some (.lst us) ∧ DtAll H' us (es.map entD) ∧ (∀ e ∈ es, EntOk ds b k e) ∧ es.length ≤ n
theorem LayI.le {H1 H' : Hp} {Y : Addr} {ds : List FD} {b : Str} {k n m : Nat} (h : LayI H1 Y ds b k n H') (l : n ≤ m) : LayI H1 Y ds b k m H' := by
  obtain ⟨q, us, es, a, c, d, e⟩ := h
  exact ⟨q, us, es, a, c, d, by omega⟩
theorem LayI.same {H1 H' H8 : Hp} {Y : Addr} {ds : List FD} {b : Str} {k n : Nat} (h : LayI H1 Y ds b k n H') (s : Same H' H8) : LayI H1 Y ds b k n H8 := by
  obtain ⟨q, us, es, a, c, d, e⟩ := h
  exact ⟨fun b o n h => s _ _ (q b o n h), us, es, s _ _ a, DtAll.same s _ _ c, d, e⟩
theorem LayI.add {H1 H6 H8 : Hp} {Y p : Addr} {ds : List FD} {b : Str} {k n : Nat} {e : Ent} (h : LayI H1 Y ds b k n H6) (s : Same H6 H8) (he : Dt H8 (.ref p) (entD e)) (ok : EntOk ds b k e) :
    ∃ us, H8 Y = some (.lst us) ∧ us.length ≤ n ∧ LayI H1 Y ds b k (n + 1) (upd H8 Y (.lst (us ++ [.ref p]))) := by
  obtain ⟨q, us, es, a, c, d, l⟩ := h
  have eY := s _ _ a
  have ul : us.length = es.length := by rw [c.len, List.length_map]
  refine ⟨us, eY, by omega, fun b o n h => by rw [upd_ne n]; exact s _ _ (q b o n h), _, es ++ [e], upd_same, ?_, fun f hf => ?_, by rw [List.length_append, List.length_singleton]; omega⟩
  · refine DtAll.tups (Tups.putL _ eY) _ _ (entD_only _) ?_
    rw [List.map_append]
    exact (DtAll.same s _ _ c).app (.cons he .nil)
  · rcases List.mem_append.mp hf with hf | hf
    · exact d f hf
    · rw [List.mem_singleton.mp hf]
      exact ok
theorem Layers.but {H H' : Hp} {A Y : Addr} {as : List Addr} {Ls : List (List Ent)} (nY : H Y = none) (k : ∀ c o, c ≠ Y → H c = some o → H' c = some o) (X : Layers H A as Ls) : Layers H' A as Ls :=
  X.same fun c o h => k c o (ne_of_none h nY) h
abbrev s_l_sound_trees : Stmt := topS 58
abbrev nSt : List Str := ["_law_plain", "_law_most", "_law_cap", "_law_found", "_law_total", "_law_keys", "_law_layer", "_law_name", "_law_sort", "_law_children", "_law_splits_here", "_law_split", "_law_trees", "_law_rank", "_law_size"]
theorem sc_l_sound_trees : FnScope nSt ["_law_plain", "_law_most", "_law_cap"] (defScope s_l_sound_trees) := ⟨rfl, rfl, rfl, by decide +kernel, rfl, by decide +kernel, by decide +kernel⟩
theorem mem_sum {n : Nat} : ∀ {l : List Nat}, n ∈ l → n ≤ l.sum
  | [], h => nomatch h
  | x :: xs, h => by
    rw [List.sum_cons]
    rcases List.mem_cons.mp h with rfl | h
    · omega
    · have := mem_sum h
      omega
/-- layers as they are found -/
structure Found (ds : List FD) (b : Str) (Ls : List (List Ent)) : Prop where
  zero : ∃ e, Ls[0]? = some [e]
  ok : ∀ (j : Nat) (L : List Ent), Ls[j]? = some L → ∀ e ∈ L, EntOk ds b j e
  few : (Ls.map (·.length)).sum ≤ 60
theorem Found.h60 {ds : List FD} {b : Str} {Ls : List (List Ent)} (F : Found ds b Ls) : ∀ L ∈ Ls, L.length ≤ 60 := fun L hL => Nat.le_trans (mem_sum (List.mem_map.mpr ⟨L, hL, rfl⟩)) F.few
def spTrees : Sp := fun vs H Q _ => ∃ (a tl tb : Addr) (b : Str) (ts : List Str) (ps : List (FD × Addr)), vs = [.ref a, .int 5, .int 60] ∧ HeldR H a tl tb b ts ps ∧ PlainOk (ps.map (·.1)) ∧ ps.length ≤ 5 ∧
  ∀ A as Ls H', Same H H' → H A = none → Layers H' A as Ls → Found (ps.map (·.1)) b Ls → Ls.length ≤ 6 → Q (.ref A) H'
section
variable {P : Program} {w : World} {K : PySem.W.Frag} {mg : Str → Option Value} {base : Heap}
theorem ok_sound_trees (D : Df K mg "_law_sound_trees" s_l_sound_trees ["_law_plain", "_law_most", "_law_cap"]) (G_l_splits : Cg P w K mg base 6 "_law_splits" (spSplits 5)) (G_l_fillings : Cg P w K mg base 1 "_law_fillings" spFills) (z_range : mg "range" = none) (z_sorted : mg "sorted" = none) (z_len : mg "len" = none) : Cg P w K mg base 7 "_law_sound_trees" spTrees := by
  refine D.ok sc_l_sound_trees (fun vs H Q E h => ?_) (fun cdv A0 outer s H vs Q E f0 hc hr h => ?_)
  · obtain ⟨a, tl, tb, b, ts, ps, rfl, _⟩ := h
    rfl
  · obtain ⟨a, tl, tb, b, ts, fs, rfl, X, O, f5, q⟩ := h
    refine ⟨_, (pss_cons (ps_asg (pe_tup (pa_cons (pe_lst (pa_cons (pe_lst (pa_cons (pe_tup (pa_cons (pe_tup (pa_cons (pe_ix (ix_list : IxR _ (rIxL K)) (pv 0) pe_int (fun _ _ => rfl)) (pa_cons pe_int pa_nil))) (pa_cons pe_non pa_nil))) pa_nil)) pa_nil)) (pa_cons pe_int pa_nil))) (pg_tup (by rfl) (pgs_cons (pg_name (i := 3) sc_l_sound_trees.nd rfl (Or.inr rfl)) (pgs_cons (pg_name (i := 4) sc_l_sound_trees.nd rfl (Or.inl rfl)) pgs_nil))))
      (pss_cons (ps_for PassesOwn.never rfl (pi_range2 (by rfl) z_range (pa_cons pe_int (pa_cons (pe_op op_add (pv 1) pe_int) pa_nil))) (pg_name (i := 5) sc_l_sound_trees.nd rfl (Or.inl rfl))
      (pss_cons (ps_set (i := 6) sc_l_sound_trees.nd rfl (Or.inl rfl) (pe_lst pa_nil))
      (pss_cons (ps_for PassesOwn.never rfl (pi_list (pe_callB (call_sortedD rfl) (by rfl) z_sorted (by decide +kernel) (pa_cons (pe_ix (ix_list : IxR _ (rIxL K)) (pv 0) pe_int (fun _ _ => rfl)) pa_nil))) (pg_name (i := 7) sc_l_sound_trees.nd rfl (Or.inl rfl))
      (pss_cons (ps_asg (pe_dget (hu_of hr) (pe_ix (ix_list : IxR _ (rIxL K)) (pv 0) pe_int (fun _ _ => rfl)) (pv 7) (fun _ _ => rfl)) (pg_tup (by rfl) (pgs_cons (pg_name (i := 8) sc_l_sound_trees.nd rfl (Or.inl rfl)) (pgs_cons (pg_name (i := 9) sc_l_sound_trees.nd rfl (Or.inl rfl)) pgs_nil))))
      (pss_cons (ps_set (i := 10) sc_l_sound_trees.nd rfl (Or.inl rfl) (pe_ifExp (pt_cmpR op_ge (pe_op op_add (pv 5) pe_int) (pe_callB call_len_seq (by rfl) z_len PySem.boot_len (pa_cons (pv 9) pa_nil)) (nomark _)) (pe_cg G_l_splits hc hr (by rfl) (pa_cons (pe_op op_sub (pe_op op_add (pv 5) pe_int) (pe_callB call_len_seq (by rfl) z_len PySem.boot_len (pa_cons (pv 9) pa_nil))) (pa_cons (pe_callB call_len_seq (by rfl) z_len PySem.boot_len (pa_cons (pv 9) pa_nil)) pa_nil))) (pe_lst pa_nil)))
      (pss_cons (ps_for PassesOwn.never rfl (pi_list (pv 10)) (pg_name (i := 11) sc_l_sound_trees.nd rfl (Or.inl rfl))
      (pss_one (ps_for PassesOwn.never rfl (pi_list (pe_cg G_l_fillings hc hr (by rfl) (pa_cons (pe_lc (own := [("_law_size", 14)]) (g := gName 14) (by rfl) sc_l_sound_trees.nd (pi_tup (pv 11)) (blkOk_by (own := [("_law_size", 14)]) (N := nSt) (sc := defScope s_l_sound_trees) (by decide +kernel)) (fun _ _ _ _ _ => pg_name (i := 14) sc_l_sound_trees.nd rfl (Or.inl rfl)) (fun _ _ _ _ _ => pts_nil) (fun _ _ _ _ _ => (pe_ix (ix_list : IxR _ (rIxL K)) (pv 3) (pv 14) (fun _ _ => rfl)))) (pa_cons (pv 9) pa_nil)))) (pg_tup (by rfl) (pgs_cons (pg_name (i := 12) sc_l_sound_trees.nd rfl (Or.inl rfl)) (pgs_cons (pg_name (i := 13) sc_l_sound_trees.nd rfl (Or.inl rfl)) pgs_nil)))
      (pss_one (ps_expr (pe_bm PySem.F.plainAttrs_list PySem.F.slot_list_append PySem.F.type_list_append mt_append (pv 6) (pa_cons (pe_tup (pa_cons (pe_tup (pa_cons (pv 8) (pa_cons (pv 13) pa_nil))) (pa_cons (pe_tup (pa_cons (pv 7) (pa_cons (pv 12) pa_nil))) pa_nil))) pa_nil)))))))
      (pss_one (ps_if (pt_cmpR op_gt (pe_op op_add (pv 4) (pe_callB call_len_seq (by rfl) z_len PySem.boot_len (pa_cons (pv 6) pa_nil))) (pv 2) (nomark _))
      (pss_one (ps_ret (pv 3)))
      pss_nil))))))
      (pss_cons (ps_expr (pe_bm PySem.F.plainAttrs_list PySem.F.slot_list_append PySem.F.type_list_append mt_append (pv 3) (pa_cons (pv 6) pa_nil)))
      (pss_one (ps_set (i := 4) sc_l_sound_trees.nd rfl (Or.inl rfl) (pe_op op_add (pv 4) (pe_callB call_len_seq (by rfl) z_len PySem.boot_len (pa_cons (pv 6) pa_nil)))))))))
      (pss_one (ps_ret (pv 3))))), ?_⟩
    have psn : (fs.map (·.1)).map (·.1) = fs.map (·.1.1) := by rw [List.map_map]; rfl
    have nd : (fs.map (·.1.1)).Nodup := by rw [← psn]; exact O.once
    refine ⟨_, rfl, a, _, 0, _, rfl, rfl, .inl (.inl X.at_), rfl, by show 2 ≤ sizeLine; decide, fun p0 np0 => ⟨by show 2 ≤ sizeLine; decide, fun p1 np1 => ⟨by show 1 ≤ sizeLine; decide, fun L0 nL0 => ⟨by show 1 ≤ sizeLine; decide, fun A nA => ⟨by show 2 ≤ sizeLine; decide, fun T nT => ?_⟩⟩⟩⟩⟩
    have s0 := same_new (o := .tup [.str b, .int 0]) np0
    have s1 := same_new (o := .tup [.ref p0, .non]) np1
    have dE : Dt (upd (upd H p0 (.tup [.str b, .int 0])) p1 (.tup [.ref p0, .non])) (.ref p1) (entD ((b, 0), .hole)) := ent_mk (e := ((b, 0), .hole)) upd_same (s1 _ _ upd_same) .non
    have s01 := s0.trans s1
    generalize upd (upd H p0 (.tup [.str b, .int 0])) p1 (.tup [.ref p0, .non]) = Ha at dE s01 nL0 nA nT ⊢
    have sL := same_new (o := .lst [.ref p1]) nL0
    have eL : (upd Ha L0 (.lst [.ref p1])) L0 = some (.lst [.ref p1]) := upd_same
    generalize upd Ha L0 (.lst [.ref p1]) = Hb at sL eL nA nT ⊢
    have sA := same_new (o := .lst [.ref L0]) nA
    have AL : A ≠ L0 := fun z => by rw [z, eL] at nA; cases nA
    have eA : (upd Hb A (.lst [.ref L0])) A = some (.lst [.ref L0]) := upd_same
    have nAH : H A = none := same_none (s01.trans sL) nA
    generalize upd Hb A (.lst [.ref L0]) = Hc at sA eA nT ⊢
    have sT := same_new (o := .tup [.ref A, .int 1]) nT
    have eT : (upd Hc T (.tup [.ref A, .int 1])) T = some (.tup [.ref A, .int 1]) := upd_same
    have sH := ((s01.trans sL).trans sA).trans sT
    have Y1 : Layers (upd Hc T (.tup [.ref A, .int 1])) A [L0] [[((b, 0), .hole)]] := ⟨sT _ _ eA, rfl, fun i a' L h1 h2 => by
      cases i with
      | zero =>
        cases h1
        cases h2
        exact ⟨_, sT _ _ (sA _ _ eL), .cons (Dt.same ((sL.trans sA).trans sT) _ _ dE) .nil⟩
      | succ i => simp at h1⟩
    generalize upd Hc T (.tup [.ref A, .int 1]) = H1 at eT sH Y1 ⊢
    refine ⟨T, _, rfl, .inl (.inl eT), rfl, .ref A, _, rfl, .int 1, _, rfl, rfl, _, rfl, _, _, rfl, rfl, _, _, rfl, by decide, ?_⟩
    refine for_range (lo := 1) (n := 5) (fun i σ H' => ∃ (o5 o6 o7 o8 o9 o10 o11 o12 o13 o14 : Option V) (tot : Nat) (as : List Addr) (Ls : List (List Ent)), σ = [some (.ref a), some (.int 5), some (.int 60), some (.ref A), some (.int tot), o5, o6, o7, o8, o9, o10, o11, o12, o13, o14] ∧ (∀ c o, c ≠ A → H1 c = some o → H' c = some o) ∧ Layers H' A as Ls ∧ Found (fs.map (·.1)) b Ls ∧ Ls.length = i + 1 ∧ tot = (Ls.map (·.length)).sum ∧ A ∉ as)
      ⟨none, none, none, none, none, none, none, none, none, none, 1, [L0], [[((b, 0), .hole)]], rfl, fun _ _ _ e => e, Y1, ⟨⟨_, rfl⟩, fun j L hj e he => ?_, (show 1 ≤ 60 by decide)⟩, rfl, rfl, fun z => AL (List.mem_singleton.mp z)⟩ (fun i σ H2 hi h => ?_) (fun σ H2 h => ?_)
    · cases j with
      | zero =>
        cases hj
        rw [List.mem_singleton.mp he]
        exact EntOk.hole _ _
      | succ j => simp at hj
    · obtain ⟨o5, o6, o7, o8, o9, o10, o11, o12, o13, o14, tot, as, Ls, rfl, k2, Y2, F2, ll, et, nin⟩ := h
      have s2 : Same H H2 := fun c o hc => k2 _ _ (ne_of_none hc nAH) (sH _ _ hc)
      refine ⟨by show 0 ≤ sizeLine; decide, fun Y nY => ?_⟩
      have sY := same_new (o := .lst []) nY
      have eY : (upd H2 Y (.lst [])) Y = some (.lst []) := upd_same
      have YA : Y ≠ A := fun z => by rw [z, Y2.at_] at nY; cases nY
      have nYH : H Y = none := same_none s2 nY
      have s3 := s2.trans sY
      have Y3 := Y2.same sY
      generalize eH3 : upd H2 Y (.lst []) = H3 at sY eY s3 Y3 ⊢
      have X3 := X.same s3
      refine ⟨_, rfl, a, _, _, .ref tb, rfl, rfl, .inl (.inl X3.at_), by rfl, tb, kvsP fs, fs.map (·.1.1), rfl, X3.dict, by rw [kvsP_keys], by rw [List.length_map]; omega, fun zs p1 pz sz np1 => ?_⟩
      have s4 := same_new (o := .lst (zs.map V.str)) np1
      have n4 : (upd H3 p1 (.lst (zs.map V.str))) p1 = some (.lst (zs.map V.str)) := upd_same
      have Y4 := Y3.same s4
      have s34 := s3.trans s4
      have eY4 := s4 _ _ eY
      have pY : p1 ≠ Y := fun z => by rw [z, eY] at np1; cases np1
      have zl : zs.length ≤ 5 := by rw [pz.length_eq, List.length_map]; exact f5
      have s24 := sY.trans s4
      generalize upd H3 p1 (.lst (zs.map V.str)) = H4 at s4 n4 Y4 s34 eY4 s24 ⊢
      have nY24 : ∀ {c o}, H2 c = some o → c ≠ Y := fun h => ne_of_none h nY
      refine ⟨p1, rfl, ⟨_, .inl (.inl n4)⟩, ?_⟩
      refine for_list (K := K) (a := p1) (xs := zs.map V.str) (fun j σ H' => (∃ o7 o8 o9 o10 o11 o12 o13 o14 : Option V, σ = [some (.ref a), some (.int 5), some (.int 60), some (.ref A), some (.int tot), some (.int (1 + (i : Int))), some (.ref Y), o7, o8, o9, o10, o11, o12, o13, o14]) ∧ LayI H4 Y (fs.map (·.1)) b (i + 1) (60 - tot) H')
        ⟨⟨o7, o8, o9, o10, o11, o12, o13, o14, rfl⟩, fun _ _ _ e => e, [], [], eY4, .nil, (fun f h => nomatch h), Nat.zero_le _⟩ (fun j σ H' _ h => .inl (.inl (h.2.1 _ _ pY n4))) (fun j x σ H5 hx h => ?_) (fun σ H5 h => ?_)
      · obtain ⟨⟨o7, o8, o9, o10, o11, o12, o13, o14, rfl⟩, I5⟩ := h
        have t60 : tot ≤ 60 := by rw [et]; exact F2.few
        have i5 : i < 5 := hi
        have s5 : ∀ {H' : Hp} {n : Nat}, LayI H4 Y (fs.map (·.1)) b (i + 1) n H' → Same H H' := fun I c o h => I.1 _ _ (ne_of_none h nYH) (s34 _ _ h)
        have Ylay : ∀ {H' : Hp} {n : Nat}, LayI H4 Y (fs.map (·.1)) b (i + 1) n H' → Layers H' A as Ls := fun I => Y2.but nY fun c o n h => I.1 _ _ n (s24 _ _ h)
        rw [List.getElem?_map] at hx
        obtain ⟨z, hz, rfl⟩ := Option.map_eq_some_iff.mp hx
        obtain ⟨p, hp, pe⟩ := List.mem_map.mp (pz.mem_iff.mp (List.mem_of_getElem? hz))
        have pm : p.1 ∈ fs.map (·.1) := List.mem_map.mpr ⟨p, hp, rfl⟩
        obtain ⟨m, wm, em⟩ := nam_S (O.nam _ pm)
        have ez : z = S m := pe.symm.trans em
        subst ez
        have ef : formOf (fs.map (·.1)) m = some p.1 := formOf_at (by rw [psn]; exact nd) pm em
        have X5 := X.same (s5 I5)
        obtain ⟨q1, ch, ks, dg, eq, kk⟩ := plain_get X5 ef
        have kl := kk.len
        have lo2 := kk.lo
        have hi4 := kk.hi
        have steps : ∀ c ∈ p.1.2.2, 0 ≤ c.2 ∧ c.2 ≤ 3 := fun c hc => by
          obtain ⟨ix, hix, e⟩ := List.mem_iff_getElem.mp hc
          have kd := kk.kid ix ks[ix] c (List.getElem?_eq_getElem (by omega)) (by rw [List.getElem?_eq_getElem hix, e])
          exact ⟨kd.lo, kd.hi⟩
        refine ⟨_, rfl, a, _, 2, _, rfl, rfl, .inl (.inl X5.at_), rfl, _, rfl, tb, .ref q1, rfl, dg, q1, _, rfl, .inl (.inl eq), rfl, .str p.1.2.1, _, rfl, .ref ch, _, rfl, rfl, ?_⟩
        dsimp only [tNext]
        refine asg_at ?_
        refine join_at (I := fun v H' => ∃ (l : Addr) (xs : List V) (spl : List (List Nat)), v = .ref l ∧ Same H5 H' ∧ H5 l = none ∧ H' l = some (.lst xs) ∧ DtAll H' xs (spl.map spD) ∧ spl.length ≤ 10 ∧ ∀ s ∈ spl, s.length = p.1.2.2.length ∧ (∀ n ∈ s, n < Ls.length) ∧ (s.filter fun n => decide (n ≠ 0)).length ≤ 3) (fun Q' k => ?_) (fun v H6 h => ?_)
        · refine ⟨_, rfl, _, _, rfl, rfl, _, rfl, ch, _, rfl, .inr (.inl (.inl kk.at_)), _, _, rfl, rfl, _, rfl, ?_⟩
          rw [List.length_map, kl]
          by_cases ge : p.1.2.2.length ≤ i + 2
          · rw [decide_eq_true (show (p.1.2.2.length : Int) ≤ 1 + (i : Int) + 1 by omega)]
            refine iteT ⟨_, rfl, _, _, rfl, rfl, _, rfl, ch, _, rfl, .inr (.inl (.inl kk.at_)), _, _, rfl, rfl, _, rfl, ch, _, rfl, .inr (.inl (.inl kk.at_)), i + 2 - p.1.2.2.length, p.1.2.2.length, ?_, by omega, by omega, by omega, by omega, fun l xs H' s' nl el dl => ?_⟩
            · rw [List.length_map, kl]
              have z : 1 + (i : Int) + 1 - (p.1.2.2.length : Int) = ((i + 2 - p.1.2.2.length : Nat) : Int) := by omega
              rw [← z]
              rfl
            · obtain ⟨l10, sp⟩ := splits_facts p.1.2.2.length (i + 2 - p.1.2.2.length) (by omega) (by omega) (by omega) (by omega)
              exact k _ _ ⟨l, xs, _, rfl, s', nl, el, dl, l10, fun s hs => ⟨(sp s hs).1, fun n hn => by
                have := mem_sum hn
                have := (sp s hs).2.1
                omega, (sp s hs).2.2⟩⟩
          · rw [decide_eq_false (show ¬ (p.1.2.2.length : Int) ≤ 1 + (i : Int) + 1 by omega)]
            exact iteF ⟨by show 0 ≤ sizeLine; decide, fun l nl => k _ _ ⟨l, [], [], rfl, same_new nl, nl, upd_same, .nil, Nat.zero_le _, fun s h => nomatch h⟩⟩
        · obtain ⟨l, xs, spl, rfl, s56, nl, el, dl, l10, sp⟩ := h
          have I6 := I5.same s56
          obtain ⟨_, us5, _, eY5, _⟩ := id I5
          have lY : l ≠ Y := fun z => by rw [z, eY5] at nl; cases nl
          have eY6 := s56 _ _ eY5
          have xl : xs.length = spl.length := by rw [dl.len, List.length_map]
          have kc6 := s56 _ _ kk.at_
          have kk6 := kk.same s56
          refine ⟨_, rfl, l, rfl, ⟨_, .inl (.inl el)⟩, ?_⟩
          refine for_list (K := K) (a := l) (xs := xs) (fun u σ H' => (∃ o11 o12 o13 o14 : Option V, σ = [some (.ref a), some (.int 5), some (.int 60), some (.ref A), some (.int tot), some (.int (1 + (i : Int))), some (.ref Y), some (.str (S m)), some (.str p.1.2.1), some (.ref ch), some (.ref l), o11, o12, o13, o14]) ∧ LayI H4 Y (fs.map (·.1)) b (i + 1) (60 + u * 216000) H' ∧ ∀ c o, c ≠ Y → H6 c = some o → H' c = some o)
            ⟨⟨o11, o12, o13, o14, rfl⟩, I6.le (by omega), fun _ _ _ e => e⟩ (fun u σ H' _ h => .inl (.inl (h.2.2 _ _ lY el))) (fun u x σ H7 hx h => ?_) (fun σ H7 h => ?_)
          · obtain ⟨⟨o11, o12, o13, o14, rfl⟩, I7, k7⟩ := h
            have ux := (List.getElem?_eq_some_iff.mp hx).1
            obtain ⟨dd, hdd, kd⟩ := dl.get hx
            have us_ : u < spl.length := by omega
            rw [List.getElem?_map, List.getElem?_eq_getElem us_] at hdd
            obtain ⟨slen, slt, sfew⟩ := sp _ (List.getElem_mem us_)
            generalize spl[u] = sl at hdd slen slt sfew
            cases hdd
            obtain ⟨xa, rfl, hxa⟩ := spD_inv kd
            have tY : ∀ {c ys}, H6 c = some (.tup ys) → H7 c = some (.tup ys) := fun {c ys} h => k7 c _ (fun z => by rw [z, eY6] at h; cases h) h
            have xa7 := tY hxa
            have Y7 := Ylay I7
            refine ⟨_, rfl, xa, rfl, ⟨_, .inl (.inl xa7)⟩, fun Dl nD => ?_⟩
            refine lc_tup (K := K) (a := xa) (xs := sl.map fun (n : Nat) => V.int n) (fun v H' => Same H7 H' ∧ H' Dl = some (.lst ((sl.take v).map fun n => V.ref (as.getD n 0)))) ⟨same_put nD (Same.refl _), upd_same⟩ (fun v H' _ h => .inl (.inl (h.1 _ _ xa7))) (fun v x H8 hx h => ?_) (fun H8 h => ?_)
            · obtain ⟨s8, e8⟩ := h
              rw [List.getElem?_map] at hx
              obtain ⟨n, hn, rfl⟩ := Option.map_eq_some_iff.mp hx
              have nl' := slt n (List.mem_of_getElem? hn)
              have na : (as.map V.ref)[n]? = some (V.ref (as.getD n 0)) := by
                rw [List.getElem?_map, List.getD_eq_getElem?_getD, List.getElem?_eq_getElem (by rw [Y7.len]; exact nl')]
                rfl
              refine ⟨rfl, _, rfl, _, rfl, A, _, (n : Int), _, rfl, rfl, .inl (.inl (s8 _ _ Y7.at_)), atI_nat na, _, e8, ?_, same_put nD s8, ?_⟩
              · rw [List.length_map, List.length_take]
                exact Nat.lt_of_le_of_lt (show _ ≤ 4 by omega) (by decide)
              · rw [upd_same, List.take_add_one, hn, List.map_append]
                rfl
            · obtain ⟨s8, e8⟩ := h
              rw [List.length_map, List.take_of_length_le (Nat.le_refl _)] at e8
              have e8' : H8 Dl = some (.lst ((sl.map fun n => as.getD n 0).map V.ref)) := by rw [e8, List.map_map]; rfl
              have L8 : Layers H8 Dl (sl.map fun n => as.getD n 0) (sl.map fun n => Ls.getD n []) := ⟨e8', by rw [List.length_map, List.length_map], fun v c L h1 h2 => by
                rw [List.getElem?_map] at h1 h2
                obtain ⟨n, hn, rfl⟩ := Option.map_eq_some_iff.mp h1
                rw [hn] at h2
                cases h2
                have nl' := slt n (List.mem_of_getElem? hn)
                have na : as.length = Ls.length := Y7.len
                have e1 : as[n]? = some (as.getD n 0) := by rw [List.getD_eq_getElem?_getD, List.getElem?_eq_getElem (by omega)]; rfl
                have e2 : Ls[n]? = some (Ls.getD n []) := by rw [List.getD_eq_getElem?_getD, List.getElem?_eq_getElem nl']; rfl
                obtain ⟨ys, e, d⟩ := Y7.one n _ _ e1 e2
                exact ⟨ys, s8 _ _ e, DtAll.same s8 _ _ d⟩⟩
              have kk8 : Kids H8 ch ks p.1.2.2 := kk6.tups fun c ys h => s8 _ _ (tY h)
              have e3 : (sl.map fun n => Ls.getD n []).map (·.length) = sl.map fun n => (Ls.getD n []).length := by rw [List.map_map]; rfl
              have h0 : ∀ L, Ls[0]? = some L → L.length ≤ 1 := fun L h => by
                obtain ⟨e, he⟩ := F2.zero
                rw [he] at h
                cases h
                exact Nat.le_refl _
              have lim : prodM ((sl.map fun n => Ls.getD n []).map (·.length)) ≤ 216000 := by
                rw [e3]
                exact prod_splits h0 F2.h60 slt sfew
              refine ⟨_, rfl, Dl, ch, _, ks, _, p.1.2.2, rfl, L8, kk8, by rw [List.length_map, slen], lim, fun FL xf gs H9 s9 nFL eFL dFL okF lenF => ⟨FL, rfl, ⟨_, .inl (.inl eFL)⟩, ?_⟩⟩
              have s79 := s8.trans s9
              have I9 := I7.same s79
              obtain ⟨_, us7, _, eY7', _⟩ := id I7
              have eY9 := s79 _ _ eY7'
              have FY : FL ≠ Y := fun z => by
                have := s8 _ _ eY7'
                rw [← z, nFL] at this
                cases this
              have xfl : xf.length = gs.length := by rw [dFL.len, List.length_map]
              refine for_list (K := K) (a := FL) (xs := xf) (fun v σ H' => (∃ o12 o13 o14 : Option V, σ = [some (.ref a), some (.int 5), some (.int 60), some (.ref A), some (.int tot), some (.int (1 + (i : Int))), some (.ref Y), some (.str (S m)), some (.str p.1.2.1), some (.ref ch), some (.ref l), some (.ref xa), o12, o13, o14]) ∧ LayI H4 Y (fs.map (·.1)) b (i + 1) (60 + u * 216000 + v) H' ∧ ∀ c o, c ≠ Y → H9 c = some o → H' c = some o)
                ⟨⟨o12, o13, o14, rfl⟩, I9.le (by omega), fun _ _ _ e => e⟩ (fun v σ H' _ h => .inl (.inl (h.2.2 _ _ FY eFL))) (fun v x σ H10 hx h => ?_) (fun σ H10 h => ?_)
              · obtain ⟨⟨o12, o13, o14, rfl⟩, I10, k10⟩ := h
                have vx := (List.getElem?_eq_some_iff.mp hx).1
                obtain ⟨dd, hdd, kd⟩ := dFL.get hx
                have vg : v < gs.length := by omega
                rw [List.getElem?_map, List.getElem?_eq_getElem vg] at hdd
                have okf := okF _ (List.getElem_mem vg)
                generalize gs[v] = f at hdd okf
                cases hdd
                obtain ⟨ts', r⟩ := f
                obtain ⟨fa, qa, xq, rfl, hfa, hqa, dqa⟩ := fil_inv kd
                obtain ⟨rx, er, okn⟩ := EntOk.node (b := b) (k := i) ef pm (by omega) steps (fun L hL e he => by
                  obtain ⟨n, hn, rfl⟩ := List.mem_map.mp hL
                  have nl' := slt n hn
                  have e2 : Ls[n]? = some (Ls.getD n []) := by rw [List.getD_eq_getElem?_getD, List.getElem?_eq_getElem nl']; rfl
                  exact (F2.ok n _ e2 e he).le (by omega)) okf
                subst er
                have T10 : ∀ {c ys}, H9 c = some (.tup ys) → H10 c = some (.tup ys) := fun {c ys} h => k10 c _ (fun z => by rw [z, eY9] at h; cases h) h
                obtain ⟨_, us10, _, eY10, _⟩ := id I10
                refine ⟨fa, _, rfl, .inl (.inl (T10 hfa)), rfl, .ref qa, _, rfl, .int rx, _, rfl, rfl, .ref Y, rfl, .inl ⟨rfl, _, .inl (.inl eY10)⟩, _, rfl, _, rfl, by show 2 ≤ sizeLine; decide, fun p1' np1' => ⟨_, rfl, _, rfl, by show 2 ≤ sizeLine; decide, fun p2' np2' => ⟨by show 2 ≤ sizeLine; decide, fun p3' np3' => ?_⟩⟩⟩
                have t1 := same_new (o := .tup [.str p.1.2.1, .int rx]) np1'
                have t2 := same_new (o := .tup [.str (S m), .ref qa]) np2'
                have t3 := same_new (o := .tup [.ref p1', .ref p2']) np3'
                have t123 := (t1.trans t2).trans t3
                obtain ⟨us', a1, a2, a3⟩ := I10.add (p := p3') (e := ((p.1.2.1, rx), .node m ts')) t123 (ent_mk (e := ((p.1.2.1, rx), .node m ts')) upd_same (t3 _ _ (t2 _ _ upd_same)) (.tup (t3 _ _ upd_same) (.cons (.str _) (.cons (.tup (t123 _ _ (T10 hqa)) (by
                  rw [trDL_map]
                  exact DtAll.tups (fun c ys h => t123 _ _ (T10 h)) _ _ (trDs_only _) dqa)) .nil)))) okn
                refine ⟨Y, us', _, rfl, rfl, a1, Nat.lt_of_le_of_lt a2 ?_, ⟨_, _, _, rfl⟩, a3, fun c o n h => by rw [upd_ne n]; exact t123 _ _ (k10 _ _ n h)⟩
                have : gs.length ≤ 216000 := Nat.le_trans lenF lim
                exact Nat.lt_of_lt_of_le (show _ < 60 + 10 * 216000 + 216000 by omega) (by decide)
              · obtain ⟨⟨o12, o13, o14, rfl⟩, I10, k10⟩ := h
                have : gs.length ≤ 216000 := Nat.le_trans lenF lim
                exact ⟨⟨_, _, _, _, rfl⟩, I10.le (by rw [Nat.succ_mul]; omega), fun c o n h => k10 _ _ n (s79 _ _ (k7 _ _ n h))⟩
          · obtain ⟨⟨o11, o12, o13, o14, rfl⟩, I7, k7⟩ := h
            obtain ⟨_, us, es, eY7, du7, ok7, few7⟩ := id I7
            have ul : us.length = es.length := by rw [du7.len, List.length_map]
            have Y7 := Ylay I7
            refine ⟨_, rfl, _, rfl, Y, us, rfl, .inl (.inl (.inl eY7)), _, _, rfl, rfl, _, rfl, _, _, rfl, rfl, _, rfl, ?_⟩
            by_cases gt : tot + us.length ≤ 60
            · rw [decide_eq_false (show ¬ (60 : Int) < (tot : Int) + (us.length : Int) by omega)]
              refine iteF ⟨⟨_, _, _, _, _, _, _, _, rfl⟩, I7.1, us, es, eY7, du7, ok7, by omega⟩
            · rw [decide_eq_true (show (60 : Int) < (tot : Int) + (us.length : Int) by omega)]
              refine iteT ⟨_, rfl, q A as Ls H7 (s5 I7) nAH Y7 F2 (by omega)⟩
      · obtain ⟨⟨o7, o8, o9, o10, o11, o12, o13, o14, rfl⟩, I5⟩ := h
        obtain ⟨k5, us, es, eY5, du, oke, fewe⟩ := id I5
        have ul : us.length = es.length := by rw [du.len, List.length_map]
        have s25 : ∀ c o, c ≠ Y → H2 c = some o → H5 c = some o := fun c o n h => k5 _ _ n (s24 _ _ h)
        have Y5 : Layers H5 A as Ls := Y2.but nY s25
        have s5 : Same H H5 := fun c o h => s25 _ _ (ne_of_none h nYH) (s2 _ _ h)
        have t60 : tot ≤ 60 := by rw [et]; exact F2.few
        have AY := YA.symm
        refine ⟨_, rfl, .inl ⟨rfl, _, .inl (.inl Y5.at_)⟩, _, rfl, A, _, _, rfl, rfl, Y5.at_, ?_, ⟨_, rfl, _, rfl, Y, us, rfl, .inl (.inl (.inl (by rw [upd_ne YA]; exact eY5))), _, _, rfl, rfl, ?_⟩⟩
        · rw [List.length_map, Y5.len, ll]
          exact Nat.lt_of_lt_of_le (show _ < 7 by have : i < 5 := hi; omega) (by decide)
        refine ⟨_, _, _, _, _, _, _, _, _, _, tot + us.length, as ++ [Y], Ls ++ [es], rfl, fun c o n h => by rw [upd_ne n]; exact s25 _ _ (nY24 (k2 _ _ n h)) (k2 _ _ n h), ⟨by rw [upd_same, List.map_append]; rfl, by rw [List.length_append, List.length_append, Y5.len]; rfl, fun m c L h1 h2 => ?_⟩, ⟨?_, fun m L hm e he => ?_, ?_⟩, by rw [List.length_append, ll]; rfl, ?_, fun z => (List.mem_append.mp z).elim nin fun z => AY (List.mem_singleton.mp z)⟩
        · by_cases ml : m < Ls.length
          · rw [List.getElem?_append_left (by rw [Y5.len]; exact ml)] at h1
            rw [List.getElem?_append_left ml] at h2
            obtain ⟨xs, e, dx⟩ := Y5.one m c L h1 h2
            have cA : c ≠ A := fun z => nin (z ▸ List.mem_of_getElem? h1)
            exact ⟨xs, by rw [upd_ne cA]; exact e, DtAll.tups (Tups.putL _ Y5.at_) _ _ (entD_only _) dx⟩
          · rw [List.getElem?_append_right (by rw [Y5.len]; omega), Y5.len] at h1
            rw [List.getElem?_append_right (by omega)] at h2
            have z : m - Ls.length = 0 := by
              have := (List.getElem?_eq_some_iff.mp h1).1
              simp at this
              omega
            rw [z] at h1 h2
            cases h1
            cases h2
            exact ⟨us, by rw [upd_ne YA]; exact eY5, DtAll.tups (Tups.putL _ Y5.at_) _ _ (entD_only _) du⟩
        · obtain ⟨e, he⟩ := F2.zero
          exact ⟨e, by rw [List.getElem?_append_left (by omega)]; exact he⟩
        · by_cases ml : m < Ls.length
          · rw [List.getElem?_append_left ml] at hm
            exact F2.ok m L hm e he
          · rw [List.getElem?_append_right (by omega)] at hm
            have z : m - Ls.length = 0 := by
              have := (List.getElem?_eq_some_iff.mp hm).1
              simp at this
              omega
            have mi : m = i + 1 := by omega
            rw [z] at hm
            cases hm
            subst mi
            exact oke e he
        · rw [List.map_append, List.sum_append, ← et]
          show tot + (es.length + 0) ≤ 60
          omega
        · rw [List.map_append, List.sum_append, ← et, ul]
          rfl
    · obtain ⟨o5, o6, o7, o8, o9, o10, o11, o12, o13, o14, tot, as, Ls, rfl, k2, Y2, F2, ll, et, nin⟩ := h
      have s2 : Same H H2 := fun c o hc => k2 _ _ (ne_of_none hc nAH) (sH _ _ hc)
      exact ⟨_, rfl, q A as Ls H2 s2 nAH Y2 F2 (by omega)⟩
end
end K11
set_option Elab.async false
set_option linter.all false
set_option autoImplicit false
set_option maxRecDepth 100000
set_option maxHeartbeats 4000000
/-! Rp: text.replace(old, new) where old is nowhere in the text. -/
namespace Rp
open PySem PySem.Spec PyProof.Rows L2 Vb SX
open PySem.Builtin.Str (occurrences)
theorem no_sign {a : List Nat} {c : Nat} (h : c ∉ a) (lim : Nat) : occurrences (S a) (S [c]) 0 (S a).length lim = [] := by
  cases e : occurrences (S a) (S [c]) 0 (S a).length lim with
  | nil => rfl
  | cons i is =>
    have := StrLaws.occ_spec (S a) (S [c]) 0 (S a).length lim i (by rw [e]; exact List.mem_cons_self ..)
    have h2 := (StrLaws.subAt_one (S a) c i).mp this
    refine (h (List.mem_of_getElem? (i := i) ?_)).elim
    simpa using h2
section
variable {X : Cx}
/-- the text itself -/
theorem mt_replN : MtR X "str.replace" (fun x xs H Q => ∃ a b c, x = .str a ∧ xs = [.str b, .str c] ∧ occurrences a b 0 a.length (a.length + 1) = [] ∧ Q (.str a) H) := by
  intro pins s σ H x xs v us Q I rx rs h
  obtain ⟨a, b, c, rfl, rfl, ho, q⟩ := h
  obtain ⟨t, rfl⟩ := rx
  obtain ⟨u1, u2, rfl, r1, r2⟩ := Vals.two rs
  obtain ⟨t1, rfl⟩ := r1
  obtain ⟨t2, rfl⟩ := r2
  refine call_gives PySem.F.slot_str_replace (typeIs_str _ _ _) PySem.F.entry_str_replace (PySem.F.args_str_replace_3 _ _ _) (gives_str_replace a b c t t1 t2 fun z => ?_) ?_
  · rw [ho] at z
    simp at z
  · rw [ho]
    exact ⟨.str a, H, I, ⟨t, rfl⟩, q⟩
end
end Rp
set_option Elab.async false
set_option linter.all false
set_option autoImplicit false
set_option maxRecDepth 100000
set_option maxHeartbeats 4000000
namespace K11
open PySem PySem.Spec PyProof.Rows L2 Vb Wd Xd Xo Xv SX Pc Zc Oi RZ Zt Zk Of Og Oh Ot Zm Fh Rp
/-! ### trees set in a picture's holes -/
theorem fillL_at : ∀ {ps : List Pic} {ts : List Pic} {i : Nat} {p : Pic}, ps[i]? = some p → (fillL ps ts)[i]? = some (fill p ((ts.drop (holesL (ps.take i))).take p.holes))
  | [], _, _, _, h => by simp at h
  | q :: ps, ts, 0, p, h => by
    have : q = p := by simpa using h
    subst this
    rfl
  | q :: ps, ts, i + 1, p, h => by
    show (fillL ps (ts.drop q.holes))[i]? = _
    rw [fillL_at (by simpa using h), List.drop_drop]
    rfl
theorem fillL_take : ∀ (qs ts : List Pic), fillL qs (ts.take (holesL qs)) = fillL qs ts
  | [], _ => rfl
  | q :: qs, ts => by
    show fill q ((ts.take (q.holes + holesL qs)).take q.holes) :: fillL qs ((ts.take (q.holes + holesL qs)).drop q.holes) = fill q (ts.take q.holes) :: fillL qs (ts.drop q.holes)
    rw [List.take_take, Nat.min_eq_left (by omega), List.drop_take, show q.holes + holesL qs - q.holes = holesL qs by omega, fillL_take qs]
theorem fill_take (p : Pic) (ts : List Pic) : fill p (ts.take p.holes) = fill p ts := by
  cases p with
  | hole => cases ts <;> rfl
  | node n ps => exact congrArg (Pic.node n) (fillL_take ps ts)
theorem no_mark {n : List Nat} (w : word n) : 94 ∉ n := fun h => by
  have := w.2.2 94 h
  omega
theorem mark_S : ("^" : Str) = S [94] := by decide +kernel
abbrev s_l_filled : Stmt := topS 60
theorem sc_l_filled : FnScope ["_law_picture", "_law_parts", "_law_one"] ["_law_picture", "_law_parts"] (defScope s_l_filled) := ⟨rfl, rfl, rfl, by decide +kernel, rfl, by decide +kernel, by decide +kernel⟩
/-- all but l stays -/
def ButL (l : Addr) (H H' : Hp) : Prop := ∀ x o, x ≠ l → H x = some o → H' x = some o
def spFilled (n : Nat) : Sp := fun vs H Q _ => ∃ (v : V) (l : Addr) (B : Hp) (p : Pic) (xs : List V) (ts : List Pic), vs = [v, .ref l] ∧ Dt B v (pcD p) ∧ ButL l B H ∧ B l = none ∧ p.Ok ∧ p.lev < n ∧ H l = some (.lst xs) ∧ DtAll H xs (ts.map trD) ∧ p.holes ≤ ts.length ∧
  ∀ r H', ButL l H H' → H' l = some (.lst (xs.drop p.holes)) → Dt H' r (trD (fill p ts)) → Q r H'
section
variable {P : Program} {w : World} {K : PySem.W.Frag} {mg : Str → Option Value} {base : Heap}
theorem ok_filled (D : Df K mg "_law_filled" s_l_filled ["_law_picture", "_law_parts"]) (z_tuple : mg "tuple" = none) : ∀ n, Cg P w K mg base (1 + n) "_law_filled" (spFilled n)
  | 0 => by
    obtain ⟨f, fd, F, m, b⟩ := D
    exact ⟨f, fd, _, ⟨fun vs H Q E h => by obtain ⟨_, _, _, p, _, _, _, _, _, _, _, l, _⟩ := h; omega, fun A outer s H args us vs Q E hc hr e0 hb r h => by obtain ⟨_, _, _, p, _, _, _, _, _, _, _, l, _⟩ := h; omega⟩, m, F.kp, b⟩
  | n + 1 => by
    have IH := ok_filled D z_tuple n
    refine D.ok (k := 1 + n) sc_l_filled (fun vs H Q E h => ?_) (fun cdv A outer s H vs Q E f0 hc hr h => ?_)
    · obtain ⟨v, l, B, p, xs, ts, rfl, _⟩ := h
      rfl
    · obtain ⟨v, l, B, p, xs, ts, rfl, PD, bl, nB, ok, ln, hl, du, le, q⟩ := h
      refine ⟨_, (pss_cons (ps_if (pt_cmpR op_isN (pe_ix (ix_tup : IxR _ (rIxT K)) (pv 0) pe_int (fun _ _ => rfl)) pe_non (nomark _))
      (pss_one (ps_ret (pe_bm PySem.F.plainAttrs_list PySem.F.slot_list_pop PySem.F.type_list_pop mt_popAt (pv 1) (pa_cons pe_int pa_nil))))
      pss_nil)
      (pss_one (ps_ret (pe_tup (pa_cons (pe_bm PySem.F.plainAttrs_str PySem.F.slot_str_replace PySem.F.type_str_replace mt_replN (pe_ix (ix_tup : IxR _ (rIxT K)) (pv 0) pe_int (fun _ _ => rfl)) (pa_cons pe_str (pa_cons pe_str pa_nil))) (pa_cons (pe_callTy (cr_tuple : CallR _ _ (rTup K)) (by rfl) z_tuple (by decide +kernel) (pa_cons (pe_lc (own := [("_law_one", 2)]) (g := gName 2) (by rfl) sc_l_filled.nd (pi_list (pe_ix (ix_tup : IxR _ (rIxT K)) (pv 0) pe_int (fun _ _ => rfl))) (blkOk_by (own := [("_law_one", 2)]) (N := ["_law_picture", "_law_parts", "_law_one"]) (sc := defScope s_l_filled) (by decide +kernel)) (fun _ _ _ _ _ => pg_name (i := 2) sc_l_filled.nd rfl (Or.inl rfl)) (fun _ _ _ _ _ => pts_nil) (fun _ _ _ _ _ => (pe_cg IH hc hr (by rfl) (pa_cons (pv 2) (pa_cons (pv 1) pa_nil)) (Nat.le_refl _)))) pa_nil)) pa_nil)))))), ?_⟩
      cases p with
      | hole =>
        obtain ⟨v', rfl, hv⟩ := pc_hole PD
        have vl : v' ≠ l := fun z => by rw [z, nB] at hv; cases hv
        have hv' := bl _ _ vl hv
        have le : 1 ≤ ts.length := le
        refine ⟨_, rfl, v', _, 1, _, rfl, rfl, .inl (.inl hv'), rfl, rfl, true, rfl, iteT ⟨.ref l, rfl, .inl ⟨rfl, _, .inl (.inl hl)⟩, ?_⟩⟩
        match xs, ts, du, le with
        | [], [], _, le => simp at le
        | [], _ :: _, du, _ => cases du
        | x :: xs, t :: ts, .cons d du, _ =>
          refine ⟨l, x :: xs, 0, 0, x, rfl, rfl, hl, by decide, by decide, ?_, rfl, ?_⟩
          · exact seq_at (r := 0) (by decide) (by rw [List.length_cons]; omega)
          · exact q x _ (fun c o n h => by rw [upd_ne n]; exact h) upd_same (Dt.tups (Tups.putL _ hl) _ _ (trD_only _) d)
      | node n' ps =>
        obtain ⟨v', lp, ys, rfl, hv, hlp, yl, items⟩ := pc_node PD
        obtain ⟨wn, l2, lm4, oks⟩ := ok_node ok
        have vl : v' ≠ l := fun z => by rw [z, nB] at hv; cases hv
        have ll : lp ≠ l := fun z => by rw [z, nB] at hlp; cases hlp
        have hv' := bl _ _ vl hv
        have hlp' := bl _ _ ll hlp
        have hh : (Pic.node n' ps).holes = holesL ps := rfl
        refine ⟨_, rfl, v', _, 1, _, rfl, rfl, .inl (.inl hv'), rfl, rfl, false, rfl, iteF ?_⟩
        refine ⟨_, rfl, v', _, 0, _, rfl, rfl, .inl (.inl hv'), rfl, rfl, S n', "^", "", rfl, rfl, by rw [mark_S]; exact no_sign (no_mark wn) _, _, rfl, v', _, 1, _, rfl, rfl, .inl (.inl hv'), rfl, lp, rfl, ⟨_, .inl (.inl hlp')⟩, fun Dl nD => ?_⟩
        have Dll : Dl ≠ l := fun z => by rw [z, hl] at nD; cases nD
        have lpD : lp ≠ Dl := fun z => by rw [z, nD] at hlp'; cases hlp'
        have nBD : B Dl = none := by
          cases e : B Dl with
          | none => rfl
          | some o => rw [bl _ _ Dll e] at nD; cases nD
        have k0 : ButL l H (upd H Dl (.lst [])) := fun c o n h => by rw [upd_ne (ne_of_none h nD)]; exact h
        refine lc_list (K := K) (a := lp) (xs := ys) (fun i H' => ButL l H H' ∧ H' l = some (.lst (xs.drop (holesL (ps.take i)))) ∧ ∃ us, H' Dl = some (.lst us) ∧ us.length = i ∧ DtAll H' us (((fillL ps ts).take i).map trD)) ⟨k0, by rw [upd_ne Dll.symm]; exact hl, [], upd_same, rfl, .nil⟩ (fun i H' _ h => .inl (.inl (h.1 _ _ ll hlp'))) (fun i x H1 hx h => ?_) (fun H1 h => ?_)
        · obtain ⟨k1, el, us, e1, ul, d1⟩ := h
          have il : i < ps.length := by
            have := (List.getElem?_eq_some_iff.mp hx).1
            omega
          have hp : ps[i]? = some ps[i] := List.getElem?_eq_getElem il
          have pm : ps[i] ∈ (Pic.node n' ps).parts := List.getElem_mem il
          have lp' := lev_part pm
          have okp := ok_part ok pm
          have kd := items i x _ hx hp
          have ht := holesL_take hp
          have hle := holesL_le (ps := ps) (i := i + 1)
          have ef := fillL_at (ts := ts) hp
          generalize ps[i] = pp at hp lp' okp kd ht ef
          have T1 : Tups H H1 := fun c zs h => k1 c _ (fun z => by rw [z, hl] at h; cases h) h
          refine ⟨rfl, _, rfl, _, rfl, x, l, B, pp, _, ts.drop (holesL (ps.take i)), rfl, kd, fun c o n h => k1 _ _ n (bl _ _ n h), nB, okp, by omega, el, ?_, by rw [List.length_drop]; omega, fun r H2 b2 el2 dr => ⟨us, b2 _ _ Dll e1, ?_, fun c o n h => ?_, ?_, us ++ [r], upd_same, by rw [List.length_append, ul]; rfl, ?_⟩⟩
          · rw [List.map_drop]
            exact DtAll.drop _ (DtAll.tups T1 _ _ (trDs_only _) du)
          · exact Nat.lt_of_le_of_lt (show _ ≤ 4 by omega) (by decide)
          · rw [upd_ne (ne_of_none h nD)]
            exact b2 _ _ n (k1 _ _ n h)
          · rw [upd_ne Dll.symm, el2, List.drop_drop, ht]
          · have T2 : Tups H1 H2 := fun c zs h => b2 c _ (fun z => by rw [z, el] at h; cases h) h
            have T3 := Tups.putL (.lst (us ++ [r])) (b2 _ _ Dll e1)
            rw [List.take_add_one, ef, List.map_append]
            refine DtAll.tups T3 _ _ (by rw [← List.map_append]; exact trDs_only _) ((DtAll.tups T2 _ _ (trDs_only _) d1).app (.cons ?_ .nil))
            rw [fill_take]
            exact dr
        · obtain ⟨k1, el, us, e1, ul, d1⟩ := h
          rw [yl] at ul d1 el
          rw [List.take_of_length_le (Nat.le_refl _)] at el
          rw [List.take_of_length_le (by rw [fillL_len]; exact Nat.le_refl _)] at d1
          refine ⟨Dl, us, rfl, .inl ⟨.inl (.inl e1), fun t nt => ⟨by show 2 ≤ sizeLine; decide, fun r nr => ?_⟩⟩⟩
          have st := same_new (o := .tup us) nt
          have sr := same_new (o := .tup [.str (S n'), .ref t]) nr
          have k2 : ButL l H (upd (upd H1 t (.tup us)) r (.tup [.str (S n'), .ref t])) := fun c o n h => sr _ _ (st _ _ (k1 _ _ n h))
          refine q _ _ k2 (sr _ _ (st _ _ el)) (.tup upd_same (.cons (.str _) (.cons (.tup (sr _ _ upd_same) ?_) .nil)))
          show DtAll _ us (trDL (fillL ps ts))
          rw [trDL_map]
          exact DtAll.same (st.trans sr) _ _ d1
end
end K11
set_option Elab.async false
set_option linter.all false
set_option autoImplicit false
set_option maxRecDepth 100000
set_option maxHeartbeats 4000000
namespace K11
open PySem PySem.Spec PyProof.Rows L2 Vb Wd Xd Xo Xi Xm Xr Xv Ts K01 Oq Oi Zt Zk Zs Rl Rd Ed StX Nc Nd Fh
abbrev s_l_sorts : Stmt := topS 61
abbrev nSo : List Str := ["_law_plain", "_law_found", "_law_name", "_law_child", "_law_step"]
theorem sc_l_sorts : FnScope nSo ["_law_plain"] (defScope s_l_sorts) := ⟨rfl, rfl, rfl, by decide +kernel, rfl, by decide +kernel, by decide +kernel⟩
/-- the sorts, a new list -/
def spLSo : Sp := fun vs H Q _ => ∃ (a tl tb : Addr) (b : Str) (ts : List Str) (ps : List (FD × Addr)), vs = [.ref a] ∧ Held H a tl tb b ts ps ∧ SchOk b ts (ps.map (·.1)) ∧
  ∀ (p : Addr) (zs : List Str) (H' : Hp), Same H H' → H p = none → H' p = some (.lst (zs.map V.str)) → zs ≠ [] → zs.length ≤ 64 → Q (.ref p) H'
section
variable {P : Program} {w : World} {K : PySem.W.Frag} {mg : Str → Option Value} {base : Heap}
theorem ok_l_sorts (D : Df K mg "_law_sorts" s_l_sorts ["_law_plain"]) (z_sorted : mg "sorted" = none) (z_set : mg "set" = none) (z_list : mg "list" = none) : Cg P w K mg base 1 "_law_sorts" spLSo := by
  refine D.ok sc_l_sorts (fun vs H Q E h => ?_) (fun cdv A outer s H vs Q E f0 hc hr h => ?_)
  · obtain ⟨a, tl, tb, b, ts, ps, rfl, _⟩ := h
    rfl
  · obtain ⟨a, tl, tb, b, ts, ps, rfl, X, S, q⟩ := h
    refine ⟨_, (pss_cons (ps_set (i := 1) sc_l_sorts.nd rfl (Or.inl rfl) (pe_op op_cat (pe_lst (pa_cons (pe_ix (ix_list : IxR _ (rIxL K)) (pv 0) pe_int (fun _ _ => rfl)) pa_nil)) (pe_callTy call_list_of (by rfl) z_list (by decide +kernel) (pa_cons (pe_ix (ix_list : IxR _ (rIxL K)) (pv 0) pe_int (fun _ _ => rfl)) pa_nil))))
      (pss_cons (ps_lock (ps_for PassesOwn.never rfl (pi_keys (pe_ix (ix_list : IxR _ (rIxL K)) (pv 0) pe_int (fun _ _ => rfl))) (pg_name (i := 2) sc_l_sorts.nd rfl (Or.inl rfl))
      (pss_cons (ps_expr (pe_bm PySem.F.plainAttrs_list PySem.F.slot_list_append PySem.F.type_list_append mt_append (pv 1) (pa_cons (pe_ix (ix_tup : IxR _ (rIxT K)) (pe_dget (hu_of hr) (pe_ix (ix_list : IxR _ (rIxL K)) (pv 0) pe_int (fun _ _ => rfl)) (pv 2) (fun _ _ => rfl)) pe_int (fun _ _ => rfl)) pa_nil)))
      (pss_one (ps_expr (pe_bm PySem.F.plainAttrs_list PySem.F.slot_list_extend PySem.F.type_list_extend mt_extend (pv 1) (pa_cons (pe_lc (own := [("_law_child", 3), ("_law_step", 4)]) (g := gTup K 2 (gCons (gName 3) (gCons (gName 4) gNil))) (by rfl) sc_l_sorts.nd (pi_tup (pe_ix (ix_tup : IxR _ (rIxT K)) (pe_dget (hu_of hr) (pe_ix (ix_list : IxR _ (rIxL K)) (pv 0) pe_int (fun _ _ => rfl)) (pv 2) (fun _ _ => rfl)) pe_int (fun _ _ => rfl))) (blkOk_by (own := [("_law_child", 3), ("_law_step", 4)]) (N := nSo) (sc := defScope s_l_sorts) (by decide +kernel)) (fun _ _ _ _ _ => pg_tup (by rfl) (pgs_cons (pg_name (i := 3) sc_l_sorts.nd rfl (Or.inl rfl)) (pgs_cons (pg_name (i := 4) sc_l_sorts.nd rfl (Or.inl rfl)) pgs_nil))) (fun _ _ _ _ _ => pts_nil) (fun _ _ _ _ _ => (pv 3))) pa_nil)))))))
      (pss_one (ps_ret (pe_callB (cr_sortTexts rfl) (by rfl) z_sorted (by decide +kernel) (pa_cons (pe_callTy (cr_setFew rfl) (by rfl) z_set (by decide +kernel) (pa_cons (pv 1) pa_nil)) pa_nil)))))), ?_⟩
    obtain ⟨bm, ⟨d1, d24⟩, d8, once, kinds⟩ := S.parts
    have tl60 := S.tops.2.1
    rw [List.length_map] at d24
    have psn : (ps.map (·.1)).map (·.1) = ps.map (·.1.1) := by rw [List.map_map]; rfl
    have nd : (ps.map (·.1.1)).Nodup := by rw [← psn]; exact once
    have kids4 : ∀ p ∈ ps, p.1.2.2.length ≤ 4 := fun p hp => by
      obtain ⟨ch, ks, _, kk⟩ := X.row p hp
      have := kk.hi
      have := kk.len
      omega
    have big : ∀ {n : Nat}, n ≤ 300 → n < sizeLine := fun h => Nat.lt_of_le_of_lt h (by decide)
    let W : Nat → List Str := fun i => b :: (ts ++ said ((ps.map (·.1)).take i))
    have hW : W = fun i => b :: (ts ++ said ((ps.map (·.1)).take i)) := rfl
    have all : ∀ i, (W i).length ≤ 201 := fun i => by
      have := said_len (ds := (ps.map (·.1)).take i) (n := 24) (fun d hd => by
        obtain ⟨p, hp, rfl⟩ := List.mem_map.mp (List.mem_of_mem_take hd)
        exact kids4 p hp) (by rw [List.length_take, List.length_map]; omega)
      show (b :: (ts ++ said ((ps.map (·.1)).take i))).length ≤ 201
      rw [List.length_cons, List.length_append]
      omega
    have w0 : W 0 = b :: ts := by
      show b :: (ts ++ said []) = b :: ts
      simp [said]
    have wS : ∀ {i : Nat} {p : FD × Addr}, ps[i]? = some p → W (i + 1) = (W i ++ [p.1.2.1]) ++ p.1.2.2.map (·.1) := fun {i p} hp => by
      have hd : (ps.map (·.1))[i]? = some p.1 := by rw [List.getElem?_map, hp]; rfl
      show b :: (ts ++ said ((ps.map (·.1)).take (i + 1))) = (b :: (ts ++ said ((ps.map (·.1)).take i)) ++ [p.1.2.1]) ++ p.1.2.2.map (·.1)
      rw [said_take hd]
      simp
    have wE : ∀ y ∈ W ps.length, y ∈ dd (ts ++ said (ps.map (·.1))) := fun y hy => by
      refine (mem_dd _ y).mpr ?_
      have hy : y ∈ b :: (ts ++ said ((ps.map (·.1)).take ps.length)) := hy
      rw [List.take_of_length_le (by rw [List.length_map]; exact Nat.le_refl _)] at hy
      rcases List.mem_cons.mp hy with rfl | hy
      · exact List.mem_append_left _ bm
      · exact hy
    have wb : b ∈ W ps.length := List.mem_cons_self ..
    clear_value W
    refine ⟨_, rfl, a, _, 0, _, rfl, rfl, .inl (.inl X.at_), rfl, by show 1 ≤ sizeLine; decide, fun p1 np1 => ?_⟩
    have s1 := same_new (o := .lst [.str b]) np1
    have e1 : (upd H p1 (.lst [.str b])) p1 = some (.lst [.str b]) := upd_same
    generalize upd H p1 (.lst [.str b]) = H1 at s1 e1 ⊢
    refine ⟨_, rfl, a, _, 1, .ref tl, rfl, rfl, .inl (.inl (s1 _ _ X.at_)), rfl, tl, _, rfl, .inl (.inl (.inl (s1 _ _ X.tops))), fun l1 nl1 => ?_⟩
    have s2 := same_new (o := .lst (ts.map V.str)) nl1
    have e2 : (upd H1 l1 (.lst (ts.map V.str))) l1 = some (.lst (ts.map V.str)) := upd_same
    generalize upd H1 l1 (.lst (ts.map V.str)) = H2 at s2 e2 ⊢
    refine ⟨p1, l1, _, _, rfl, rfl, s2 _ _ e1, e2, ?_, fun F nF => ?_⟩
    · rw [List.length_map]
      exact Nat.le_of_lt (big (by show 1 + _ ≤ 300; omega))
    have s12 := s1.trans s2
    have nFH := same_none s12 nF
    have sF := same_new (o := .lst ([.str b] ++ ts.map V.str)) nF
    have eF : (upd H2 F (.lst ([.str b] ++ ts.map V.str))) F = some (.lst ((W 0).map V.str)) := by rw [w0]; exact upd_same
    have s3 := s12.trans sF
    generalize upd H2 F (.lst ([.str b] ++ ts.map V.str)) = H3 at sF eF s3 ⊢
    have X3 := X.same s3
    have ltb : F ≠ tb := fun z => by rw [z, X.dict] at nFH; cases nFH
    refine ⟨tb, _, X3.dict, trivial, fun od => ?_⟩
    have XL := X.lock (o := od)
    have eL : (upd H3 tb (.frz od (.dK (kvsP ps)))) tb = some (.frz od (.dK (kvsP ps))) := upd_same
    have eFL : (upd H3 tb (.frz od (.dK (kvsP ps)))) F = some (.lst ((W 0).map V.str)) := in_lock ltb eF
    have kL : ButL F (upd H tb (.frz od (.dK (kvsP ps)))) (upd H3 tb (.frz od (.dK (kvsP ps)))) := fun c o n h => by
      by_cases z : c = tb
      · subst z
        rw [upd_same] at h ⊢
        exact h
      · rw [upd_ne z] at h ⊢
        exact s3 _ _ h
    have nFL : (upd H tb (.frz od (.dK (kvsP ps)))) F = none := by rw [upd_ne ltb]; exact nFH
    have back : ∀ {H' : Hp}, ButL F (upd H tb (.frz od (.dK (kvsP ps)))) H' → Same H (upd H' tb (.dK (kvsP ps))) := fun k => lock_same X.dict fun c o h => k c o (ne_of_none h nFL) h
    have sameX : ∀ {H' : Hp}, ButL F (upd H tb (.frz od (.dK (kvsP ps)))) H' → Same (upd H tb (.frz od (.dK (kvsP ps)))) H' := fun k c o h => k c o (ne_of_none h nFL) h
    have eX : (upd H tb (.frz od (.dK (kvsP ps)))) tb = some (.frz od (.dK (kvsP ps))) := upd_same
    generalize upd H tb (.frz od (.dK (kvsP ps))) = HX at XL kL nFL back sameX eX
    generalize upd H3 tb (.frz od (.dK (kvsP ps))) = HL at eL eFL kL ⊢
    refine ⟨_, rfl, a, _, _, .ref tb, rfl, rfl, .inl (.inl ((XL.same (sameX kL)).at_)), by rfl, tb, od, rfl, .inl ⟨kvsP ps, eL, ?_⟩⟩
    refine for_keys (fun i σ H' => (∃ o2 o3 o4 : Option V, σ = [some (.ref a), some (.ref F), o2, o3, o4]) ∧ ButL F HX H' ∧ H' F = some (.lst ((W i).map V.str))) ⟨⟨none, none, none, rfl⟩, kL, eFL⟩ (fun i σ H' _ h => sameX h.2.1 _ _ eX) (fun i k v σ H4 hk h => ?_) (fun σ H4 h => ?_)
    · obtain ⟨⟨o2, o3, o4, rfl⟩, k4, e4⟩ := h
      obtain ⟨p, hp, ek⟩ : ∃ p, ps[i]? = some p ∧ (k, v) = (Sum.inr p.1.1, V.ref p.2) := by
        unfold kvsP at hk
        rw [List.getElem?_map] at hk
        obtain ⟨p, hp, e⟩ := Option.map_eq_some_iff.mp hk
        exact ⟨p, hp, e.symm⟩
      cases ek
      have pm := List.mem_of_getElem? hp
      have X4 := XL.same (sameX k4)
      obtain ⟨ch, ks, eq, kk⟩ := XL.row p pm
      have k44 := kids4 p pm
      have dg : ∀ {H' : Hp}, Same HX H' → DGet H' tb (kV (Sum.inr p.1.1)) (some (.ref p.2)) := fun s => .inl ⟨kvsP ps, Sum.inr p.1.1, (XL.same s).dict, rfl, (kvsP_val nd pm).symm⟩
      refine ⟨.ref F, rfl, .inl ⟨rfl, _, .inl (.inl e4)⟩, _, rfl, a, _, _, .ref tb, rfl, rfl, .inl (.inl X4.at_), by rfl, _, rfl, tb, .ref p.2, rfl, dg (sameX k4), p.2, _, _, .str p.1.2.1, rfl, rfl, .inl (.inl (sameX k4 _ _ eq)), by rfl, F, _, _, rfl, rfl, e4, ?_, ?_⟩
      · rw [List.length_map]
        exact big (by have := all i; omega)
      have k5 : ButL F HX (upd H4 F (.lst ((W i).map V.str ++ [.str p.1.2.1]))) := fun c o n h => by rw [upd_ne n]; exact k4 _ _ n h
      have e5 : (upd H4 F (.lst ((W i).map V.str ++ [.str p.1.2.1]))) F = some (.lst ((W i ++ [p.1.2.1]).map V.str)) := by rw [upd_same, List.map_append]; rfl
      generalize upd H4 F (.lst ((W i).map V.str ++ [.str p.1.2.1])) = H5 at k5 e5 ⊢
      have X5 := XL.same (sameX k5)
      have kc5 := sameX k5 _ _ kk.at_
      refine ⟨.ref F, rfl, .inl ⟨rfl, _, .inl (.inl e5)⟩, _, rfl, a, _, _, .ref tb, rfl, rfl, .inl (.inl X5.at_), by rfl, _, rfl, tb, .ref p.2, rfl, dg (sameX k5), p.2, _, _, .ref ch, rfl, rfl, .inl (.inl (sameX k5 _ _ eq)), by rfl, ch, rfl, ⟨_, .inl (.inl kc5)⟩, fun D nD => ?_⟩
      have kl := kk.len
      have FD' : F ≠ D := fun z => by rw [z, nD] at e5; cases e5
      refine lc_tup (K := K) (a := ch) (xs := ks.map V.ref) (fun j H' => Same H5 H' ∧ H' D = some (.lst (((p.1.2.2.take j).map (·.1)).map V.str))) ⟨same_put nD (Same.refl _), upd_same⟩ (fun j H' _ h => .inl (.inl (h.1 _ _ kc5))) (fun j x H6 hx h => ?_) (fun H6 h => ?_)
      · obtain ⟨s6, e6⟩ := h
        rw [List.getElem?_map] at hx
        obtain ⟨u, hu, rfl⟩ := Option.map_eq_some_iff.mp hx
        obtain ⟨⟨m, k'⟩, hc', ku⟩ := kk.get hu
        have u4 := s6 _ _ (sameX k5 _ _ ku.at_)
        refine ⟨u, _, rfl, .inl (.inl u4), rfl, .str m, _, rfl, .int k', _, rfl, rfl, rfl, _, rfl, _, e6, ?_, same_put nD s6, ?_⟩
        · rw [List.length_map, List.length_map, List.length_take]
          exact big (by omega)
        · rw [upd_same, List.take_add_one, hc', List.map_append, List.map_append]
          rfl
      · obtain ⟨s6, e6⟩ := h
        rw [List.length_map] at e6
        have full : p.1.2.2.take ks.length = p.1.2.2 := List.take_of_length_le (Nat.le_of_eq kl.symm)
        rw [full] at e6
        refine ⟨F, D, _, _, rfl, rfl, s6 _ _ e5, e6, ?_, ⟨_, _, _, rfl⟩, fun c o n h => ?_, ?_⟩
        · rw [List.length_map, List.length_append, List.length_map, List.length_map, List.length_singleton]
          have := all i
          exact Nat.le_of_lt (big (by omega))
        · rw [upd_ne n]
          exact s6 _ _ (k5 _ _ n h)
        · rw [upd_same, wS hp]
          simp only [List.map_append]
    · obtain ⟨⟨o2, o3, o4, rfl⟩, k4, e4⟩ := h
      have kl : (kvsP ps).length = ps.length := by unfold kvsP; rw [List.length_map]
      rw [kl] at e4
      have lt := all ps.length
      refine ⟨sameX k4 _ _ eX, ?_⟩
      have s4 := back k4
      have e5 : (upd H4 tb (.dK (kvsP ps))) F = some (.lst ((W ps.length).map V.str)) := by rw [upd_ne ltb]; exact e4
      generalize upd H4 tb (.dK (kvsP ps)) = H5 at s4 e5 ⊢
      refine ⟨_, rfl, F, W ps.length, dd (ts ++ said (ps.map (·.1))), rfl, .inl (.inl (.inl e5)), by omega, wE, fun st c nst hc hcL => ?_⟩
      have s5 := same_new (o := TsO P w st (among (W ps.length) (W ps.length).length) c) nst
      refine ⟨st, W ps.length, c, rfl, upd_same, by omega, fun zs p mem srt nd' _ np => ?_⟩
      have s6 := same_new (o := .lst (zs.map V.str)) np
      refine q p zs _ ((s4.trans s5).trans s6) (same_none (s4.trans s5) np) upd_same (fun z => ?_) ?_
      · have := (mem b).mpr wb
        rw [z] at this
        cases this
      · have := nodup_len zs (dd (ts ++ said (ps.map (·.1)))) nd' fun k hk => wE k ((mem k).mp hk)
        omega
end
end K11
set_option Elab.async false
set_option linter.all false
set_option autoImplicit false
set_option maxRecDepth 100000
set_option maxHeartbeats 4000000
namespace K11
open PySem PySem.Spec PyProof.Rows L2 Vb Wd Xd Xo Xv SX Pc Zc Oi RZ Zt Zk Of Og Oh Ot Zm Fh
/-! ### what depends on the forms by their names alone -/
section
variable {ds ds' : List FD}
theorem held_congr (h : ∀ n, formOf ds n = formOf ds' n) (p : Pic) : ∀ ss, held ds p ss = held ds' p ss := by
  refine Pic.ind (P := fun p => ∀ ss, held ds p ss = held ds' p ss) (fun ss => rfl) (fun n ps ih ss => ?_) p
  have all : ∀ qs : List Pic, (∀ q ∈ qs, q ∈ ps) → ∀ ss, heldL ds qs ss = heldL ds' qs ss := fun qs => by
    induction qs with
    | nil => intro _ _; rfl
    | cons q qs ihq =>
      intro sub ss
      show held ds q _ :: heldL ds qs _ = held ds' q _ :: heldL ds' qs _
      rw [ih q (sub q (List.mem_cons_self ..)), ihq fun x hx => sub x (List.mem_cons_of_mem _ hx)]
  cases e : formOf ds n with
  | none => simp [held, e, ← h n]
  | some d => rw [held_node e, held_node ((h n).symm.trans e), all ps fun q hq => hq]
theorem below_congr (h : ∀ n, formOf ds n = formOf ds' n) (p : Pic) : ∀ lv, below ds p lv = below ds' p lv := by
  refine Pic.ind (P := fun p => ∀ lv, below ds p lv = below ds' p lv) (fun ss => rfl) (fun n ps ih lv => ?_) p
  have all : ∀ (qs : List Pic) (cs : List (Str × Int)), (∀ q ∈ qs, q ∈ ps) → belowL ds qs cs lv = belowL ds' qs cs lv := fun qs => by
    induction qs with
    | nil => intro _ _; rfl
    | cons q qs ihq =>
      intro cs sub
      cases cs with
      | nil => rfl
      | cons c cs => rw [belowL_step, belowL_step, ihq cs fun x hx => sub x (List.mem_cons_of_mem _ hx), ih q (sub q (List.mem_cons_self ..))]
  cases e : formOf ds n with
  | none => simp [below, e, ← h n]
  | some d => rw [below_node e, below_node ((h n).symm.trans e), all ps d.2.2 fun q hq => hq]
theorem formed_congr (h : ∀ n, formOf ds n = formOf ds' n) (p : Pic) : formed ds p = formed ds' p := by
  cases p with
  | hole => rfl
  | node n ps =>
    cases e : formOf ds n with
    | none => rw [formed_no e, formed_no ((h n).symm.trans e)]
    | some d => rw [formed_yes e, formed_yes ((h n).symm.trans e)]
theorem sortOk_congr (h : ∀ n, formOf ds n = formOf ds' n) (so : Str) (p : Pic) : sortOk ds so p = sortOk ds' so p := by
  cases p with
  | hole => rfl
  | node n ps => simp only [sortOk, h n]
theorem sound_congr (h : ∀ n, formOf ds n = formOf ds' n) (p : Pic) : sound ds p = sound ds' p := by
  refine Pic.ind (P := fun p => sound ds p = sound ds' p) rfl (fun n ps ih => ?_) p
  have all : ∀ (qs : List Pic) (cs : List (Str × Int)), (∀ q ∈ qs, q ∈ ps) → soundL ds qs cs = soundL ds' qs cs := fun qs => by
    induction qs with
    | nil => intro _ _; simp [soundL]
    | cons q qs ihq =>
      intro cs sub
      cases cs with
      | nil => simp [soundL]
      | cons c cs =>
        show ((isHole q || (sound ds q && sortOk ds c.1 q)) && soundL ds qs cs) = ((isHole q || (sound ds' q && sortOk ds' c.1 q)) && soundL ds' qs cs)
        rw [ihq cs fun x hx => sub x (List.mem_cons_of_mem _ hx), ih q (sub q (List.mem_cons_self ..)), sortOk_congr h]
  cases e : formOf ds n with
  | none =>
    have h1 : sound ds (.node n ps) = (formed ds (.node n ps) && soundL ds ps (kidsOf ds (.node n []))) := rfl
    have h2 : sound ds' (.node n ps) = (formed ds' (.node n ps) && soundL ds' ps (kidsOf ds' (.node n []))) := rfl
    rw [h1, h2, formed_no e, formed_no ((h n).symm.trans e)]
    rfl
  | some d => rw [sound_node e, sound_node ((h n).symm.trans e), formed_congr h, all ps d.2.2 fun q hq => hq]
end
theorem form_perm {ds rows : List FD} (pm : ds.Perm rows) (nd : (rows.map (·.1)).Nodup) (n : List Nat) : formOf ds n = formOf rows n := by
  have nd' : (ds.map (·.1)).Nodup := (pm.map (·.1)).nodup_iff.mpr nd
  cases e : formOf ds n with
  | some d =>
    obtain ⟨m, em⟩ := formOf_mem e
    exact (formOf_at nd (pm.mem_iff.mp m) em).symm
  | none =>
    cases e' : formOf rows n with
    | none => rfl
    | some d =>
      obtain ⟨m, em⟩ := formOf_mem e'
      rw [formOf_at nd' (pm.mem_iff.mpr m) em] at e
      cases e
/-! ### spots as data -/
/-- names and small levels -/
def SpotsOk (ss : List SpT) : Prop := ∀ s ∈ ss, isNam (.str s.1) = true ∧ s.2.natAbs < 10 ^ 60
theorem spots_yes {ss : List SpT} {n : Nat} (h : SpotsOk ss) (l : ss.length = n) : spotsD (.tuple (ss.map spP)) n = true := by
  show ((ss.map spP).all spotD && decide ((ss.map spP).length = n)) = true
  rw [List.length_map, decide_eq_true l, Bool.and_true, List.all_map, List.all_eq_true]
  intro s hs
  obtain ⟨a, b⟩ := h s hs
  show (isNam (.str s.1) && decide (s.2.natAbs < 10 ^ 60)) = true
  rw [a, decide_eq_true b]
  rfl
theorem spots_okD {ss : List SpT} (h : SpotsOk ss) : okD (.tuple (ss.map spP)) = true := by
  show okDs (ss.map spP) = true
  refine okDs_of fun d hd => ?_
  obtain ⟨s, hs, rfl⟩ := List.mem_map.mp hd
  obtain ⟨a, b⟩ := h s hs
  show ((decide (s.1.length ≤ 1000) && s.1.cps.toList.all fun c => decide (c < 128)) && (decide (s.2.natAbs < 10 ^ 100) && true)) = true
  have l8 := (nam_len a).2.1
  rw [decide_eq_true (show s.1.length ≤ 1000 by omega), decide_eq_true (Nat.lt_trans b (by decide)), Bool.true_and, Bool.true_and, Bool.and_true, List.all_eq_true]
  exact fun c hc => decide_eq_true (nam_asc a c hc)
theorem below_facts {ds : List FD} (nam : ∀ d ∈ ds, ∀ c ∈ d.2.2, isNam (.str c.1) = true ∧ 0 ≤ c.2 ∧ c.2 ≤ 3) (p : Pic) : ∀ lv : Int, ∀ s ∈ below ds p lv, isNam (.str s.1) = true ∧ lv - 3 * (p.lev : Int) ≤ s.2 ∧ s.2 ≤ lv := by
  refine Pic.ind (P := fun p => ∀ lv : Int, ∀ s ∈ below ds p lv, isNam (.str s.1) = true ∧ lv - 3 * (p.lev : Int) ≤ s.2 ∧ s.2 ≤ lv) (fun lv s h => nomatch h) (fun n ps ih lv s h => ?_) p
  cases e : formOf ds n with
  | none => simp [below, e] at h
  | some d =>
    rw [below_node e] at h
    have hd := (formOf_mem e).1
    have hl : ((Pic.node n ps).lev : Int) = 1 + (levL ps : Int) := by
      show ((1 + levL ps : Nat) : Int) = _
      omega
    have all : ∀ (qs : List Pic) (cs : List (Str × Int)), (∀ q ∈ qs, q ∈ ps) → (∀ c ∈ cs, c ∈ d.2.2) → ∀ s ∈ belowL ds qs cs lv, isNam (.str s.1) = true ∧ lv - 3 * (1 + (levL ps : Int)) ≤ s.2 ∧ s.2 ≤ lv := fun qs => by
      induction qs with
      | nil => intro _ _ _ s h; cases h
      | cons q qs ihq =>
        intro cs sub subc s h
        cases cs with
        | nil => cases h
        | cons c cs =>
          rw [belowL_step] at h
          rcases List.mem_append.mp h with h | h
          · obtain ⟨cn, c0, c3⟩ := nam d hd c (subc c (List.mem_cons_self ..))
            have ql := lev_le (sub q (List.mem_cons_self ..))
            by_cases hq : isHole q = true
            · rw [if_pos hq] at h
              rw [List.mem_singleton.mp h]
              refine ⟨cn, ?_, ?_⟩
              · show lv - 3 * (1 + (levL ps : Int)) ≤ lv - c.2
                omega
              · show lv - c.2 ≤ lv
                omega
            · rw [if_neg hq] at h
              obtain ⟨a, b1, b2⟩ := ih q (sub q (List.mem_cons_self ..)) _ s h
              exact ⟨a, by omega, by omega⟩
          · exact ihq cs (fun x hx => sub x (List.mem_cons_of_mem _ hx)) (fun x hx => subc x (List.mem_cons_of_mem _ hx)) s h
    rw [hl]
    exact all ps d.2.2 (fun q hq => hq) (fun c hc => hc) s h
theorem eqv_spO (x y : Option SpT) : PyData.eqv (spO x) (spO y) = decide (x = y) := by
  cases x with
  | none => cases y <;> rfl
  | some s =>
    cases y with
    | none => rfl
    | some t =>
      obtain ⟨a, i⟩ := s
      obtain ⟨b, j⟩ := t
      show ((a == b) && ((i == j) && true)) = _
      by_cases h1 : a = b <;> by_cases h2 : i = j <;> simp [h1, h2]
theorem spO_nodict (x : Option SpT) : (spO x).hasDict = false := by
  cases x <;> rfl
theorem lays_spP {s : SpT} (a : Asc s.1) : Lays 1 (spP s) := lays_tup fun d hd => by
  rcases List.mem_cons.mp hd with rfl | hd
  · exact lays_str a
  · cases List.mem_singleton.mp hd
    exact lays_int _
theorem lays_spO {x : Option SpT} (a : ∀ s, x = some s → Asc s.1) : Lays 1 (spO x) := by
  cases x with
  | none => exact ⟨rfl, Nat.zero_le _⟩
  | some s => exact lays_spP (a s rfl)
theorem lays_spots {ss : List SpT} (a : ∀ s ∈ ss, Asc s.1) : Lays 2 (.tuple (ss.map spP)) := lays_tup fun d hd => by
  obtain ⟨s, hs, rfl⟩ := List.mem_map.mp hd
  exact lays_spP (a s hs)
theorem eqv_spots : ∀ ss ts : List SpT, PyData.eqv (.tuple (ss.map spP)) (.tuple (ts.map spP)) = decide (ss = ts)
  | [], [] => rfl
  | [], _ :: _ => rfl
  | _ :: _, [] => rfl
  | s :: ss, t :: ts => by
    have ih : PyData.eqvAll (ss.map spP) (ts.map spP) = decide (ss = ts) := eqv_spots ss ts
    have e1 : PyData.eqv (spP s) (spP t) = decide (some s = some t) := eqv_spO (some s) (some t)
    show (PyData.eqv (spP s) (spP t) && PyData.eqvAll (ss.map spP) (ts.map spP)) = _
    rw [ih, e1]
    by_cases h1 : s = t <;> by_cases h2 : ss = ts <;> simp [h1, h2]
theorem spots_nodict : ∀ ss : List SpT, PyData.hasDictAll (ss.map spP) = false
  | [] => rfl
  | s :: ss => by
    show ((spP s).hasDict || PyData.hasDictAll (ss.map spP)) = false
    rw [spots_nodict ss]
    rfl
theorem held_name {ds : List FD} {p : Pic} {ss : List SpT} {s : SpT} (h : held ds p ss = some s) : s ∈ ss ∨ ∃ d ∈ ds, s.1 = d.2.1 := by
  cases p with
  | hole =>
    cases ss with
    | nil => cases h
    | cons t ts =>
      have : t = s := by
        have h : some t = some s := h
        exact Option.some.inj h
      exact .inl (this ▸ List.mem_cons_self ..)
  | node n ps =>
    cases e : formOf ds n with
    | none => simp [held, e] at h
    | some d =>
      rw [held_node e] at h
      refine .inr ⟨d, (formOf_mem e).1, ?_⟩
      cases eo : okRes d.2.2 (heldL ds ps ss) with
      | none => rw [eo] at h; cases h
      | some ls =>
        rw [eo] at h
        have h : (if sameL ls = true then some (d.2.1, ls.headD 0) else none) = some s := h
        split at h
        · cases h
          rfl
        · cases h
end K11
set_option Elab.async false
set_option linter.all false
set_option autoImplicit false
set_option maxRecDepth 100000
set_option maxHeartbeats 4000000
namespace K11
open PySem PySem.Spec PyProof.Rows L2 Vb Wd Xd Xo Xv SX Pc Zc Oi RZ Zt Zk Of Og Oh Ot Zm Fh
theorem pcs_noDz : ∀ ps : List Pic, (∀ p ∈ ps, noDz (pcD p) = true) → noDzs (pcDL ps) = true
  | [], _ => rfl
  | p :: ps, h => by
    show (noDz (pcD p) && noDzs (pcDL ps)) = true
    rw [h p (List.mem_cons_self ..), pcs_noDz ps fun q hq => h q (List.mem_cons_of_mem _ hq)]
    rfl
theorem pc_noDz (p : Pic) : noDz (pcD p) = true := by
  refine Pic.ind (P := fun p => noDz (pcD p) = true) rfl (fun n ps ih => ?_) p
  show (true && ((!(decide ((pcDL ps).length = 3) && (pcDL ps).all isI) && noDzs (pcDL ps)) && true)) = true
  rw [pcs_noDz ps ih]
  cases ps with
  | nil => rfl
  | cons q ps =>
    have : ((pcDL (q :: ps)).all isI) = false := by
      show (isI (pcD q) && _) = false
      cases q <;> rfl
    rw [this]
    simp
theorem Keeps.past {d : Addr} {H H' : Hp} (hd : Dice H d) (p : Past d H H') : Keeps H H' :=
  ⟨fun a xs n h => p.1 _ _ (fun z => by
      obtain ⟨g, s, c, e⟩ := hd
      rw [z, e] at h
      exact n g s c (HO.lst.inj (Option.some.inj h)).symm) h, fun a xs h => p.1 _ _ (ne_dice hd h fun _ _ _ z => nomatch z) h, fun a kvs h => p.1 _ _ (ne_dice hd h fun _ _ _ z => nomatch z) h⟩
theorem ne_data {K : PySem.W.Frag} {H : Hp} {a b : V} {d e : PyData} {Q : VK} {n m : Nat} (ha : Dt H a d) (hb : Dt H b e) (nd : d.hasDict = false) (ne : e.hasDict = false) (ld : Lays n d) (le : Lays m e) (n64 : n ≤ 64) (m64 : m ≤ 64) (k : Q (.bl (!PyData.eqv d e)) H) : rNeD K a b H Q :=
  ⟨d, e, Dt.dp _ _ nd ha, Dt.dp _ _ ne hb, ld.shaped n64, le.shaped m64, k⟩
theorem eq_data {K : PySem.W.Frag} {H : Hp} {a b : V} {d e : PyData} {Q : VK} {n m : Nat} (ha : Dt H a d) (hb : Dt H b e) (nd : d.hasDict = false) (ne : e.hasDict = false) (ld : Lays n d) (le : Lays m e) (n64 : n ≤ 64) (m64 : m ≤ 64) (k : Q (.bl (PyData.eqv d e)) H) : rEqD K a b H Q :=
  ⟨d, e, Dt.dp _ _ nd ha, Dt.dp _ _ ne hb, ld.shaped n64, le.shaped m64, k⟩
theorem same_made {CP x dx : Addr} {H H2 : Hp} (nx : H x = none) (ndx : H dx = none) (b2 : But x (upd (upd H dx (.own x)) x (.ins CP dx [])) H2) : Same H H2 := fun y o hy => by
  refine b2 _ _ (ne_of_none hy nx) ?_
  rw [upd_ne (ne_of_none hy nx), upd_ne (ne_of_none hy ndx)]
  exact hy
theorem spP_inj : ∀ {ss tt : List SpT}, ss.map spP = tt.map spP → ss = tt
  | [], [], _ => rfl
  | [], _ :: _, h => by simp at h
  | _ :: _, [], h => by simp at h
  | (a, i) :: ss, (b, j) :: tt, h => by
    rw [List.map_cons, List.map_cons] at h
    obtain ⟨h1, h2⟩ := List.cons.inj h
    have e : (PyData.str a = .str b) ∧ (PyData.int i = .int j) := by
      have := PyData.tuple.inj h1
      obtain ⟨x, y⟩ := List.cons.inj this
      exact ⟨x, (List.cons.inj y).1⟩
    rw [PyData.str.inj e.1, PyData.int.inj e.2, spP_inj h2]
section
variable {K : PySem.W.Frag} {C CS CP CI CIP CO sc x : Addr} {H : Hp} {Q : VK} {E : XK} {b : Str} {ts : List Str} {ds rows : List FD} {p : Pic}
theorem sound_at (S : SchemeAt H C CS sc b ts ds) (pm : ds.Perm rows) (nd : (rows.map (·.1)).Nodup) (pa : PicAt H CP p (.ref x)) (ok : p.Ok) (l4 : p.lev ≤ 4) (k : ∀ H', Same H H' → Q (.bl (sound rows p)) H') : spSoundX K C CS CP CI 5 [.ref sc, .ref x] H Q E :=
  ⟨.ref sc, .ref x, rfl, .inr ⟨sc, b, ts, ds, rfl, S, .inr ⟨p, pa, ok, by omega, fun H' s => by rw [sound_congr (form_perm pm nd)]; exact k H' s⟩⟩⟩
theorem spots_at (S : SchemeAt H C CS sc b ts ds) (pm : ds.Perm rows) (nd : (rows.map (·.1)).Nodup) (pa : PicAt H CP p (.ref x)) (ok : p.Ok) (l4 : p.lev ≤ 4) (sd : sound rows p = true) (k : ∀ t H', Same H H' → Dt H' (.ref t) (.tuple ((below rows p 0).map spP)) → Q (.ref t) H') : spSpotsOf K C CS CP CI CIP 5 [.ref sc, .ref x] H Q E :=
  ⟨.ref sc, .ref x, rfl, .inr ⟨sc, b, ts, ds, rfl, S, .inr ⟨p, pa, ok, by omega, l4, (fun e => by
    rw [sound_congr (form_perm pm nd), sd] at e
    cases e), fun _ t H' s d => k t H' s (by rw [← below_congr (form_perm pm nd)]; exact d)⟩⟩⟩
theorem over_at {t : Addr} {ss : List SpT} (S : SchemeAt H C CS sc b ts ds) (pm : ds.Perm rows) (nd : (rows.map (·.1)).Nodup) (pa : PicAt H CP p (.ref x)) (ok : p.Ok) (l4 : p.lev ≤ 4) (d : Dt H (.ref t) (.tuple (ss.map spP))) (so : SpotsOk ss) (l : ss.length = p.holes) (k : ∀ r H', Same H H' → Dt H' r (spO (held rows p ss)) → Q r H') : spSpotOver K C CS CP CI CIP CO 5 [.ref sc, .ref x, .ref t] H Q E :=
  ⟨.ref sc, .ref x, .ref t, rfl, .inr ⟨sc, b, ts, ds, rfl, S, .inr ⟨p, _, pa, ok, by omega, l4, d, spots_okD so, by
    show (ss.map spP).length ≤ 600
    rw [List.length_map, l]
    have := holes256 ok l4
    omega, (fun e => by
    rw [spots_yes so l] at e
    cases e), fun _ ss' e r H' s hr => k r H' s (by
      have := spP_inj (PyData.tuple.inj e)
      rw [← held_congr (form_perm pm nd), this]
      exact hr)⟩⟩⟩
end
theorem cutP_take (ds : List PyData) (m : Nat) : cutP ds none (some (m : Int)) = ds.take m := by
  unfold cutP
  rw [HT.sIx_none, HT.sIx_nat, List.drop_zero, Nat.sub_zero]
  by_cases h : m ≤ ds.length
  · rw [Nat.min_eq_left h]
  · rw [Nat.min_eq_right (by omega), List.take_of_length_le (Nat.le_refl _), List.take_of_length_le (by omega)]
theorem cutP_drop (ds : List PyData) (m : Nat) : cutP ds (some ((m : Int) + 1)) none = ds.drop (m + 1) := by
  unfold cutP
  have e : HT.sIx ds.length 0 (some ((m : Int) + 1)) = min (m + 1) ds.length := HT.sIx_nat _ _ (m + 1)
  rw [e, HT.sIx_none]
  by_cases h : ds.length ≤ m + 1
  · rw [Nat.min_eq_right h, List.drop_of_length_le (Nat.le_refl _), List.drop_of_length_le h, List.take_nil]
  · rw [Nat.min_eq_left (by omega), List.take_of_length_le (by rw [List.length_drop]; exact Nat.le_refl _)]
theorem set_cut {ss : List SpT} {j : Nat} (h : j < ss.length) (x : SpT) : (cutP (ss.map spP) none (some (j : Int)) ++ [spP x]) ++ cutP (ss.map spP) (some ((j : Int) + 1)) none = (ss.set j x).map spP := by
  rw [cutP_take, cutP_drop, List.set_eq_take_append_cons_drop, if_pos h, List.map_append, List.map_cons, List.map_take, List.map_drop, List.append_assoc]
  rfl
/-- one of some numbers -/
def isMore (_ : Hp) (v : V) : Prop := ∃ m : Int, v = .int m ∧ m ≠ 0 ∧ m.natAbs ≤ 10 ^ 30
/-- what is known of the program's defs that the law asks -/
structure EnvP (P : Program) (w : World) (K : PySem.W.Frag) (mg : Str → Option Value) (base : Heap) (C CS CP CI CIP CO : Addr) where
  VQ : EnvQ P w K mg base CP
  FP : FnG P w K mg base 14 VQ.fI VQ.fdI ["self", "text"] (spInitP CP 5)
  G_sound : CgE P w K mg base 18 "is_sound_picture" (spSoundX K C CS CP CI 5)
  G_spots : CgE P w K mg base 19 "spots_of" (spSpotsOf K C CS CP CI CIP 5)
  G_over : CgE P w K mg base 14 "spot_over" (spSpotOver K C CS CP CI CIP CO 5)
abbrev s_l_sound_right : Stmt := topS 66
abbrev nSR : List Str := ["_law_dice_here", "_law_plain", "_law_scheme_here", "_law_picture", "_law_made", "_law_due", "_law_sort", "_law_more", "_law_higher", "_law_at", "_law_near", "_law_other", "_law_one", "_law_level"]
theorem sc_l_sound_right : FnScope nSR ["_law_dice_here", "_law_plain", "_law_scheme_here", "_law_picture"] (defScope s_l_sound_right) := ⟨rfl, rfl, rfl, by decide +kernel, rfl, by decide +kernel, by decide +kernel⟩
def spSR (C CS : Addr) : Sp := fun vs H Q _ => ∃ (d a sc tl tb : Addr) (v : V) (b : Str) (ts : List Str) (ps : List (FD × Addr)) (ds : List FD) (p : Pic), vs = [.ref d, .ref a, .ref sc, v] ∧ Dice H d ∧ Held H a tl tb b ts ps ∧ SchOk b ts (ps.map (·.1)) ∧ SchemeAt H C CS sc b ts ds ∧ ds.Perm (ps.map (·.1)) ∧
  PlainOk (ps.map (·.1)) ∧ (∀ r ∈ ps.map (·.1), ∀ c ∈ r.2.2, isNam (.str c.1) = true ∧ c.1 ≠ ("zz" : Str) ∧ 0 ≤ c.2 ∧ c.2 ≤ 3) ∧ Dt H v (pcD p) ∧ p.Ok ∧ p.lev ≤ 4 ∧ sound (ps.map (·.1)) p = true ∧ ∀ H', Past d H H' → Q (.bl true) H'
section
variable {P : Program} {w : World} {K : PySem.W.Frag} {mg : Str → Option Value} {base : Heap} {C CS CP CI CIP CO : Addr}
theorem ok_sound_right (D : Df K mg "_law_sound_right" s_l_sound_right ["_law_dice_here", "_law_plain", "_law_scheme_here", "_law_picture"]) (EP : EnvP P w K mg base C CS CP CI CIP CO) (G_l_written : Cg P w K mg base 6 "_law_written" (spWritten 5)) (G_l_steps_to : Cg P w K mg base 6 "_law_steps_to" (spSteps 5))
    (G_l_roll : Cg P w K mg base 1 "_law_roll" spRoll) (G_l_pick : Cg P w K mg base 2 "_law_pick" (spPick K)) (z_tuple : mg "tuple" = none) (z_len : mg "len" = none) : Cg P w K mg base 20 "_law_sound_right" (spSR C CS) := by
  refine D.ok sc_l_sound_right (fun vs H Q E h => ?_) (fun cdv A outer s H vs Q E f0 hc hr h => ?_)
  · obtain ⟨d, a, sc, tl, tb, v, b, ts, ps, ds, p, rfl, _⟩ := h
    rfl
  · obtain ⟨d, a, sc, tl, tb, v, b, ts, fs, ds, p, rfl, hd, X, SO, S, pm, O, kids, PD, ok, l4, sd, q⟩ := h
    refine ⟨_, (pss_cons (ps_par (i := 4) (j := 5) (by rfl) sc_l_sound_right.nd rfl rfl (by decide) rfl rfl (pa_cons (pe_makeE (E := fun _ _ _ => False) (W := fun _ _ _ _ => False) EP.VQ.M (FnE.of EP.FP) hc (hr.mono (by decide)) (by rfl) EP.VQ.g EP.VQ.bI LamX.takes0 (fun _ _ _ _ z => z) (pa_cons (pe_cg G_l_written hc hr (by rfl) (pa_cons (pv 3) pa_nil)) pa_nil)) (pa_cons (pe_callTy (cr_tuple : CallR _ _ (rTup K)) (by rfl) z_tuple (by decide +kernel) (pa_cons (pe_cg G_l_steps_to hc hr (by rfl) (pa_cons (pv 1) (pa_cons (pv 3) (pa_cons pe_int pa_nil)))) pa_nil)) pa_nil)) (by rfl))
      (pss_cons (ps_asg (pe_tup (pa_cons (pe_ix (ix_tup : IxR _ (rIxT K)) (pe_dget (hu_of hr) (pe_ix (ix_list : IxR _ (rIxL K)) (pv 1) pe_int (fun _ _ => rfl)) (pe_ix (ix_tup : IxR _ (rIxT K)) (pv 3) pe_int (fun _ _ => rfl)) (fun _ _ => rfl)) pe_int (fun _ _ => rfl)) (pa_cons (pe_cg G_l_pick hc hr (by rfl) (pa_cons (pv 0) (pa_cons (pe_lst (pa_cons pe_int (pa_cons (pe_un un_neg pe_int) (pa_cons pe_int (pa_cons (pe_un un_neg pe_int) (pa_cons (pe_op op_powW pe_int pe_int) pa_nil)))))) pa_nil))) pa_nil))) (pg_tup (by rfl) (pgs_cons (pg_name (i := 6) sc_l_sound_right.nd rfl (Or.inl rfl)) (pgs_cons (pg_name (i := 7) sc_l_sound_right.nd rfl (Or.inr rfl)) pgs_nil))))
      (pss_cons (ps_if (PW.pt (pw_or (pt_cmpR op_notBl (pe_cgE (E := fun _ _ _ => False) (W := fun _ _ _ _ => False) EP.G_sound hc hr (by rfl) LamX.takes0 (fun _ _ _ _ z => z) (pa_cons (pv 2) (pa_cons (pv 4) pa_nil))) pe_bl (nomark _)) (pw_or1 (pt_cmpR (op_neD hr.units : OpR _ (compareOp .NotEq) (rNeD K)) (pe_cgE (E := fun _ _ _ => False) (W := fun _ _ _ _ => False) EP.G_spots hc hr (by rfl) LamX.takes0 (fun _ _ _ _ z => z) (pa_cons (pv 2) (pa_cons (pv 4) pa_nil))) (pv 5) (nomark _)))))
      (pss_one (ps_ret pe_bl))
      pss_nil)
      (pss_cons (ps_if (pt_cmpR (op_neD hr.units : OpR _ (compareOp .NotEq) (rNeD K)) (pe_cgE (E := fun _ _ _ => False) (W := fun _ _ _ _ => False) EP.G_over hc hr (by rfl) LamX.takes0 (fun _ _ _ _ z => z) (pa_cons (pv 2) (pa_cons (pv 4) (pa_cons (pv 5) pa_nil)))) (pe_tup (pa_cons (pv 6) (pa_cons pe_int pa_nil))) (nomark _))
      (pss_one (ps_ret pe_bl))
      pss_nil)
      (pss_cons (ps_set (i := 8) sc_l_sound_right.nd rfl (Or.inl rfl) (pe_callTy (cr_tuple : CallR _ _ (rTup K)) (by rfl) z_tuple (by decide +kernel) (pa_cons (pe_lc (own := [("_law_one", 12), ("_law_level", 13)]) (g := gTup K 2 (gCons (gName 12) (gCons (gName 13) gNil))) (by rfl) sc_l_sound_right.nd (pi_tup (pv 5)) (blkOk_by (own := [("_law_one", 12), ("_law_level", 13)]) (N := nSR) (sc := defScope s_l_sound_right) (by decide +kernel)) (fun _ _ _ _ _ => pg_tup (by rfl) (pgs_cons (pg_name (i := 12) sc_l_sound_right.nd rfl (Or.inl rfl)) (pgs_cons (pg_name (i := 13) sc_l_sound_right.nd rfl (Or.inl rfl)) pgs_nil))) (fun _ _ _ _ _ => pts_nil) (fun _ _ _ _ _ => (pe_tup (pa_cons (pv 12) (pa_cons (pe_op op_add (pv 13) (pv 7)) pa_nil))))) pa_nil)))
      (pss_cons (ps_if (pt_cmpR (op_neD hr.units : OpR _ (compareOp .NotEq) (rNeD K)) (pe_cgE (E := fun _ _ _ => False) (W := fun _ _ _ _ => False) EP.G_over hc hr (by rfl) LamX.takes0 (fun _ _ _ _ z => z) (pa_cons (pv 2) (pa_cons (pv 4) (pa_cons (pv 8) pa_nil)))) (pe_tup (pa_cons (pv 6) (pa_cons (pv 7) pa_nil))) (nomark _))
      (pss_one (ps_ret pe_bl))
      pss_nil)
      (pss_cons (ps_set (i := 9) sc_l_sound_right.nd rfl (Or.inl rfl) (pe_cg G_l_roll hc hr (by rfl) (pa_cons (pv 0) (pa_cons (pe_callB call_len_seq (by rfl) z_len PySem.boot_len (pa_cons (pv 5) pa_nil)) pa_nil))))
      (pss_cons (ps_set (i := 10) sc_l_sound_right.nd rfl (Or.inl rfl) (pe_op (op_catA : OpR _ _ (rCatA K)) (pe_op (op_catA : OpR _ _ (rCatA K)) (pe_slice (sl_tupA : SlR _ (rSlA K)) (pv 5) po_none (po_some (pv 9))) (pe_tup (pa_cons (pe_tup (pa_cons (pe_ix (ix_tup : IxR _ (rIxT K)) (pe_ix (ix_tup : IxR _ (rIxT K)) (pv 5) (pv 9) (fun _ _ => rfl)) pe_int (fun _ _ => rfl)) (pa_cons (pe_op op_add (pe_ix (ix_tup : IxR _ (rIxT K)) (pe_ix (ix_tup : IxR _ (rIxT K)) (pv 5) (pv 9) (fun _ _ => rfl)) pe_int (fun _ _ => rfl)) (pv 7)) pa_nil))) pa_nil))) (pe_slice (sl_tupA : SlR _ (rSlA K)) (pv 5) (po_some (pe_op op_add (pv 9) pe_int)) po_none)))
      (pss_cons (ps_set (i := 11) sc_l_sound_right.nd rfl (Or.inl rfl) (pe_op (op_catA : OpR _ _ (rCatA K)) (pe_op (op_catA : OpR _ _ (rCatA K)) (pe_slice (sl_tupA : SlR _ (rSlA K)) (pv 5) po_none (po_some (pv 9))) (pe_tup (pa_cons (pe_tup (pa_cons pe_str (pa_cons (pe_ix (ix_tup : IxR _ (rIxT K)) (pe_ix (ix_tup : IxR _ (rIxT K)) (pv 5) (pv 9) (fun _ _ => rfl)) pe_int (fun _ _ => rfl)) pa_nil))) pa_nil))) (pe_slice (sl_tupA : SlR _ (rSlA K)) (pv 5) (po_some (pe_op op_add (pv 9) pe_int)) po_none)))
      (pss_one (ps_ret (pe_and (pe_cmpR op_isN (pe_cgE (E := fun _ _ _ => False) (W := fun _ _ _ _ => False) EP.G_over hc hr (by rfl) LamX.takes0 (fun _ _ _ _ z => z) (pa_cons (pv 2) (pa_cons (pv 4) (pa_cons (pv 10) pa_nil)))) pe_non (nomark _)) (pe_one (pe_cmpR op_isN (pe_cgE (E := fun _ _ _ => False) (W := fun _ _ _ _ => False) EP.G_over hc hr (by rfl) LamX.takes0 (fun _ _ _ _ z => z) (pa_cons (pv 2) (pa_cons (pv 4) (pa_cons (pv 11) pa_nil)))) pe_non (nomark _))))))))))))))), ?_⟩
    have m256 := holes256 ok l4
    have nd := O.once
    cases p with
    | hole => cases sd
    | node n' ps =>
    obtain ⟨v', lp, ys, rfl, hv, hlp, yl, items⟩ := pc_node PD
    obtain ⟨d', ef, dl'⟩ := formed_form (sound_formed sd)
    have top : topS' (fs.map (·.1)) (.node n' ps) = d'.2.1 := by simp [topS', ef]
    have sb := sound_below (.node n' ps) ok sd
    rw [top] at sb
    have hpos := holes_pos _ ok
    have bf := below_facts (fun d hd c hc => ⟨(kids d hd c hc).1, (kids d hd c hc).2.2⟩) (.node n' ps)
    have ss_ok : ∀ m : Int, m.natAbs ≤ 10 ^ 31 → SpotsOk (below (fs.map (·.1)) (.node n' ps) m) := fun m hm s hs => by
      obtain ⟨a1, a2, a3⟩ := bf m s hs
      refine ⟨a1, ?_⟩
      have e1 : (10 : Nat) ^ 31 = 10000000000000000000000000000000 := by decide
      have e2 : (10 : Nat) ^ 60 = 1000000000000000000000000000000000000000000000000000000000000 := by decide
      rw [e1] at hm
      rw [e2]
      omega
    have dm : d' ∈ fs.map (·.1) := (formOf_mem ef).1
    generalize ep : Pic.node n' ps = p at PD ok l4 sd m256 sb hpos bf ss_ok ⊢
    refine ⟨_, rfl, .ref v', p, rfl, PD, ok, by omega, l4, fun H1 s1 => ?_⟩
    intro x dx nx ndx ne
    refine ⟨x, dx, p, rfl, upd_same, ok, by omega, l4, fun H2 b2 pa => ⟨rfl, ?_⟩⟩
    have s2 := s1.trans (same_made nx ndx b2)
    clear nx ndx ne b2
    have X2 := X.same s2
    refine ⟨_, rfl, _, rfl, a, tl, tb, b, ts, fs, .ref v', p, 0, rfl, X2.r, Dt.same s2 _ _ PD, ok, by omega, l4, sd, fun l xs H3 s3 nl el dl => ?_⟩
    refine ⟨l, xs, rfl, .inl ⟨.inl (.inl el), fun t nt => ⟨_, _, rfl, ?_⟩⟩⟩
    have st := same_new (o := .tup xs) nt
    have et : (upd H3 t (.tup xs)) t = some (.tup xs) := upd_same
    have s4 := (s2.trans s3).trans st
    have pa4 := pa.keep (KeepP.of (s3.trans st)) _ _
    have due : Dt (upd H3 t (.tup xs)) (.ref t) (.tuple ((below (fs.map (·.1)) p 0).map spP)) := .tup et (DtAll.same st _ _ dl)
    generalize upd H3 t (.tup xs) = H4 at et s4 pa4 due ⊢
    clear st nt el dl nl pa X2
    have X4 := X.same s4
    obtain ⟨q1, ch, ks, dg, eq, kk⟩ := plain_get X4.r ef
    have hd4 := Past.same hd s4
    refine ⟨_, rfl, a, _, 2, _, rfl, rfl, .inl (.inl X4.at_), rfl, _, rfl, v', _, 0, _, rfl, rfl, .inl (.inl (s4 _ _ hv)), rfl, tb, .ref q1, rfl, dg, q1, _, 0, _, rfl, rfl, .inl (.inl eq), rfl, ?_⟩
    refine pick_yp (p := isMore) (n := 5) (fun _ h => h) rfl hd4.dice (yp_cons (fun _ h => h) (fun H1 Q s k => k _ H1 (Same.refl _) ⟨1, rfl, by decide, by decide⟩) (yp_cons (fun _ h => h) (fun H1 Q s k => ⟨1, rfl, k _ H1 (Same.refl _) ⟨-1, rfl, by decide, by decide⟩⟩) (yp_cons (fun _ h => h) (fun H1 Q s k => k _ H1 (Same.refl _) ⟨7, rfl, by decide, by decide⟩) (yp_cons (fun _ h => h) (fun H1 Q s k => ⟨40, rfl, k _ H1 (Same.refl _) ⟨-40, rfl, by decide, by decide⟩⟩) (yp_cons (fun _ h => h) (fun H1 Q s k => ⟨10, 30, rfl, rfl, ⟨by decide, by decide +kernel⟩, k _ H1 (Same.refl _) ⟨_, rfl, by decide +kernel, by decide +kernel⟩⟩) yp_nil))))) (by decide) (by decide) fun u H5 p5 hu => ?_
    obtain ⟨m, rfl, m0, mb⟩ := hu
    have p05 := hd4.trans p5
    have k45 : Keep H4 H5 := Keep.past hd4.dice p5
    have S5 := (S.same s4).keep k45
    have due5 : Dt H5 (.ref t) (.tuple ((below (fs.map (·.1)) p 0).map spP)) := Dt.tups k45.tups _ _ (spP_only _) due
    have pa5 := pa4.keep (KeepP.past hd4.dice p5) _ _
    have et5 := k45.tups _ _ et
    refine ⟨by show 2 ≤ sizeLine; decide, fun T nT => ?_⟩
    have sT := same_new (o := .tup [.str d'.2.1, .int m]) nT
    have eT : (upd H5 T (.tup [.str d'.2.1, .int m])) T = some (.tup [.str d'.2.1, .int m]) := upd_same
    have S6 := S5.same sT
    have due6 := Dt.same sT _ _ due5
    have pa6 := pa5.keep (KeepP.of sT) _ _
    have et6 := sT _ _ et5
    have p06 := p05.trans (Past.same p05.dice sT)
    generalize upd H5 T (.tup [.str d'.2.1, .int m]) = H6 at eT S6 due6 pa6 et6 p06 ⊢
    clear S5 due5 pa5 et5 p05 k45 p5 hd4 eq kk dg X4 pa4 due et s4 nT sT
    refine ⟨T, _, rfl, .inl (.inl eT), rfl, .str d'.2.1, _, rfl, .int m, _, rfl, rfl, ?_⟩
    clear eT
    -- the picture is sound
    refine ⟨_, rfl, _, rfl, ?_⟩
    dsimp only [tNil]
    refine sound_at S6 pm nd pa6 ok l4 fun H7 s7 => ?_
    rw [sd]
    refine ⟨true, true, rfl, rfl, _, rfl, ?_⟩
    refine iteF ?_
    have S7 := S6.same s7
    have due7 := Dt.same s7 _ _ due6
    have pa7 := pa6.keep (KeepP.of s7) _ _
    refine ⟨_, rfl, _, rfl, ?_⟩
    dsimp only [tNil]
    refine spots_at S7 pm nd pa7 ok l4 sd fun t' H8 s8 dt' => ⟨_, rfl, ?_⟩
    have asc0 : ∀ m : Int, ∀ s ∈ below (fs.map (·.1)) p m, Asc s.1 := fun m s hs => nam_asc (bf m s hs).1
    have due8 := Dt.same s8 _ _ due7
    refine ne_data dt' due8 (spots_nodict _) (spots_nodict _) (lays_spots (asc0 0)) (lays_spots (asc0 0)) (by decide) (by decide) ?_
    rw [eqv_spots, decide_eq_true rfl]
    refine ⟨_, rfl, iteF ?_⟩
    have S8 := S7.same s8
    have pa8 := pa7.keep (KeepP.of s8) _ _
    -- it holds over its own spots
    refine ⟨_, rfl, _, rfl, _, rfl, ?_⟩
    dsimp only [tNil]
    refine over_at S8 pm nd pa8 ok l4 due8 (ss_ok 0 (by decide)) (sb 0).1 fun r H9 s9 dr => ⟨_, rfl, by show 2 ≤ sizeLine; decide, fun u nu => ?_⟩
    have su := same_new (o := .tup [.str d'.2.1, .int 0]) nu
    have ds0 : Asc d'.2.1 := nam_asc (SO.nams d' dm).2
    have asct : ∀ m : Int, ∀ s, (some (d'.2.1, m) : Option SpT) = some s → Asc s.1 := fun m s e => by cases e; exact ds0
    rw [(sb 0).2] at dr
    refine ne_data (Dt.same su _ _ dr) (spP_mk (s := (d'.2.1, 0)) upd_same) (spO_nodict _) rfl (lays_spO (asct 0)) (lays_spP ds0) (by decide) (by decide) ?_
    have e1 : PyData.eqv (spO (some (d'.2.1, (0 : Int)))) (spP (d'.2.1, 0)) = true := by
      have := eqv_spO (some (d'.2.1, (0 : Int))) (some (d'.2.1, 0))
      rw [decide_eq_true rfl] at this
      exact this
    rw [e1]
    refine ⟨_, rfl, iteF ?_⟩
    have s8u := s9.trans su
    have S10 := S8.same s8u
    have pa10 := pa8.keep (KeepP.of s8u) _ _
    have due10 := Dt.same s8u _ _ due8
    have et10 := s8u _ _ (s8 _ _ (s7 _ _ et6))
    have p010 := p06.trans (Past.same p06.dice ((s7.trans s8).trans s8u))
    generalize upd H9 u (.tup [.str d'.2.1, .int 0]) = H10 at S10 pa10 due10 et10 p010 ⊢
    clear su dr e1 nu s9 S8 pa8 due8 s8u due7 pa7 S7 s8 dt' due6 pa6 S6 s7 p06 et6
    -- higher spots
    have dxs : DtAll H10 xs ((below (fs.map (·.1)) p 0).map spP) := by
      obtain ⟨_, _, e, e', al⟩ := dt_tup due10
      cases e
      rw [et10] at e'
      cases e'
      exact al
    have xl : xs.length = p.holes := by rw [dxs.len, List.length_map, (sb 0).1]
    dsimp only [tNext]
    refine asg_at ?_
    refine ⟨_, rfl, t, rfl, ⟨_, .inl (.inl et10)⟩, fun Dl nD => ?_⟩
    refine lc_tup (K := K) (a := t) (xs := xs) (fun i H' => Same H10 H' ∧ ∃ us, H' Dl = some (.lst us) ∧ us.length = i ∧ DtAll H' us (((below (fs.map (·.1)) p m).take i).map spP)) ⟨same_put nD (Same.refl _), [], upd_same, rfl, .nil⟩ (fun i H' _ h => .inl (.inl (h.1 _ _ et10))) (fun i y H11 hy h => ?_) (fun H11 h => ?_)
    · obtain ⟨s11, us, e11, ul, du⟩ := h
      have il := (List.getElem?_eq_some_iff.mp hy).1
      obtain ⟨dd, hdd, kd⟩ := dxs.get hy
      have ib : i < (below (fs.map (·.1)) p 0).length := by rw [(sb 0).1]; omega
      rw [List.getElem?_map, List.getElem?_eq_getElem ib] at hdd
      have hsh := below_shift (ds := fs.map (·.1)) (m := m) p 0
      rw [Int.zero_add] at hsh
      have hm : (below (fs.map (·.1)) p m)[i]? = some ((below (fs.map (·.1)) p 0)[i].1, (below (fs.map (·.1)) p 0)[i].2 + m) := by
        rw [← hsh, List.getElem?_map, List.getElem?_eq_getElem ib]
        rfl
      generalize (below (fs.map (·.1)) p 0)[i] = s0 at hdd hm
      cases hdd
      obtain ⟨ya, rfl, eya⟩ := spP_inv kd
      refine ⟨ya, _, rfl, .inl (.inl (s11 _ _ eya)), rfl, .str s0.1, _, rfl, .int s0.2, _, rfl, rfl, rfl, _, rfl, _, rfl, _, rfl, _, _, rfl, rfl, by show 2 ≤ sizeLine; decide, fun r' nr' => ?_⟩
      have sr := same_new (o := .tup [.str s0.1, .int (s0.2 + m)]) nr'
      refine ⟨us, sr _ _ e11, ?_, same_put nD (s11.trans sr), us ++ [.ref r'], upd_same, by rw [List.length_append, ul]; rfl, ?_⟩
      · exact Nat.lt_of_le_of_lt (show _ ≤ 256 by omega) (by decide)
      · rw [List.take_add_one, hm, List.map_append]
        refine DtAll.tups (Tups.putL _ (sr _ _ e11)) _ _ (by rw [← List.map_append]; exact spP_only _) ?_
        exact (DtAll.same sr _ _ du).app (.cons (spP_mk (s := (s0.1, s0.2 + m)) upd_same) .nil)
    obtain ⟨s11, us, e11, ul, du⟩ := h
    rw [List.take_of_length_le (by rw [(sb m).1, xl]; exact Nat.le_refl _)] at du
    refine ⟨Dl, us, rfl, .inl ⟨.inl (.inl e11), fun t2 nt2 => ?_⟩⟩
    have st2 := same_new (o := .tup us) nt2
    have hi12 : Dt (upd H11 t2 (.tup us)) (.ref t2) (.tuple ((below (fs.map (·.1)) p m).map spP)) := .tup upd_same (DtAll.same st2 _ _ du)
    have s12 := s11.trans st2
    have S12 := S10.same s12
    have pa12 := pa10.keep (KeepP.of s12) _ _
    have due12 := Dt.same s12 _ _ due10
    have et12 := s12 _ _ et10
    have p012 := p010.trans (Past.same p010.dice s12)
    show gName 8 (.ref t2) _ (upd H11 t2 (.tup us)) _
    generalize upd H11 t2 (.tup us) = H12 at hi12 S12 pa12 due12 et12 p012 ⊢
    clear s11 e11 ul du st2 nt2 nD s12 S10 pa10 due10 et10 p010 dxs
    refine ⟨_, rfl, _, rfl, _, rfl, ?_⟩
    dsimp only [tNil]
    refine over_at S12 pm nd pa12 ok l4 hi12 (ss_ok m (Nat.le_trans mb (by decide +kernel))) (sb m).1 fun r H13 s13 dr => ⟨_, rfl, _, rfl, by show 2 ≤ sizeLine; decide, fun u nu => ?_⟩
    have su := same_new (o := .tup [.str d'.2.1, .int m]) nu
    rw [(sb m).2] at dr
    refine ne_data (Dt.same su _ _ dr) (spP_mk (s := (d'.2.1, m)) upd_same) (spO_nodict _) rfl (lays_spO (asct m)) (lays_spP ds0) (by decide) (by decide) ?_
    have e1 : PyData.eqv (spO (some (d'.2.1, m))) (spP (d'.2.1, m)) = true := by
      have := eqv_spO (some (d'.2.1, m)) (some (d'.2.1, m))
      rw [decide_eq_true rfl] at this
      exact this
    rw [e1]
    refine ⟨_, rfl, iteF ?_⟩
    have s12u := s13.trans su
    have S14 := S12.same s12u
    have pa14 := pa12.keep (KeepP.of s12u) _ _
    have due14 := Dt.same s12u _ _ due12
    have et14 := s12u _ _ et12
    have p014 := p012.trans (Past.same p012.dice s12u)
    generalize upd H13 u (.tup [.str d'.2.1, .int m]) = H14 at S14 pa14 due14 et14 p014 ⊢
    clear su dr e1 nu s13 S12 pa12 due12 s12u et12 p012 hi12
    dsimp only [tNext]
    refine asg_at ?_
    refine ⟨_, rfl, _, rfl, t, xs, rfl, .inr (.inl (.inl et14)), d, xs.length, rfl, p014.dice, by omega, Nat.lt_of_le_of_lt (show (xs.length : Int).natAbs ≤ 256 by omega) (by decide +kernel), fun j H15 p15 j0 j1 => ?_⟩
    obtain ⟨j, rfl⟩ := nat_of j0
    have jl : j < (below (fs.map (·.1)) p 0).length := by rw [(sb 0).1]; omega
    have k15 : Keep H14 H15 := Keep.past p014.dice p15
    have p015 := p014.trans p15
    have S15 := S14.keep k15
    have pa15 := pa14.keep (KeepP.past p014.dice p15) _ _
    have due15 : Dt H15 (.ref t) (.tuple ((below (fs.map (·.1)) p 0).map spP)) := Dt.tups k15.tups _ _ (spP_only _) due14
    have et15 := k15.tups _ _ et14
    clear S14 pa14 due14 et14 p014 k15 p15
    obtain ⟨ya, hya, eya⟩ : ∃ ya, xs[j]? = some (.ref ya) ∧ H15 ya = some (.tup [.str (below (fs.map (·.1)) p 0)[j].1, .int (below (fs.map (·.1)) p 0)[j].2]) := by
      obtain ⟨_, xs', e, e', al⟩ := dt_tup due15
      cases e
      rw [et15] at e'
      cases e'
      obtain ⟨y, hy, kd⟩ := Ot.DtAll.at al (d := spP (below (fs.map (·.1)) p 0)[j]) (by rw [List.getElem?_map, List.getElem?_eq_getElem jl]; rfl)
      obtain ⟨ya, rfl, e⟩ := spP_inv kd
      exact ⟨ya, hy, e⟩
    have hxj : (below (fs.map (·.1)) p 0)[j]? = some (below (fs.map (·.1)) p 0)[j] := List.getElem?_eq_getElem jl
    generalize (below (fs.map (·.1)) p 0)[j] = s0 at eya hxj
    have hss := sb 0
    have hso := ss_ok 0 (by decide)
    have fx := bf 0 s0 (List.mem_of_getElem? hxj)
    generalize below (fs.map (·.1)) p 0 = ss at hss hso jl due15 hxj
    have few : ss.length ≤ 256 := by rw [hss.1]; exact m256
    have sz : ∀ {n : Nat}, n ≤ 600 → n ≤ sizeLine := fun h => Nat.le_trans h (by decide)
    have lc : ∀ (lo hi : Option Int), (cutP (ss.map spP) lo hi).length ≤ 256 := fun lo hi => by
      unfold cutP
      rw [List.length_take, List.length_drop, List.length_map]
      omega
    have bent := fun x' (bad : x'.1 = ("zz" : Str) ∨ x'.2 ≠ s0.2) => (bent_none (ds := fs.map (·.1)) (z := "zz") (fun d hd c hc => (kids d hd c hc).2.1) p ok ss j (d'.2.1, 0) s0 x' hss.1 hss.2 hxj bad).2 (by rw [← ep]; rfl)
    have b60 : s0.2.natAbs ≤ 100 := by omega
    have e60 : (10 : Nat) ^ 60 = 1000000000000000000000000000000000000000000000000000000000000 := by decide
    have e30 : (10 : Nat) ^ 30 = 1000000000000000000000000000000 := by decide
    rw [e30] at mb
    have set_ok : ∀ x' : SpT, isNam (.str x'.1) = true → x'.2.natAbs < 10 ^ 60 → SpotsOk (ss.set j x') := fun x' h1 h2 s hs => by
      rcases List.mem_or_eq_of_mem_set hs with h | h
      · exact hso s h
      · rw [h]
        exact ⟨h1, h2⟩
    -- one level bent
    refine asg_yd (d := .tuple ((ss.set j (s0.1, s0.2 + m)).map spP)) ?_ fun tn H16 s16 dn => ?_
    · rw [← set_cut jl]
      refine yd_catA (yd_catA (yd_sl (yd_var rfl due15) po_no (po_v rfl)) (yd_tup (yd_cons (yd_tup (yd_cons (d := .str s0.1) ?_ (yd_cons (d := .int (s0.2 + m)) ?_ yd_nil)) (by show 2 ≤ sizeLine; decide)) yd_nil) (by show 1 ≤ sizeLine; decide)) ?_) (yd_sl (yd_var rfl due15) (po_v1 rfl) po_no) ?_
      · exact fun H1 Q s k => ⟨.ref t, rfl, .int (j : Int), rfl, t, xs, (j : Int), .ref ya, rfl, rfl, .inl (.inl (s _ _ et15)), atI_nat hya, ya, _, 0, .str s0.1, rfl, rfl, .inl (.inl (s _ _ eya)), rfl, k _ H1 (Same.refl _) (.str _)⟩
      · exact fun H1 Q s k => ⟨.ref t, rfl, .int (j : Int), rfl, t, xs, (j : Int), .ref ya, rfl, rfl, .inl (.inl (s _ _ et15)), atI_nat hya, ya, _, 1, .int s0.2, rfl, rfl, .inl (.inl (s _ _ eya)), rfl, .int m, rfl, s0.2, m, rfl, rfl, k _ H1 (Same.refl _) (.int _)⟩
      · exact sz (by have := lc none (some (j : Int)); show _ + 1 ≤ 600; omega)
      · exact sz (by have := lc none (some (j : Int)); have := lc (some ((j : Int) + 1)) none; rw [List.length_append]; show _ + 1 + _ ≤ 600; omega)
    have S16 := S15.same s16
    have pa16 := pa15.keep (KeepP.of s16) _ _
    have due16 := Dt.same s16 _ _ due15
    have et16 := s16 _ _ et15
    have eya16 := s16 _ _ eya
    -- one sort bent
    refine asg_yd (d := .tuple ((ss.set j ("zz", s0.2)).map spP)) ?_ fun to H17 s17 do_ => ?_
    · rw [← set_cut jl]
      refine yd_catA (yd_catA (yd_sl (yd_var rfl due16) po_no (po_v rfl)) (yd_tup (yd_cons (yd_tup (yd_cons (d := .str "zz") yd_str (yd_cons (d := .int s0.2) ?_ yd_nil)) (by show 2 ≤ sizeLine; decide)) yd_nil) (by show 1 ≤ sizeLine; decide)) ?_) (yd_sl (yd_var rfl due16) (po_v1 rfl) po_no) ?_
      · exact fun H1 Q s k => ⟨.ref t, rfl, .int (j : Int), rfl, t, xs, (j : Int), .ref ya, rfl, rfl, .inl (.inl (s _ _ et16)), atI_nat hya, ya, _, 1, .int s0.2, rfl, rfl, .inl (.inl (s _ _ eya16)), rfl, k _ H1 (Same.refl _) (.int _)⟩
      · exact sz (by have := lc none (some (j : Int)); show _ + 1 ≤ 600; omega)
      · exact sz (by have := lc none (some (j : Int)); have := lc (some ((j : Int) + 1)) none; rw [List.length_append]; show _ + 1 + _ ≤ 600; omega)
    have S17 := S16.same s17
    have pa17 := pa16.keep (KeepP.of s17) _ _
    obtain ⟨na, nxs, rfl, _, _⟩ := dt_tup dn
    obtain ⟨oa, oxs, rfl, _, _⟩ := dt_tup do_
    have dn17 := Dt.same s17 _ _ dn
    refine ⟨_, rfl, _, rfl, _, rfl, ?_⟩
    dsimp only [tNil]
    refine over_at S17 pm nd pa17 ok l4 dn17 (set_ok _ fx.1 (by rw [e60]; show (s0.2 + m).natAbs < _; omega)) (by rw [List.length_set]; exact hss.1) fun r H18 s18 dr => ?_
    rw [bent _ (.inr (by show s0.2 + m ≠ s0.2; omega))] at dr
    cases dr
    have S18 := S17.same s18
    have pa18 := pa17.keep (KeepP.of s18) _ _
    have do18 := Dt.same s18 _ _ do_
    refine ⟨rfl, true, rfl, iteT ?_⟩
    refine ⟨_, rfl, _, rfl, _, rfl, ?_⟩
    dsimp only [tNil]
    refine over_at S18 pm nd pa18 ok l4 do18 (set_ok _ (show isNam (.str ("zz" : Str)) = true by decide +kernel) (by rw [e60]; show s0.2.natAbs < _; omega)) (by rw [List.length_set]; exact hss.1) fun r H19 s19 dr => ?_
    rw [bent _ (.inl rfl)] at dr
    cases dr
    refine ⟨rfl, ?_⟩
    exact q _ (p015.trans (Past.same p015.dice (((s16.trans s17).trans s18).trans s19)))
end
end K11
set_option Elab.async false
set_option linter.all false
set_option autoImplicit false
set_option maxRecDepth 100000
set_option maxHeartbeats 4000000
namespace K11
open PySem PySem.Spec PyProof.Rows L2 Vb Wd Xd Xo Xv SX Pc Zc Oi RZ Zt Zk Of Og Oh Ot Zm Fh
theorem fits_fill {ds : List FD} (p : Pic) : ∀ ts : List Pic, fits ds p = true → (∀ t ∈ ts, fits ds t = true) → fits ds (fill p ts) = true := by
  refine Pic.ind (P := fun p => ∀ ts : List Pic, fits ds p = true → (∀ t ∈ ts, fits ds t = true) → fits ds (fill p ts) = true) (fun ts _ h => ?_) (fun n ps ih ts hp h => ?_) p
  · cases ts with
    | nil => rfl
    | cons t ts => exact h t (List.mem_cons_self ..)
  · obtain ⟨d, ef, dl, fp⟩ := fits_node hp
    show (formed ds (.node n (fillL ps ts)) && fitsL ds (fillL ps ts)) = true
    rw [formed_yes ef, fillL_len, decide_eq_true dl, Bool.true_and, fitsL_all, List.all_eq_true]
    intro q hq
    obtain ⟨i, hi, e⟩ := List.mem_iff_getElem.mp hq
    have il : i < ps.length := by rw [fillL_len] at hi; exact hi
    have := fillL_at (ts := ts) (List.getElem?_eq_getElem il)
    rw [List.getElem?_eq_getElem hi, e] at this
    rw [Option.some.inj this]
    exact ih _ (List.getElem_mem il) _ (fp _ (List.getElem_mem il)) fun t ht => h t (List.mem_of_mem_drop (List.mem_of_mem_take ht))
theorem lev_fill {m : Nat} (p : Pic) : ∀ ts : List Pic, (∀ t ∈ ts, t.lev ≤ m) → (fill p ts).lev ≤ p.lev + m := by
  refine Pic.ind (P := fun p => ∀ ts : List Pic, (∀ t ∈ ts, t.lev ≤ m) → (fill p ts).lev ≤ p.lev + m) (fun ts h => ?_) (fun n ps ih ts h => ?_) p
  · cases ts with
    | nil => exact Nat.zero_le _
    | cons t ts =>
      have := h t (List.mem_cons_self ..)
      show t.lev ≤ 0 + m
      omega
  · show 1 + levL (fillL ps ts) ≤ 1 + levL ps + m
    have : levL (fillL ps ts) ≤ levL ps + m := levL_le fun q hq => by
      obtain ⟨i, hi, e⟩ := List.mem_iff_getElem.mp hq
      have il : i < ps.length := by rw [fillL_len] at hi; exact hi
      have := fillL_at (ts := ts) (List.getElem?_eq_getElem il)
      rw [List.getElem?_eq_getElem hi, e] at this
      rw [Option.some.inj this]
      have a := ih _ (List.getElem_mem il) ((ts.drop (holesL (ps.take i))).take ps[i].holes) fun t ht => h t (List.mem_of_mem_drop (List.mem_of_mem_take ht))
      have b := lev_le (List.getElem_mem il)
      omega
    omega
abbrev s_l_filled_right : Stmt := topS 67
abbrev nFR : List Str := ["_law_dice_here", "_law_plain", "_law_scheme_here", "_law_picture", "_law_trees", "_law_made", "_law_some", "_law_told", "_law_turn", "_law_spot_here", "_law_tree"]
theorem sc_l_filled_right : FnScope nFR ["_law_dice_here", "_law_plain", "_law_scheme_here", "_law_picture", "_law_trees"] (defScope s_l_filled_right) := ⟨rfl, rfl, rfl, by decide +kernel, rfl, by decide +kernel, by decide +kernel⟩
def spFR (C CS : Addr) : Sp := fun vs H Q _ => ∃ (d a sc tl tb L : Addr) (v : V) (b : Str) (ts : List Str) (ps : List (FD × Addr)) (ds : List FD) (p : Pic) (xs : List V) (es : List Ent), vs = [.ref d, .ref a, .ref sc, v, .ref L] ∧ Dice H d ∧ Held H a tl tb b ts ps ∧ SchOk b ts (ps.map (·.1)) ∧ SchemeAt H C CS sc b ts ds ∧ ds.Perm (ps.map (·.1)) ∧
  PlainOk (ps.map (·.1)) ∧ Dt H v (pcD p) ∧ p.Ok ∧ p.lev ≤ 4 ∧ H L = some (.lst xs) ∧ DtAll H xs (es.map entD) ∧ (∀ e ∈ es, EntOk (ps.map (·.1)) b 5 e) ∧ es ≠ [] ∧ es.length ≤ 60 ∧ ∀ H', Past d H H' → Q (.bl true) H'
section
variable {P : Program} {w : World} {K : PySem.W.Frag} {mg : Str → Option Value} {base : Heap} {C CS CP CI CIP CO : Addr}
theorem ok_filled_right (D : Df K mg "_law_filled_right" s_l_filled_right ["_law_dice_here", "_law_plain", "_law_scheme_here", "_law_picture", "_law_trees"]) (EP : EnvP P w K mg base C CS CP CI CIP CO) (G_l_written : Cg P w K mg base 6 "_law_written" (spWritten 5)) (G_l_fits : Cg P w K mg base 6 "_law_fits" (spFits 5))
    (G_l_spot : Cg P w K mg base 11 "_law_spot" (spSpotL 10)) (G_l_filled : Cg P w K mg base 6 "_law_filled" (spFilled 5)) (G_l_pick : Cg P w K mg base 2 "_law_pick" (spPick K)) (z_tuple : mg "tuple" = none) (z_range : mg "range" = none) : Cg P w K mg base 20 "_law_filled_right" (spFR C CS) := by
  obtain ⟨p4, g4, fd4, o4, G4, b4⟩ := EP.VQ.TP.get ("holes", "_holes") (by simp)
  refine D.ok sc_l_filled_right (fun vs H Q E h => ?_) (fun cdv A outer s H vs Q E f0 hc hr h => ?_)
  · obtain ⟨d, a, sc, tl, tb, L, v, b, ts, ps, ds, p, xs, es, rfl, _⟩ := h
    rfl
  · obtain ⟨d, a, sc, tl, tb, L, v, b, ts, fs, ds, p, xs, es, rfl, hd, X, SO, S, pm, O, PD, ok, l4, hL, dL, eok, ene, el60, q⟩ := h
    refine ⟨_, (pss_cons (ps_set (i := 5) sc_l_filled_right.nd rfl (Or.inl rfl) (pe_makeE (E := fun _ _ _ => False) (W := fun _ _ _ _ => False) EP.VQ.M (FnE.of EP.FP) hc (hr.mono (by decide)) (by rfl) EP.VQ.g EP.VQ.bI LamX.takes0 (fun _ _ _ _ z => z) (pa_cons (pe_cg G_l_written hc hr (by rfl) (pa_cons (pv 3) pa_nil)) pa_nil)))
      (pss_cons (ps_setLc (i := 6) (own := [("_law_turn", 8)]) (g := gName 8) (by rfl) sc_l_filled_right.nd rfl rfl (sw_true rfl rfl rfl (by decide +kernel)) (pi_range1 (by rfl) z_range (pa_cons (pe_propG (n := "holes") (pv 5) EP.VQ.T.c o4 G4 hc (hr.mono (by decide)) b4) pa_nil)) (blkOk_by (own := [("_law_turn", 8)]) (N := nFR) (sc := defScope s_l_filled_right) (by decide +kernel)) (fun _ _ _ _ _ => pg_name (i := 8) sc_l_filled_right.nd rfl (Or.inl rfl)) (fun _ _ _ _ _ => pts_nil) (fun _ _ _ _ _ => (pe_cg G_l_pick hc hr (by rfl) (pa_cons (pv 0) (pa_cons (pv 4) pa_nil)))))
      (pss_cons (ps_set (i := 7) sc_l_filled_right.nd rfl (Or.inl rfl) (pe_cgE (E := fun _ _ _ => False) (W := fun _ _ _ _ => False) EP.G_over hc hr (by rfl) LamX.takes0 (fun _ _ _ _ z => z) (pa_cons (pv 2) (pa_cons (pv 5) (pa_cons (pe_callTy (cr_tuple : CallR _ _ (rTup K)) (by rfl) z_tuple (by decide +kernel) (pa_cons (pe_lc (own := [("_law_spot_here", 9), ("_law_tree", 10)]) (g := gTup K 2 (gCons (gName 9) (gCons (gName 10) gNil))) (by rfl) sc_l_filled_right.nd (pi_list (pv 6)) (blkOk_by (own := [("_law_spot_here", 9), ("_law_tree", 10)]) (N := nFR) (sc := defScope s_l_filled_right) (by decide +kernel)) (fun _ _ _ _ _ => pg_tup (by rfl) (pgs_cons (pg_name (i := 9) sc_l_filled_right.nd rfl (Or.inl rfl)) (pgs_cons (pg_name (i := 10) sc_l_filled_right.nd rfl (Or.inl rfl)) pgs_nil))) (fun _ _ _ _ _ => pts_nil) (fun _ _ _ _ _ => (pv 9))) pa_nil)) pa_nil)))))
      (pss_cons (ps_if (pt_not (pt_val (pe_cg G_l_fits hc hr (by rfl) (pa_cons (pv 1) (pa_cons (pv 3) pa_nil)))))
      (pss_one (ps_ret (pe_cmpR op_isN (pv 7) pe_non (nomark _))))
      pss_nil)
      (pss_one (ps_ret (pe_cmpR (op_eqD hr.units) (pv 7) (pe_cg G_l_spot hc hr (by rfl) (pa_cons (pv 1) (pa_cons (pe_cg G_l_filled hc hr (by rfl) (pa_cons (pv 3) (pa_cons (pe_lc (own := [("_law_spot_here", 9), ("_law_tree", 10)]) (g := gTup K 2 (gCons (gName 9) (gCons (gName 10) gNil))) (by rfl) sc_l_filled_right.nd (pi_list (pv 6)) (blkOk_by (own := [("_law_spot_here", 9), ("_law_tree", 10)]) (N := nFR) (sc := defScope s_l_filled_right) (by decide +kernel)) (fun _ _ _ _ _ => pg_tup (by rfl) (pgs_cons (pg_name (i := 9) sc_l_filled_right.nd rfl (Or.inl rfl)) (pgs_cons (pg_name (i := 10) sc_l_filled_right.nd rfl (Or.inl rfl)) pgs_nil))) (fun _ _ _ _ _ => pts_nil) (fun _ _ _ _ _ => (pv 10))) pa_nil))) pa_nil))) (nomark _)))))))), ?_⟩
    have m256 := holes256 ok l4
    refine ⟨_, rfl, v, p, rfl, PD, ok, by omega, l4, fun H1 s1 => ?_⟩
    intro x dx nx ndx ne
    refine ⟨x, dx, p, rfl, upd_same, ok, by omega, l4, fun H2 b2 pa => ⟨rfl, ?_⟩⟩
    have s2 := s1.trans (same_made nx ndx b2)
    clear nx ndx ne b2
    obtain ⟨x', dx', pt, nt, ws, e0, h1, h2, h3, h4⟩ := pa.ex
    cases e0
    have hd2 := Past.same hd s2
    refine ⟨_, rfl, x, dx', _, rfl, h1, x, dx', _, .int p.holes, rfl, h1, by rfl, _, rfl, by omega, by omega, fun Dl nD => ?_⟩
    have Ld : L ≠ d := fun z => by
      obtain ⟨g, s, c, e⟩ := hd
      rw [z, e] at hL
      have hx : xs = [.int g, .int s, .int c] := (HO.lst.inj (Option.some.inj hL)).symm
      rw [hx] at dL
      cases es with
      | nil => exact ene rfl
      | cons e0 es =>
        cases dL with
        | cons k _ => cases k
    have L2' := s2 _ _ hL
    have xl : xs.length = es.length := by rw [dL.len, List.length_map]
    have e1 : 0 < es.length := List.length_pos_iff.mpr ene
    have dL2 := DtAll.same s2 _ _ dL
    have dD := hd2.dice.ne nD
    refine lc_range (n := ((p.holes : Int)).toNat) (lo := 0) (fun i H' => Past d H2 H' ∧ ∃ (us : List V) (gs : List Ent), H' Dl = some (.lst us) ∧ us.length = i ∧ DtAll H' us (gs.map entD) ∧ ∀ g ∈ gs, g ∈ es) ⟨past_put nD dD (Past.refl hd2.dice), [], [], upd_same, rfl, .nil, (fun g h => nomatch h)⟩ (fun i H3 hi h => ?_) (fun H3 h => ?_)
    · obtain ⟨p3, us, gs, e3, ul, du, sub⟩ := h
      have i256 : i < 256 := by
        have : i < p.holes := hi
        omega
      refine ⟨rfl, ?_⟩
      refine pick_at (p := fun H v => ∃ e ∈ es, Dt H v (entD e)) (l := L) (xs := xs) (fun k h => by
        obtain ⟨e, he, dd⟩ := h
        exact ⟨e, he, Dt.tups k.tups _ _ (by have := entD_only [e]; rw [List.map_cons, List.map_nil] at this; exact (Bool.and_eq_true _ _ ▸ this : _ ∧ _).1) dd⟩) rfl rfl p3.dice Ld (p3.1 _ _ Ld L2') (by omega) (by omega) (fun v hv => ?_) fun r H4 p4' hr' => ?_
      · obtain ⟨j, hj, ej⟩ := List.mem_iff_getElem.mp hv
        obtain ⟨dd, hdd, kd⟩ := (DtAll.tups (Tups.past hd2.dice p3) _ _ (entD_only _) dL2).get (x := v) (by rw [List.getElem?_eq_getElem hj, ej])
        rw [List.getElem?_map, List.getElem?_eq_getElem (by omega)] at hdd
        cases hdd
        exact ⟨_, List.getElem_mem _, kd⟩
      · obtain ⟨e, he, dr⟩ := hr'
        refine ⟨us, p4'.1 _ _ dD e3, Nat.lt_of_lt_of_le (show _ < 256 by omega) (by decide), past_put nD dD (p3.trans p4'), us ++ [r], gs ++ [e], upd_same, by rw [List.length_append, ul]; rfl, ?_, fun g hg => (List.mem_append.mp hg).elim (sub g) fun h => (List.mem_singleton.mp h) ▸ he⟩
        refine DtAll.tups (Tups.putL _ (p4'.1 _ _ dD e3)) _ _ (entD_only _) ?_
        rw [List.map_append]
        exact (DtAll.tups (Tups.past p3.dice p4') _ _ (entD_only _) du).app (.cons dr .nil)
    obtain ⟨p3, us, gs, e3, ul, du, sub⟩ := h
    have ul : us.length = p.holes := ul
    have gl : gs.length = p.holes := by rw [← ul, du.len, List.length_map]
    have p03 := hd2.trans p3
    have k23 := Keep.past hd2.dice p3
    have S3 := (S.same s2).keep k23
    have pa3 := pa.keep (KeepP.past hd2.dice p3) _ _
    have X3 := (X.same s2).keep k23
    have PD3 := Dt.keep (Keeps.past hd2.dice p3) _ _ (pc_noDz p) (Dt.same s2 _ _ PD)
    clear h1 h2 h3 h4 pa k23 p3 dL2 L2' nD
    dsimp only [tNext]
    refine asg_at ?_
    -- the spots
    refine ⟨_, rfl, _, rfl, _, rfl, Dl, rfl, ⟨_, .inl (.inl e3)⟩, fun D2 nD2 => ?_⟩
    refine lc_list (K := K) (a := Dl) (xs := us) (fun i H' => Same H3 H' ∧ ∃ vs, H' D2 = some (.lst vs) ∧ vs.length = i ∧ DtAll H' vs (((gs.map (·.1)).take i).map spP)) ⟨same_put nD2 (Same.refl _), [], upd_same, rfl, .nil⟩ (fun i H' _ h => .inl (.inl (h.1 _ _ e3))) (fun i y H4 hy h => ?_) (fun H4 h => ?_)
    · obtain ⟨s4, vs, e4, vl, dv⟩ := h
      have il := (List.getElem?_eq_some_iff.mp hy).1
      obtain ⟨dd, hdd, kd⟩ := du.get hy
      have ig : i < gs.length := by omega
      rw [List.getElem?_map, List.getElem?_eq_getElem ig] at hdd
      have hgi : (gs.map (·.1))[i]? = some gs[i].1 := by rw [List.getElem?_map, List.getElem?_eq_getElem ig]; rfl
      generalize gs[i] = g at hdd hgi
      cases hdd
      obtain ⟨ya, t1, tv, rfl, eya, et1, dtv⟩ := ent_inv kd
      refine ⟨ya, _, rfl, .inl (.inl (s4 _ _ eya)), rfl, .ref t1, _, rfl, tv, _, rfl, rfl, rfl, _, rfl, vs, e4, Nat.lt_of_lt_of_le (show _ < 257 by omega) (by decide), same_put nD2 s4, vs ++ [.ref t1], upd_same, by rw [List.length_append, vl]; rfl, ?_⟩
      rw [List.take_add_one, hgi, List.map_append]
      refine DtAll.tups (Tups.putL _ e4) _ _ (by rw [← List.map_append]; exact spP_only _) ?_
      exact dv.app (.cons (spP_mk (s := g.1) (s4 _ _ et1)) .nil)
    obtain ⟨s4, vs, e4, vl, dv⟩ := h
    rw [List.take_of_length_le (by rw [List.length_map]; omega)] at dv
    refine ⟨D2, vs, rfl, .inl ⟨.inl (.inl e4), fun t nt => ?_⟩⟩
    have st := same_new (o := .tup vs) nt
    have ts5 : Dt (upd H4 t (.tup vs)) (.ref t) (.tuple ((gs.map (·.1)).map spP)) := .tup upd_same (DtAll.same st _ _ dv)
    have s5 := s4.trans st
    have S5 := S3.same s5
    have X5 := X3.same s5
    have pa5 := pa3.keep (KeepP.of s5) _ _
    have PD5 := Dt.same s5 _ _ PD3
    have du5 := DtAll.same s5 _ _ du
    have e5 := s5 _ _ e3
    have p05 := p03.trans (Past.same p03.dice s5)
    generalize upd H4 t (.tup vs) = H5 at ts5 S5 X5 pa5 PD5 du5 e5 p05 ⊢
    clear st s4 dv e4 nt nD2 S3 X3 pa3 PD3 du e3 p03
    dsimp only [tNil]
    have nb : ∀ e ∈ es, isNam (.str e.1.1) = true := fun e he => by
      rcases (eok e he).sort with h | ⟨r, hr, h⟩
      · rw [h]
        have := SO.tops.2.2
        rw [Bool.and_eq_true, List.all_eq_true] at this
        exact this.1 b SO.parts.1
      · rw [h]
        exact (SO.nams r hr).2
    have sok : SpotsOk (gs.map (·.1)) := fun s hs => by
      obtain ⟨e, he, rfl⟩ := List.mem_map.mp hs
      have ek := eok e (sub e he)
      have a1 := ek.lo
      have a2 := ek.hi
      refine ⟨nb e (sub e he), Nat.lt_of_le_of_lt (show _ ≤ 15 by omega) (by decide)⟩
    refine over_at S5 pm O.once pa5 ok l4 ts5 sok (by rw [List.length_map]; exact gl) fun r H6 s6 dr => ?_
    have X6 := X5.same s6
    have PD6 := Dt.same s6 _ _ PD5
    have du6 := DtAll.same s6 _ _ du5
    have e6 := s6 _ _ e5
    have p06 := p05.trans (Past.same p05.dice s6)
    clear S5 X5 pa5 PD5 du5 e5 p05 ts5 s6
    refine ⟨_, rfl, _, rfl, a, tl, tb, b, ts, fs, v, p, rfl, X6.r, PD6, ok, by omega, l4, fun H7 s7 => ⟨_, rfl, ?_⟩⟩
    cases ef : fits (fs.map (·.1)) p with
    | false =>
      rw [unfit_none p ef] at dr
      cases dr
      exact iteT ⟨_, rfl, rfl, q H7 (p06.trans (Past.same p06.dice s7))⟩
    | true =>
      have X7 := X6.same s7
      have PD7 := Dt.same s7 _ _ PD6
      have du7 := DtAll.same s7 _ _ du6
      have e7 := s7 _ _ e6
      have dr7 := Dt.same s7 _ _ dr
      have p07 := p06.trans (Past.same p06.dice s7)
      clear X6 PD6 du6 e6 p06 dr s7
      refine iteF ⟨_, rfl, _, rfl, _, rfl, _, rfl, Dl, rfl, ⟨_, .inl (.inl e7)⟩, fun D2 nD2 => ?_⟩
      refine lc_list (K := K) (a := Dl) (xs := us) (fun i H' => Same H7 H' ∧ ∃ vs, H' D2 = some (.lst vs) ∧ vs.length = i ∧ DtAll H' vs (((gs.map (·.2)).take i).map trD)) ⟨same_put nD2 (Same.refl _), [], upd_same, rfl, .nil⟩ (fun i H' _ h => .inl (.inl (h.1 _ _ e7))) (fun i y H8 hy h => ?_) (fun H8 h => ?_)
      · obtain ⟨s8, vs, e8, vl, dv⟩ := h
        have il := (List.getElem?_eq_some_iff.mp hy).1
        obtain ⟨dd, hdd, kd⟩ := du7.get hy
        have ig : i < gs.length := by omega
        rw [List.getElem?_map, List.getElem?_eq_getElem ig] at hdd
        have hgi : (gs.map (·.2))[i]? = some gs[i].2 := by rw [List.getElem?_map, List.getElem?_eq_getElem ig]; rfl
        generalize gs[i] = g at hdd hgi
        cases hdd
        obtain ⟨ya, t1, tv, rfl, eya, et1, dtv⟩ := ent_inv kd
        refine ⟨ya, _, rfl, .inl (.inl (s8 _ _ eya)), rfl, .ref t1, _, rfl, tv, _, rfl, rfl, rfl, _, rfl, vs, e8, Nat.lt_of_lt_of_le (show _ < 257 by omega) (by decide), same_put nD2 s8, vs ++ [tv], upd_same, by rw [List.length_append, vl]; rfl, ?_⟩
        rw [List.take_add_one, hgi, List.map_append]
        refine DtAll.tups (Tups.putL _ e8) _ _ (by rw [← List.map_append]; exact trDs_only _) ?_
        exact dv.app (.cons (Dt.same s8 _ _ dtv) .nil)
      obtain ⟨s8, vs, e8, vl, dv⟩ := h
      rw [List.take_of_length_le (by rw [List.length_map]; omega)] at dv
      have gl2 : (gs.map (·.2)).length = p.holes := by rw [List.length_map]; exact gl
      refine ⟨v, D2, H7, p, vs, gs.map (·.2), rfl, PD7, fun c o n h => s8 _ _ h, nD2, ok, by omega, e8, dv, by omega, fun tr H9 b9 _ dtr => ?_⟩
      have s9 : Same H7 H9 := fun c o h => b9 _ _ (ne_of_none h nD2) (s8 _ _ h)
      have fitf := fits_fill p (gs.map (·.2)) ef fun t ht => by
        obtain ⟨g, hg, rfl⟩ := List.mem_map.mp ht
        exact (eok g (sub g hg)).fit
      have levf := lev_fill (m := 5) p (gs.map (·.2)) fun t ht => by
        obtain ⟨g, hg, rfl⟩ := List.mem_map.mp ht
        exact (eok g (sub g hg)).lev
      have spf := spot_fill (b := b) (ds := fs.map (·.1)) p (gs.map (·.2)) (gs.map (·.1)) gl2 (by
        rw [List.map_map, List.map_map]
        exact List.map_congr_left fun g hg => (eok g (sub g hg)).spot)
      refine ⟨a, tl, tb, b, ts, fs, tr, fill p (gs.map (·.2)), rfl, (X7.same s9).r, dtr, fitf, by omega, fun r2 H10 s10 dr2 => ?_⟩
      rw [spf] at dr2
      have asc2 : ∀ s, held (fs.map (·.1)) p (gs.map (·.1)) = some s → Asc s.1 := fun s hs => by
        rcases held_name hs with h | ⟨dd, hdd, e⟩
        · exact nam_asc (sok s h).1
        · rw [e]
          exact nam_asc (SO.nams dd hdd).2
      refine eq_data (Dt.same (s9.trans s10) _ _ dr7) dr2 (spO_nodict _) (spO_nodict _) (lays_spO asc2) (lays_spO asc2) (by decide) (by decide) ?_
      rw [eqv_spO, decide_eq_true rfl]
      exact q H10 (p07.trans (Past.same p07.dice (s9.trans s10)))
end
end K11
set_option Elab.async false
set_option linter.all false
set_option autoImplicit false
set_option maxRecDepth 100000
set_option maxHeartbeats 4000000
/-! Rt: t[::-1] of a tuple. -/
namespace Rt
open PySem PySem.Spec PyProof.Rows L2 Vb HT
end Rt
set_option Elab.async false
set_option linter.all false
set_option autoImplicit false
set_option maxRecDepth 100000
set_option maxHeartbeats 4000000
namespace K11
open PySem PySem.Spec PyProof.Rows L2 Vb Wd Xd Xo Xi Xm Xr Xv Ts K01 Oq Oi Zt Zk Zs Rl Rd Ed Rt
/-! ### a scheme made of what stands there -/
abbrev TopsF (ys : List Str) : Prop := (∀ y ∈ ys, Fine y) ∧ ys.length ≤ 60 ∧ (ys.all nam && asc ys) = true
theorem mk_scheme {K : PySem.W.Frag} {C CS CI x dx f t : Addr} {b : Str} {ys : List Str} {fs : List Addr} {ds : List FD} {H : Hp} {Q : VK} {E : XK} (nx : H x = none) (ndx : H dx = none) (ne : dx ≠ x) (ht : H t = some (.tup (ys.map V.str))) (hf : H f = some (.tup (fs.map V.ref))) (FF : Forms H C fs ds) (tops : TopsF ys) (few : ds.length ≤ 40) (l64 : (dd (ys ++ said ds)).length < 64)
    (nams : ∀ d ∈ ds, isNam (.str d.1) = true ∧ isNam (.str d.2.1) = true)
    (ok : schB (.str b) (some ys) ds = true → ∀ ds' H', Same H H' → SchemeAt H' C CS x b ys ds' → ds'.Perm ds → Q (.ref x) H') (err : schB (.str b) (some ys) ds = false → ∀ H', Same H H' → E (.ref CI) none H') :
    spInitS K C CS CI [.ref x, .str b, .ref t, .ref f] (upd (upd H dx (.own x)) x (.ins CS dx [])) (fun v H2 => v = .non ∧ Q (.ref x) H2) E := by
  have s5 := (same_new (o := .own x) ndx).trans (same_new (o := .ins CS dx []) (by rw [upd_ne ne.symm]; exact nx))
  obtain ⟨fy, ly, ny⟩ := tops
  have FF5 : Forms (upd (upd H dx (.own x)) x (.ins CS dx [])) C fs ds := ⟨FF.len, fun j x' d' h1 h2 => by
    obtain ⟨ch, ks, FA⟩ := FF.at_ j x' d' h1 h2
    exact ⟨ch, ks, FA.sm s5⟩⟩
  refine ⟨x, dx, f, .str b, .ref t, some ys, fs, ds, dd (ys ++ said ds), rfl, upd_same, ⟨rfl, ⟨t, rfl, s5 _ _ ht, fy, ly, ny⟩, s5 _ _ hf, FF5, by have := FF.len; omega, fun ys' e y hy => ?_, l64, nams⟩, fun b' ys' eb ey e H6 ds' bt SA pm => ⟨rfl, ?_⟩, fun e H' s' => err e H' (s5.trans s')⟩
  · cases e
    exact (mem_dd _ y).mpr hy
  · cases eb
    cases ey
    exact ok e ds' H6 (fun b' o' h' => bt _ _ (ne_of_none h' nx) (s5 _ _ h')) SA pm
theorem SchOk.l64 {b : Str} {ts : List Str} {rows : List FD} (S : SchOk b ts rows) : (dd (ts ++ said rows)).length < 64 := by
  have := S.parts.2.2.1
  omega
/-- .. that is one -/
theorem mk_ok {K : PySem.W.Frag} {C CS CI x dx f t : Addr} {b : Str} {ys : List Str} {fs : List Addr} {ds : List FD} {H : Hp} {Q : VK} {E : XK} (O : SchOk b ys ds) (nx : H x = none) (ndx : H dx = none) (ne : dx ≠ x) (ht : H t = some (.tup (ys.map V.str))) (hf : H f = some (.tup (fs.map V.ref))) (FF : Forms H C fs ds)
    (ok : ∀ ds' H', Same H H' → SchemeAt H' C CS x b ys ds' → ds'.Perm ds → Q (.ref x) H') :
    spInitS K C CS CI [.ref x, .str b, .ref t, .ref f] (upd (upd H dx (.own x)) x (.ins CS dx [])) (fun v H2 => v = .non ∧ Q (.ref x) H2) E :=
  mk_scheme nx ndx ne ht hf FF O.tops (by have := O.parts.2.1.2; omega) O.l64 O.nams (fun _ => ok) fun e => by
    rw [O.sch] at e
    cases e
end K11
set_option Elab.async false
set_option linter.all false
set_option autoImplicit false
set_option maxRecDepth 100000
set_option maxHeartbeats 8000000
namespace K11
open PySem PySem.Spec PyProof.Rows L2 Vb Wd Rd Xd Xo Xv SX Pc Zc Oi RZ Zt Zk Of Og Oh Ot Zm Fh
theorem plain_facts {H : Hp} {a tl tb : Addr} {b : Str} {ts : List Str} {ps : List (FD × Addr)} (X : Held H a tl tb b ts ps) (F : Fit b ts (ps.map (·.1))) (few : ps.length ≤ 5) : PlainOk (ps.map (·.1)) ∧ ∀ r ∈ ps.map (·.1), ∀ c ∈ r.2.2, isNam (.str c.1) = true ∧ c.1 ≠ ("zz" : Str) ∧ 0 ≤ c.2 ∧ c.2 ≤ 3 := by
  have zz : ("zz" : Str) ∉ pool := by decide +kernel
  have row : ∀ r ∈ ps.map (·.1), ∃ ch ks, Kids H ch ks r.2.2 := fun r hr => by
    obtain ⟨p, hp, rfl⟩ := List.mem_map.mp hr
    obtain ⟨ch, ks, _, kk⟩ := X.row p hp
    exact ⟨ch, ks, kk⟩
  refine ⟨⟨fun r hr => pool_nam _ (F.named r hr), F.once, fun r hr => ?_, fun r hr => ?_, by rw [List.length_map]; omega⟩, fun r hr c hc => ?_⟩
  · obtain ⟨ch, ks, kk⟩ := row r hr
    have := kk.lo
    have := kk.len
    omega
  · obtain ⟨ch, ks, kk⟩ := row r hr
    have := kk.hi
    have := kk.len
    omega
  · obtain ⟨ch, ks, kk⟩ := row r hr
    obtain ⟨zs, _, _, zp, _, zk⟩ := F.ex
    have cz := zk r hr c.1 (List.mem_cons_of_mem _ (List.mem_map.mpr ⟨c, hc, rfl⟩))
    have cp := zp _ cz
    obtain ⟨i, hi, e⟩ := List.mem_iff_getElem.mp hc
    have kd := kk.kid i (ks[i]'(by have := kk.len; omega)) c (List.getElem?_eq_getElem _) (by rw [List.getElem?_eq_getElem hi, e])
    exact ⟨pool_nam _ cp, fun z => zz (z ▸ cp), kd.lo, kd.hi⟩
/-! ### the written example -/
def dE : FD := ("even", "t", [("t", 1), ("t", 1)])
def dL : FD := ("left", "t", [("t", 1), ("t", 2)])
def nE : List Nat := [101, 118, 101, 110]
def nLf : List Nat := [108, 101, 102, 116]
def picH : Pic := .node nLf [.node nLf [.hole, .hole], .hole]
def picL : Pic := .node nE [.hole, .node nE [.hole, .hole]]
def picT : Pic := .node nLf [.hole, .hole, .hole]
theorem ex_S : ("left(left(. .) .)" : Str) = S picH.cs ∧ ("even(. even(. .))" : Str) = S picL.cs ∧ ("left(. . .)" : Str) = S picT.cs ∧ ("." : Str) = S Pic.hole.cs := by decide +kernel
theorem hh_ok : ∀ p ∈ [Pic.hole, Pic.hole], p.Ok := fun p hp => by
  simp at hp
  rw [hp]
  exact trivial
theorem wE : word nE := ⟨by decide, by decide, by decide⟩
theorem wLf : word nLf := ⟨by decide, by decide, by decide⟩
theorem two_ok {p q : Pic} (h1 : p.Ok) (h2 : q.Ok) : ∀ x ∈ [p, q], x.Ok := fun x hx => by
  rcases List.mem_cons.mp hx with rfl | hx
  · exact h1
  · have : x = q := by simpa using hx
    rw [this]
    exact h2
theorem picH_ok : picH.Ok := ok_mk wLf (by decide) (by decide) (two_ok (ok_mk wLf (by decide) (by decide) hh_ok) trivial)
theorem picL_ok : picL.Ok := ok_mk wE (by decide) (by decide) (two_ok trivial (ok_mk wE (by decide) (by decide) hh_ok))
theorem picT_ok : picT.Ok := ok_mk wLf (by decide) (by decide) fun p hp => by
  simp at hp
  rw [hp]
  exact trivial
def spots1 : List SpT := [("t", -2), ("t", -3), ("t", -2)]
def spots2 : List SpT := [("t", -1), ("t", -2), ("t", -2)]
def spots3 : List SpT := [("a", 5)]
theorem ex_facts : sound [dE, dL] picH = true ∧ below [dE, dL] picH 0 = spots1 ∧ held [dE, dL] picL spots1 = none ∧ held [dE, dL] picL spots2 = (some ("t", 0) : Option (Str × Int)) ∧ held [dE, dL] .hole spots3 = (some ("a", 5) : Option (Str × Int)) ∧ sound [dE, dL] .hole = false ∧ sound [dE, dL] picT = false := by decide +kernel
theorem ex_spots : SpotsOk spots1 ∧ SpotsOk spots2 ∧ SpotsOk spots3 := by
  refine ⟨?_, ?_, ?_⟩ <;> intro s hs <;> simp only [spots1, spots2, spots3, List.mem_cons, List.not_mem_nil, or_false] at hs
  · rcases hs with rfl | rfl | rfl <;> exact ⟨by decide +kernel, by decide +kernel⟩
  · rcases hs with rfl | rfl | rfl <;> exact ⟨by decide +kernel, by decide +kernel⟩
  · rcases hs with rfl
    exact ⟨by decide +kernel, by decide +kernel⟩
theorem t_asc : Asc ("t" : Str) := fun c hc => by
  have e : ("t" : Str).cps.toList = [116] := by decide +kernel
  rw [e] at hc
  have : c = 116 := by simpa using hc
  omega
theorem law_schOk : SchOk "t" ["t"] [dE, dL] := by
  refine ⟨by decide +kernel, ?_, ?_⟩
  · intro r hr
    simp only [List.mem_cons, List.not_mem_nil, or_false] at hr
    rcases hr with rfl | rfl <;> exact ⟨by decide +kernel, by decide +kernel⟩
  · refine ⟨fun y hy => ?_, by decide, by decide +kernel⟩
    have : y = "t" := by simpa using hy
    rw [this]
    exact ⟨by decide +kernel, t_asc⟩
theorem mk_okH {K : PySem.W.Frag} {C CS CI x dx f t : Addr} {b : Str} {ys : List Str} {fs : List Addr} {ds : List FD} {H : Hp} {Q : Hp → Prop} {E : XK} (O : SchOk b ys ds) (nx : H x = none) (ndx : H dx = none) (ne : dx ≠ x) (ht : H t = some (.tup (ys.map V.str))) (hf : H f = some (.tup (fs.map V.ref))) (FF : Forms H C fs ds)
    (ok : ∀ ds' H', Same H H' → SchemeAt H' C CS x b ys ds' → ds'.Perm ds → Q H') :
    spInitS K C CS CI [.ref x, .str b, .ref t, .ref f] (upd (upd H dx (.own x)) x (.ins CS dx [])) (fun v H2 => v = .non ∧ Q H2) E :=
  mk_ok (Q := fun _ H2 => Q H2) O nx ndx ne ht hf FF ok
theorem two_kids {H : Hp} {ch u1 u2 : Addr} {n1 n2 : Str} {s1 s2 : Int} (hc : H ch = some (.tup [.ref u1, .ref u2])) (h1 : H u1 = some (.tup [.str n1, .int s1])) (h2 : H u2 = some (.tup [.str n2, .int s2])) (k1 : isNam (.str n1) = true) (k2 : isNam (.str n2) = true) (b1 : 0 ≤ s1 ∧ s1 ≤ 3) (b2 : 0 ≤ s2 ∧ s2 ≤ 3) : Kids H ch [u1, u2] [(n1, s1), (n2, s2)] := by
  have l1 := (nam_len k1).2.1
  have l2 := (nam_len k2).2.1
  refine ⟨hc, rfl, by show 2 ≤ 2; decide, by show 2 ≤ 4; decide, fun i t c e1 e2 => ?_⟩
  match i, e1, e2 with
  | 0, e1, e2 =>
    cases e1
    cases e2
    exact ⟨h1, k1, ⟨show n1.length ≤ 1000 by omega, nam_asc k1⟩, b1.1, b1.2⟩
  | 1, e1, e2 =>
    cases e1
    cases e2
    exact ⟨h2, k2, ⟨show n2.length ≤ 1000 by omega, nam_asc k2⟩, b2.1, b2.2⟩
  | i + 2, e1, e2 => simp at e1
/-- the layers, one behind the other -/
theorem flatE_take {Ls : List (List Ent)} {i : Nat} {L : List Ent} (h : Ls[i]? = some L) : (Ls.take (i + 1)).flatten = (Ls.take i).flatten ++ L := by
  rw [List.take_add_one, h, List.flatten_append]
  simp
theorem flatE_len {Ls : List (List Ent)} : Ls.flatten.length = (Ls.map (·.length)).sum := by
  rw [List.length_flatten]
theorem flatE_take_le {Ls : List (List Ent)} (i : Nat) : (Ls.take i).flatten.length ≤ (Ls.map (·.length)).sum := by
  rw [← flatE_len]
  conv => rhs; rw [← List.take_append_drop i Ls, List.flatten_append, List.length_append]
  omega
end K11
set_option Elab.async false
set_option linter.all false
set_option autoImplicit false
set_option maxRecDepth 100000
set_option maxHeartbeats 8000000
namespace K11
open PySem PySem.Spec PyProof.Rows L2 Vb Wd Rd Xd Xo Xv SX Pc Zc Oi RZ Zt Zk Of Og Oh Ot Zm Fh
abbrev s_law : Stmt := topS 69
abbrev nL : List Str := ["_law_script", "_law_spot_here", "_law_dice_here", "_law_plain", "_law_scheme_here", "_law_trees", "_law_layer", "_law_turn", "_law_picture", "_law_other", "_law_due", "_law_some", "_law_forms", "_law_high", "_law_low", "_law_told"]
theorem sc_law : FnScope nL ["_law_script"] (defScope s_law) := ⟨rfl, rfl, rfl, by decide +kernel, rfl, by decide +kernel, by decide +kernel⟩
def spLaw (K : PySem.W.Frag) : Sp := fun vs H Q _ => ∃ (a : Addr) (ns : List Int), vs = [.ref a] ∧ SqL K H a (ns.map V.int) ∧ ns.length ≤ 63 ∧ ∀ H', Q (.bl true) H'
def exD : PyData := .list [.tuple (spots1.map spP), .none, spP ("t", 0), spP ("a", 5), .bool false, .bool false]
theorem names_S : ∀ {zs : List Str}, (∀ z ∈ zs, isNam (.str z) = true) → ∃ ws : List (List Nat), zs = ws.map S ∧ ∀ x ∈ ws, word x
  | [], _ => ⟨[], rfl, fun _ h => nomatch h⟩
  | z :: zs, h => by
    obtain ⟨n, wn, e⟩ := nam_S (h z (List.mem_cons_self ..))
    obtain ⟨ws, ews, wok⟩ := names_S fun y hy => h y (List.mem_cons_of_mem _ hy)
    refine ⟨n :: ws, by rw [List.map_cons, e, ews], fun x hx => ?_⟩
    rcases List.mem_cons.mp hx with rfl | hx
    · exact wn
    · exact wok x hx
section
variable {P : Program} {w : World} {K : PySem.W.Frag} {mg : Str → Option Value} {base : Heap} {C CS CP CI CIP CO : Addr}
theorem ok_law {f : Addr} {fd : FuncData} (F : Fun K "law" "law" s_law f fd) (EP : EnvP P w K mg base C CS CP CI CIP CO) (VF : EnvF P w K mg base C) (VS : EnvS P w K mg base C CS CI) (G_l_dice : Cg P w K mg base 1 "_law_dice" (spDice K)) (G_l_pick : Cg P w K mg base 2 "_law_pick" (spPick K)) (G_l_scheme : Cg P w K mg base 4 "_law_scheme" spLS) (G_l_made_scheme : Cg P w K mg base 8 "_law_made_scheme" (spMS C CS))
    (G_l_trees : Cg P w K mg base 7 "_law_sound_trees" spTrees) (G_l_fit_picture : Cg P w K mg base 8 "_law_fit_picture" (spFitP 5)) (G_l_sorts : Cg P w K mg base 1 "_law_sorts" spLSo) (G_l_sound_right : Cg P w K mg base 20 "_law_sound_right" (spSR C CS)) (G_l_drawn : Cg P w K mg base 7 "_law_drawn_picture" (spDrawn 4)) (G_l_is_sound : Cg P w K mg base 6 "_law_is_sound" (spIsSound 5))
    (G_l_written : Cg P w K mg base 6 "_law_written" (spWritten 5)) (G_l_filled_right : Cg P w K mg base 20 "_law_filled_right" (spFR C CS)) (z_range : mg "range" = none) (z_max : mg "max" = none) (z_min : mg "min" = none) (z_len : mg "len" = none) (z_sorted : mg "sorted" = none) (z_repr : mg "repr" = none) (z_tuple : mg "tuple" = none) : FnG P w K mg base 21 f fd ["_law_script"] (spLaw K) := by
  refine goes_by F sc_law (fun vs H Q E h => ?_) (fun cdv A outer s H vs Q E hc hr h => ?_)
  · obtain ⟨a, ns, rfl, _⟩ := h
    rfl
  · obtain ⟨a, ns, rfl, hS, hl, q⟩ := h
    refine ⟨_, (pss_cons (ps_for PassesOwn.never rfl (pi_range1 (by rfl) z_range (pa_cons (pe_callB (call_max2 rfl) (by rfl) z_max (by decide +kernel) (pa_cons pe_int (pa_cons (pe_callB (call_min2 rfl) (by rfl) z_min (by decide +kernel) (pa_cons pe_int (pa_cons (pe_callB call_len_seq (by rfl) z_len PySem.boot_len (pa_cons (pv 0) pa_nil)) pa_nil))) pa_nil))) pa_nil)) (pg_name (i := 1) sc_law.nd rfl (Or.inl rfl))
      (pss_cons (ps_set (i := 2) sc_law.nd rfl (Or.inl rfl) (pe_cg G_l_dice hc hr (by rfl) (pa_cons (pv 0) (pa_cons (pv 1) pa_nil))))
      (pss_cons (ps_set (i := 3) sc_law.nd rfl (Or.inl rfl) (pe_cg G_l_scheme hc hr (by rfl) (pa_cons (pv 2) (pa_cons pe_int (pa_cons pe_int pa_nil)))))
      (pss_cons (ps_set (i := 4) sc_law.nd rfl (Or.inl rfl) (pe_cg G_l_made_scheme hc hr (by rfl) (pa_cons (pv 3) pa_nil)))
      (pss_cons (ps_set (i := 5) sc_law.nd rfl (Or.inl rfl) (pe_lst pa_nil))
      (pss_cons (ps_for PassesOwn.never rfl (pi_list (pe_cg G_l_trees hc hr (by rfl) (pa_cons (pv 3) (pa_cons pe_int (pa_cons pe_int pa_nil))))) (pg_name (i := 6) sc_law.nd rfl (Or.inl rfl))
      (pss_one (ps_set (i := 5) sc_law.nd rfl (Or.inl rfl) (pe_op op_cat (pv 5) (pv 6)))))
      (pss_one (ps_for PassesOwn.never rfl (pi_range1 (by rfl) z_range (pa_cons pe_int pa_nil)) (pg_name (i := 7) sc_law.nd rfl (Or.inl rfl))
      (pss_cons (ps_set (i := 8) sc_law.nd rfl (Or.inl rfl) (pe_cg G_l_fit_picture hc hr (by rfl) (pa_cons (pv 2) (pa_cons (pv 3) (pa_cons (pe_cg G_l_pick hc hr (by rfl) (pa_cons (pv 2) (pa_cons (pe_cg G_l_sorts hc hr (by rfl) (pa_cons (pv 3) pa_nil)) pa_nil))) (pa_cons pe_int pa_nil))))))
      (pss_cons (ps_if (PW.pt (pw_and (pt_cmpR op_notN (pe_ix (ix_tup : IxR _ (rIxT K)) (pv 8) pe_int (fun _ _ => rfl)) pe_non (nomark _)) (pw_and1 (pt_not (pt_val (pe_cg G_l_sound_right hc hr (by rfl) (pa_cons (pv 2) (pa_cons (pv 3) (pa_cons (pv 4) (pa_cons (pv 8) pa_nil))))))))))
      (pss_one (ps_ret pe_bl))
      pss_nil)
      (pss_cons (ps_set (i := 9) sc_law.nd rfl (Or.inl rfl) (pe_cg G_l_drawn hc hr (by rfl) (pa_cons (pv 2) (pa_cons (pe_op op_cat (pe_callB (call_sortedD rfl) (by rfl) z_sorted (by decide +kernel) (pa_cons (pe_ix (ix_list : IxR _ (rIxL K)) (pv 3) pe_int (fun _ _ => rfl)) pa_nil)) (pe_lst (pa_cons pe_str pa_nil))) (pa_cons pe_int pa_nil)))))
      (pss_cons (ps_set (i := 10) sc_law.nd rfl (Or.inl rfl) (pe_and (pe_cmpR op_notN (pe_ix (ix_tup : IxR _ (rIxT K)) (pv 9) pe_int (fun _ _ => rfl)) pe_non (nomark _)) (pe_one (pe_cg G_l_is_sound hc hr (by rfl) (pa_cons (pv 3) (pa_cons (pv 9) pa_nil))))))
      (pss_cons (ps_if (pt_cmpR op_ne (pe_callB (cr_reprD hc hr.units) (by rfl) z_repr (by decide +kernel) (pa_cons (pe_cgE (E := fun _ _ _ => False) (W := fun _ _ _ _ => False) EP.G_sound hc hr (by rfl) LamX.takes0 (fun _ _ _ _ z => z) (pa_cons (pv 4) (pa_cons (pe_makeE (E := fun _ _ _ => False) (W := fun _ _ _ _ => False) EP.VQ.M (FnE.of EP.FP) hc (hr.mono (by decide)) (by rfl) EP.VQ.g EP.VQ.bI LamX.takes0 (fun _ _ _ _ z => z) (pa_cons (pe_cg G_l_written hc hr (by rfl) (pa_cons (pv 9) pa_nil)) pa_nil)) pa_nil))) pa_nil)) (pe_callB (cr_reprD hc hr.units) (by rfl) z_repr (by decide +kernel) (pa_cons (pv 10) pa_nil)) (nomark _))
      (pss_one (ps_ret pe_bl))
      pss_nil)
      (pss_one (ps_for PassesOwn.never rfl (pi_tup (pe_tup (pa_cons (pv 8) (pa_cons (pv 8) (pa_cons (pv 9) pa_nil))))) (pg_name (i := 11) sc_law.nd rfl (Or.inl rfl))
      (pss_one (ps_if (pt_not (pt_val (pe_cg G_l_filled_right hc hr (by rfl) (pa_cons (pv 2) (pa_cons (pv 3) (pa_cons (pv 4) (pa_cons (pv 11) (pa_cons (pv 5) pa_nil))))))))
      (pss_one (ps_ret pe_bl))
      pss_nil)))))))))))))))))
      (pss_cons (ps_set (i := 12) sc_law.nd rfl (Or.inl rfl) (pe_callTy (cr_tuple : CallR _ _ (rTup K)) (by rfl) z_tuple (by decide +kernel) (pa_cons (pe_lst (pa_cons (pe_makeE (E := fun _ _ _ => False) (W := fun _ _ _ _ => False) VF.M (FnE.of VF.FI) hc (hr.mono (by decide)) (by rfl) VF.g VF.bI LamX.takes0 (fun _ _ _ _ z => z) (pa_cons pe_str (pa_cons pe_str (pa_cons (pe_tup (pa_cons (pe_tup (pa_cons pe_str (pa_cons pe_int pa_nil))) (pa_cons (pe_tup (pa_cons pe_str (pa_cons pe_int pa_nil))) pa_nil))) pa_nil)))) (pa_cons (pe_makeE (E := fun _ _ _ => False) (W := fun _ _ _ _ => False) VF.M (FnE.of VF.FI) hc (hr.mono (by decide)) (by rfl) VF.g VF.bI LamX.takes0 (fun _ _ _ _ z => z) (pa_cons pe_str (pa_cons pe_str (pa_cons (pe_tup (pa_cons (pe_tup (pa_cons pe_str (pa_cons pe_int pa_nil))) (pa_cons (pe_tup (pa_cons pe_str (pa_cons pe_int pa_nil))) pa_nil))) pa_nil)))) pa_nil))) pa_nil)))
      (pss_cons (ps_par3 (i := 4) (j := 13) (l := 14) (by rfl) sc_law.nd rfl rfl rfl (by decide) (by decide) (by decide) rfl rfl rfl (pa_cons (pe_makeE (E := fun _ _ _ => False) (W := fun _ _ _ _ => False) VS.M VS.FI hc (hr.mono (by decide)) (by rfl) VS.g VS.bI LamX.takes0 (fun _ _ _ _ z => z) (pa_cons pe_str (pa_cons (pe_tup (pa_cons pe_str pa_nil)) (pa_cons (pv 12) pa_nil)))) (pa_cons (pe_makeE (E := fun _ _ _ => False) (W := fun _ _ _ _ => False) EP.VQ.M (FnE.of EP.FP) hc (hr.mono (by decide)) (by rfl) EP.VQ.g EP.VQ.bI LamX.takes0 (fun _ _ _ _ z => z) (pa_cons pe_str pa_nil)) (pa_cons (pe_makeE (E := fun _ _ _ => False) (W := fun _ _ _ _ => False) EP.VQ.M (FnE.of EP.FP) hc (hr.mono (by decide)) (by rfl) EP.VQ.g EP.VQ.bI LamX.takes0 (fun _ _ _ _ z => z) (pa_cons pe_str pa_nil)) pa_nil))) (by rfl))
      (pss_cons (ps_set (i := 15) sc_law.nd rfl (Or.inl rfl) (pe_lst (pa_cons (pe_cgE (E := fun _ _ _ => False) (W := fun _ _ _ _ => False) EP.G_spots hc hr (by rfl) LamX.takes0 (fun _ _ _ _ z => z) (pa_cons (pv 4) (pa_cons (pv 13) pa_nil))) (pa_cons (pe_cgE (E := fun _ _ _ => False) (W := fun _ _ _ _ => False) EP.G_over hc hr (by rfl) LamX.takes0 (fun _ _ _ _ z => z) (pa_cons (pv 4) (pa_cons (pv 14) (pa_cons (pe_cgE (E := fun _ _ _ => False) (W := fun _ _ _ _ => False) EP.G_spots hc hr (by rfl) LamX.takes0 (fun _ _ _ _ z => z) (pa_cons (pv 4) (pa_cons (pv 13) pa_nil))) pa_nil)))) pa_nil))))
      (pss_cons (ps_expr (pe_bm PySem.F.plainAttrs_list PySem.F.slot_list_append PySem.F.type_list_append mt_append (pv 15) (pa_cons (pe_cgE (E := fun _ _ _ => False) (W := fun _ _ _ _ => False) EP.G_over hc hr (by rfl) LamX.takes0 (fun _ _ _ _ z => z) (pa_cons (pv 4) (pa_cons (pv 14) (pa_cons (pe_tup (pa_cons (pe_tup (pa_cons pe_str (pa_cons (pe_un un_neg pe_int) pa_nil))) (pa_cons (pe_tup (pa_cons pe_str (pa_cons (pe_un un_neg pe_int) pa_nil))) (pa_cons (pe_tup (pa_cons pe_str (pa_cons (pe_un un_neg pe_int) pa_nil))) pa_nil)))) pa_nil)))) pa_nil)))
      (pss_cons (ps_expr (pe_bm PySem.F.plainAttrs_list PySem.F.slot_list_append PySem.F.type_list_append mt_append (pv 15) (pa_cons (pe_cgE (E := fun _ _ _ => False) (W := fun _ _ _ _ => False) EP.G_over hc hr (by rfl) LamX.takes0 (fun _ _ _ _ z => z) (pa_cons (pv 4) (pa_cons (pe_makeE (E := fun _ _ _ => False) (W := fun _ _ _ _ => False) EP.VQ.M (FnE.of EP.FP) hc (hr.mono (by decide)) (by rfl) EP.VQ.g EP.VQ.bI LamX.takes0 (fun _ _ _ _ z => z) (pa_cons pe_str pa_nil)) (pa_cons (pe_tup (pa_cons (pe_tup (pa_cons pe_str (pa_cons pe_int pa_nil))) pa_nil)) pa_nil)))) pa_nil)))
      (pss_cons (ps_set (i := 15) sc_law.nd rfl (Or.inl rfl) (pe_op op_cat (pv 15) (pe_lst (pa_cons (pe_cgE (E := fun _ _ _ => False) (W := fun _ _ _ _ => False) EP.G_sound hc hr (by rfl) LamX.takes0 (fun _ _ _ _ z => z) (pa_cons (pv 4) (pa_cons (pe_makeE (E := fun _ _ _ => False) (W := fun _ _ _ _ => False) EP.VQ.M (FnE.of EP.FP) hc (hr.mono (by decide)) (by rfl) EP.VQ.g EP.VQ.bI LamX.takes0 (fun _ _ _ _ z => z) (pa_cons pe_str pa_nil)) pa_nil))) (pa_cons (pe_cgE (E := fun _ _ _ => False) (W := fun _ _ _ _ => False) EP.G_sound hc hr (by rfl) LamX.takes0 (fun _ _ _ _ z => z) (pa_cons (pv 4) (pa_cons (pe_makeE (E := fun _ _ _ => False) (W := fun _ _ _ _ => False) EP.VQ.M (FnE.of EP.FP) hc (hr.mono (by decide)) (by rfl) EP.VQ.g EP.VQ.bI LamX.takes0 (fun _ _ _ _ z => z) (pa_cons pe_str pa_nil)) pa_nil))) pa_nil)))))
      (pss_one (ps_ret (pe_cmpR (op_eqD hr.units : OpR _ (compareOp .Eq) (rEqD K)) (pv 15) (pe_lst (pa_cons (pe_tup (pa_cons (pe_tup (pa_cons pe_str (pa_cons (pe_un un_neg pe_int) pa_nil))) (pa_cons (pe_tup (pa_cons pe_str (pa_cons (pe_un un_neg pe_int) pa_nil))) (pa_cons (pe_tup (pa_cons pe_str (pa_cons (pe_un un_neg pe_int) pa_nil))) pa_nil)))) (pa_cons pe_non (pa_cons (pe_tup (pa_cons pe_str (pa_cons pe_int pa_nil))) (pa_cons (pe_tup (pa_cons pe_str (pa_cons pe_int pa_nil))) (pa_cons pe_bl (pa_cons pe_bl pa_nil))))))) (nomark _))))))))))), ?_⟩
    refine ⟨_, rfl, a, _, rfl, .inl hS, _, _, rfl, _, _, rfl, _, rfl, ?_, ?_, for_range (lo := 0) (fun i σ H' => (∃ o1 o2 o3 o4 o5 o6 o7 o8 o9 o10 o11 o12 o13 o14 o15, σ = [some (.ref a), o1, o2, o3, o4, o5, o6, o7, o8, o9, o10, o11, o12, o13, o14, o15]) ∧ SqL K H' a (ns.map V.int)) ⟨⟨none, none, none, none, none, none, none, none, none, none, none, none, none, none, none, rfl⟩, hS⟩ ?_ ?_⟩
    · rw [List.length_map]
      split <;> split <;> omega
    · rw [List.length_map]
      split <;> split <;> omega
    · rintro i σ H0 hi ⟨⟨o1, o2, o3, o4, o5, o6, o7, o8, o9, o10, o11, o12, o13, o14, o15, rfl⟩, hS'⟩
      refine ⟨_, rfl, _, rfl, a, ns, _, rfl, hS', by omega, fun d g s nd => ?_⟩
      have sn := same_new (o := dz g s 0) nd
      have dd : Dice (upd H0 d (dz g s 0)) d := ⟨g, s, 0, upd_same⟩
      have aS : ∀ H', Past d (upd H0 d (dz g s 0)) H' → SqL K H' a (ns.map V.int) := fun H' gg => by
        rcases hS' with (h | ⟨ob, h⟩) | h
        · exact .inl (.inl (gg.1 _ _ (ne_of_none h nd) (sn _ _ h)))
        · exact .inl (.inr ⟨ob, gg.1 _ _ (ne_of_none h nd) (sn _ _ h)⟩)
        · exact .inr h
      generalize upd H0 d (dz g s 0) = H1 at sn dd aS ⊢
      clear hS hS' hl nd sn
      refine ⟨.ref d, rfl, d, 3, 5, rfl, dd, by decide, by decide, by decide, by decide, fun p tl tb b ts fs H2 p2 np pd X F6 few => ?_⟩
      have SO := F6.ok (by rw [List.length_map]; omega)
      obtain ⟨PO, kids⟩ := plain_facts X F6 few
      refine ⟨.ref p, rfl, p, tl, tb, b, ts, fs, rfl, X, SO, fun sc ds H3 s3 S pm => ?_⟩
      have X3 := X.same s3
      have p3 := p2.trans (Past.same p2.dice s3)
      clear X p2 np pd s3
      refine ⟨by show 0 ≤ sizeLine; decide, fun L0 nL0 => ?_⟩
      have s4 := same_new (o := .lst []) nL0
      have e4 : (upd H3 L0 (.lst [])) L0 = some (.lst []) := upd_same
      have X4 := X3.same s4
      have S4 := S.same s4
      have p4 := p3.trans (Past.same p3.dice s4)
      generalize upd H3 L0 (.lst []) = H4 at e4 X4 S4 p4 ⊢
      clear s4 X3 S p3 nL0
      refine ⟨_, rfl, p, tl, tb, b, ts, fs, rfl, X4.r, PO, few, fun A as Ls H5 s5 nA Y5 F5 l6 => ⟨A, rfl, ⟨_, .inl (.inl Y5.at_)⟩, ?_⟩⟩
      refine for_list (K := K) (a := A) (xs := as.map V.ref) (fun k σ H' => (∃ (L : Addr) (us : List V) (o6 : Option V), σ = [some (.ref a), some (.int (0 + (i : Int))), some (.ref d), some (.ref p), some (.ref sc), some (.ref L), o6, o7, o8, o9, o10, o11, o12, o13, o14, o15] ∧ H' L = some (.lst us) ∧ DtAll H' us ((Ls.take k).flatten.map entD)) ∧ Same H5 H')
        ⟨⟨L0, [], o6, rfl, s5 _ _ e4, .nil⟩, Same.refl _⟩ (fun k σ H' _ h => .inl (.inl (h.2 _ _ Y5.at_))) (fun k x σ H6 hx h => ?_) (fun σ H6 h => ?_)
      · obtain ⟨⟨L, us, o6, rfl, eL, du⟩, s6⟩ := h
        rw [List.getElem?_map] at hx
        obtain ⟨La, hLa, rfl⟩ := Option.map_eq_some_iff.mp hx
        have il : k < Ls.length := by
          have := (List.getElem?_eq_some_iff.mp hLa).1
          have := Y5.len
          omega
        have hL : Ls[k]? = some Ls[k] := List.getElem?_eq_getElem il
        obtain ⟨ys, ey, dy⟩ := Y5.one k La _ hLa hL
        have l1 := flatE_take_le (Ls := Ls) k
        have l2 := F5.h60 _ (List.getElem_mem il)
        have l3 := F5.few
        have ul : us.length = (Ls.take k).flatten.length := by rw [du.len, List.length_map]
        have yl : ys.length = Ls[k].length := by rw [dy.len, List.length_map]
        refine ⟨_, rfl, _, rfl, L, La, us, ys, rfl, rfl, eL, s6 _ _ ey, Nat.le_trans (show _ ≤ 120 by omega) (by decide), fun r nr => ?_⟩
        have sr := same_new (o := .lst (us ++ ys)) nr
        refine ⟨⟨r, us ++ ys, _, rfl, upd_same, ?_⟩, s6.trans sr⟩
        rw [flatE_take hL, List.map_append]
        exact (DtAll.same sr _ _ du).app (DtAll.same (s6.trans sr) _ _ dy)
      obtain ⟨⟨L, us, o6', rfl, eL, du⟩, s6⟩ := h
      rw [List.length_map, List.take_of_length_le (by rw [Y5.len]; exact Nat.le_refl _)] at du
      have eok : ∀ e ∈ Ls.flatten, EntOk (fs.map (·.1)) b 5 e := fun e he => by
        obtain ⟨L', hL', he'⟩ := List.mem_flatten.mp he
        obtain ⟨j, hj, ej⟩ := List.mem_iff_getElem.mp hL'
        exact (F5.ok j L' (by rw [List.getElem?_eq_getElem hj, ej]) e he').le (by omega)
      have ene : Ls.flatten ≠ [] := fun z => by
        obtain ⟨e, he⟩ := F5.zero
        have : e ∈ Ls.flatten := List.mem_flatten.mpr ⟨[e], List.mem_of_getElem? he, List.mem_singleton.mpr rfl⟩
        rw [z] at this
        cases this
      have el60 : Ls.flatten.length ≤ 60 := by rw [flatE_len]; exact F5.few
      have s46 := s5.trans s6
      have X6 := X4.same s46
      have S6 := S4.same s46
      have p6 := p4.trans (Past.same p4.dice s46)
      clear X4 S4 p4 s5 s6 s46 Y5 nA l6 e4 F5
      generalize Ls.flatten = es at du eok ene el60
      clear as A L0 Ls
      have hd6 := p6.dice
      have Ld : L ≠ d := fun z => by
        obtain ⟨g, s, c, e⟩ := hd6
        rw [z, e] at eL
        have hx : us = [.int g, .int s, .int c] := (HO.lst.inj (Option.some.inj eL)).symm
        rw [hx] at du
        cases es with
        | nil => exact ene rfl
        | cons e0 es =>
          cases du with
          | cons k _ => cases k
      refine ⟨6, rfl, by decide, by decide, for_range (lo := 0) (n := 6) (fun k σ H' => (∃ o6 o7 o8 o9 o10 o11 o12 o13 o14 o15, σ = [some (.ref a), some (.int (0 + (i : Int))), some (.ref d), some (.ref p), some (.ref sc), some (.ref L), o6, o7, o8, o9, o10, o11, o12, o13, o14, o15]) ∧ Past d H6 H') ⟨⟨_, _, _, _, _, _, _, _, _, _, rfl⟩, Past.refl hd6⟩ ?_ ?_⟩
      · rintro k σ H7 hk ⟨⟨o6, o7, o8, o9, o10, o11, o12, o13, o14, o15, rfl⟩, p67⟩
        have k67 := Keep.past hd6 p67
        have X7 := X6.keep k67
        have S7 := S6.keep k67
        have p07 := p67
        -- a picture that is sound, or a hole
        refine ⟨_, rfl, _, rfl, _, rfl, _, rfl, p, tl, tb, b, ts, fs, rfl, X7, SO, fun zl zs H8 s8 nz ez nez l64 => ?_⟩
        have p8 := Past.same p67.dice s8
        refine ⟨d, .ref zl, (fun v => ∃ z, v = .str z), rfl, p8.dice, .inl ⟨zl, _, rfl, p67.dice.ne nz, .inl (.inl (.inl ez)), (fun z => nez (by cases zs with | nil => rfl | cons => cases z)), by rw [List.length_map]; omega, fun v hv => by obtain ⟨z, _, rfl⟩ := List.mem_map.mp hv; exact ⟨z, rfl⟩⟩, fun v H9 p9 hv => ?_⟩
        obtain ⟨so, rfl⟩ := hv
        have p79 := p8.trans p9
        refine ⟨d, p, tl, tb, b, ts, fs, so, 4, rfl, p9.dice, X7.keep (Keep.past p67.dice p79), PO, by decide, by decide, fun v1 pic1 H10 p10 dt1 ok1 lv1 sp1 => ?_⟩
        have p710 := p79.trans p10
        have X10 := X7.keep (Keep.past p67.dice p710)
        have S10 := S7.keep (Keep.past p67.dice p710)
        have D10 : Dt H10 v1 (pcD pic1) := Dt.same Fr.same _ _ dt1
        have p010 := p07.trans p710
        clear dt1 p10 p79 p9 p8 nez ez nz s8 p710 X7 S7 p07 k67
        show gName 8 v1 _ H10 _
        refine name_join (fun σ' H' => σ' = [some (.ref a), some (.int (0 + (i : Int))), some (.ref d), some (.ref p), some (.ref sc), some (.ref L), o6, some (.int (0 + (k : Int))), some v1, o9, o10, o11, o12, o13, o14, o15] ∧ Past d H10 H') (fun nx hnx => ?_) ?_
        · cases pic1 with
          | hole =>
            obtain ⟨va, rfl, hva⟩ := pc_hole D10
            exact ⟨_, rfl, va, _, 1, _, rfl, rfl, .inl (.inl hva), rfl, rfl, false, rfl, iteF (iteF (hnx _ _ ⟨rfl, Past.refl p010.dice⟩))⟩
          | node n1 ps1 =>
            obtain ⟨va, lp, ys, rfl, hva, _⟩ := pc_node D10
            have sd1 : sound (fs.map (·.1)) (.node n1 ps1) = true := by
              have h : (false || (sound (fs.map (·.1)) (.node n1 ps1) && sortOk (fs.map (·.1)) so (.node n1 ps1))) = true := sp1
              rw [Bool.false_or, Bool.and_eq_true] at h
              exact h.1
            refine ⟨_, rfl, va, _, 1, _, rfl, rfl, .inl (.inl hva), rfl, rfl, true, rfl, iteT ⟨_, rfl, _, rfl, _, rfl, _, rfl, d, p, sc, tl, tb, .ref va, b, ts, fs, ds, .node n1 ps1, rfl, p010.dice, X10, SO, S10, pm, PO, kids, D10, ok1, lv1, sd1, fun H11 p11 => ⟨_, rfl, iteF (hnx _ _ ⟨rfl, p11⟩)⟩⟩⟩
        rintro σ H11 ⟨rfl, p11⟩
        have k11 := Keep.past p010.dice p11
        have X11 := X10.keep k11
        have S11 := S10.keep k11
        have D11 := Dt.keep (Keeps.past p010.dice p11) _ _ (pc_noDz pic1) D10
        have p011 := p010.trans p11
        clear X10 S10 D10 p010 p11 k11 sp1
        refine asg_at ?_
        -- another picture
        have psn : (fs.map (·.1)).map (·.1) = fs.map (·.1.1) := by rw [List.map_map]; rfl
        refine ⟨_, rfl, _, rfl, p, _, _, .ref tb, rfl, rfl, .inl (.inl X11.at_), by rfl, tb, kvsP fs, fs.map (·.1.1), rfl, .inl X11.dict, by rw [kvsP_keys], by rw [List.length_map]; omega, fun zs q1 pz sz nq1 => ?_⟩
        have s12 := same_new (o := .lst (zs.map V.str)) nq1
        have e12 : (upd H11 q1 (.lst (zs.map V.str))) q1 = some (.lst (zs.map V.str)) := upd_same
        generalize upd H11 q1 (.lst (zs.map V.str)) = H12 at s12 e12 ⊢
        refine ⟨by show 1 ≤ sizeLine; decide, fun q2 nq2 => ?_⟩
        have s13 := same_new (o := .lst [.str "zz"]) nq2
        have e13 : (upd H12 q2 (.lst [.str "zz"])) q2 = some (.lst [.str "zz"]) := upd_same
        generalize upd H12 q2 (.lst [.str "zz"]) = H13 at s13 e13 ⊢
        have zl : zs.length ≤ 5 := by rw [pz.length_eq, List.length_map]; exact few
        refine ⟨q1, q2, _, _, rfl, rfl, s13 _ _ e12, e13, Nat.le_trans (show _ ≤ 6 by rw [List.length_map, List.length_singleton]; omega) (by decide), fun nl nnl => ?_⟩
        have s14 := same_new (o := .lst (zs.map V.str ++ [.str "zz"])) nnl
        have e14 : (upd H13 nl (.lst (zs.map V.str ++ [.str "zz"]))) nl = some (.lst (zs.map V.str ++ [.str "zz"])) := upd_same
        generalize upd H13 nl (.lst (zs.map V.str ++ [.str "zz"])) = H14 at s14 e14 ⊢
        obtain ⟨ws, ews, wok⟩ := names_S (zs := zs ++ [("zz" : Str)]) fun z hz => by
          rcases List.mem_append.mp hz with h | h
          · obtain ⟨r, hr, rfl⟩ := List.mem_map.mp (pz.mem_iff.mp h)
            exact PO.nam _ (List.mem_map.mpr ⟨r, hr, rfl⟩)
          · rw [List.mem_singleton.mp h]
            decide +kernel
        have e14' : H14 nl = some (.lst (ws.map fun x => V.str (S x))) := by
          rw [e14]
          have : zs.map V.str ++ [V.str "zz"] = (zs ++ [("zz" : Str)]).map V.str := by rw [List.map_append]; rfl
          rw [this, ews, List.map_map]
          rfl
        have wl : ws.length = zs.length + 1 := by
          have := congrArg List.length ews
          rw [List.length_append, List.length_map] at this
          exact this.symm
        have s1114 := (s12.trans s13).trans s14
        have p14 := Past.same p011.dice s1114
        refine ⟨d, nl, ws, 3, rfl, p14.dice, e14', (fun z => by rw [z] at wl; simp at wl), by omega, wok, by decide, fun v2 pic2 H15 p15 dt2 ok2 lv2 => ?_⟩
        have p1115 := p14.trans p15
        have k15 := Keep.past p011.dice p1115
        have X15 := X11.keep k15
        have S15 := S11.keep k15
        have D15 := Dt.keep (Keeps.past p011.dice p1115) _ _ (pc_noDz pic1) D11
        have D25 : Dt H15 v2 (pcD pic2) := Dt.same Fr.same _ _ dt2
        have p015 := p011.trans p1115
        clear X11 S11 D11 p011 p1115 k15 p15 p14 s1114 wl e14' ews e14 s14 e13 s13 e12 s12 nq1 nq2 nnl dt2 wok pz sz
        show gName 9 v2 _ H15 _
        refine asg_at ?_
        refine join_at (I := fun v H' => v = .bl (sound (fs.map (·.1)) pic2) ∧ Same H15 H') (fun Q' kq => ?_) (fun v H16 h => ?_)
        · cases pic2 with
          | hole =>
            obtain ⟨va, rfl, hva⟩ := pc_hole D25
            exact ⟨_, rfl, va, _, 1, _, rfl, rfl, .inl (.inl hva), rfl, rfl, false, rfl, iteF (kq _ _ ⟨rfl, Same.refl _⟩)⟩
          | node n2 ps2 =>
            obtain ⟨va, lp, ys, rfl, hva, _⟩ := pc_node D25
            exact ⟨_, rfl, va, _, 1, _, rfl, rfl, .inl (.inl hva), rfl, rfl, true, rfl, iteT ⟨_, rfl, _, rfl, p, tl, tb, b, ts, fs, .ref va, .node n2 ps2, rfl, X15.r, D25, ok2, by omega, by omega, rfl, fun H' s' => kq _ _ ⟨rfl, s'⟩⟩⟩
        obtain ⟨rfl, s16⟩ := h
        have X16 := X15.same s16
        have S16 := S15.same s16
        have D16 := Dt.same s16 _ _ D15
        have D26 := Dt.same s16 _ _ D25
        have p016 := p015.trans (Past.same p015.dice s16)
        clear X15 S15 D15 D25 p015 s16
        -- both tell the same
        refine ⟨_, rfl, _, rfl, v2, pic2, rfl, D26, ok2, by omega, by omega, fun H17 s17 => ?_⟩
        intro x dx nx ndx ne
        refine ⟨x, dx, pic2, rfl, upd_same, ok2, by omega, by omega, fun H18 b18 pa => ⟨rfl, ?_⟩⟩
        have s18 := s17.trans (same_made nx ndx b18)
        clear nx ndx ne b18 s17
        have S18 := S16.same s18
        dsimp only [tNil]
        refine sound_at S18 pm PO.once pa ok2 (by omega) fun H19 s19 => ?_
        have bs : ∀ c : Bool, (PyData.bool c).showable = true ∧ (PyData.bool c).hasDict = false ∧ (PyData.bool c).depth < 64 ∧ (PyData.bool c).shown.length ≤ sizeLine := by decide +kernel
        obtain ⟨b1, b2, b3, b4⟩ := bs (sound (fs.map (·.1)) pic2)
        refine ⟨.bl _, .bool _, rfl, .bl _, b1, b2, b3, b4, ?_⟩
        refine ⟨_, rfl, .bl _, .bool _, rfl, .bl _, b1, b2, b3, b4, ?_⟩
        refine ⟨rfl, _, rfl, ?_⟩
        rw [decide_eq_true rfl]
        refine iteF ?_
        have s1619 := s18.trans s19
        have X19 := X16.same s1619
        have S19 := S18.same s19
        have D19 := Dt.same s1619 _ _ D16
        have D29 := Dt.same s1619 _ _ D26
        have p019 := p016.trans (Past.same p016.dice s1619)
        clear X16 S16 D16 D26 p016 s1619 s18 s19 S18 pa b1 b2 b3 b4 bs
        refine ⟨_, rfl, _, rfl, _, rfl, by show 3 ≤ sizeLine; decide, fun t nt => ?_⟩
        have st := same_new (o := .tup [v1, v1, v2]) nt
        have et : (upd H19 t (.tup [v1, v1, v2])) t = some (.tup [v1, v1, v2]) := upd_same
        have X20 := X19.same st
        have S20 := S19.same st
        have D120 := Dt.same st _ _ D19
        have D220 := Dt.same st _ _ D29
        have p020 := p019.trans (Past.same p019.dice st)
        generalize upd H19 t (.tup [v1, v1, v2]) = H20 at et X20 S20 D120 D220 p020 ⊢
        clear X19 S19 D19 D29 p019 st nt
        refine ⟨t, rfl, ⟨_, .inl (.inl et)⟩, ?_⟩
        refine for_tup (K := K) (a := t) (xs := [v1, v1, v2]) (fun j σ H' => (∃ o11, σ = [some (.ref a), some (.int (0 + (i : Int))), some (.ref d), some (.ref p), some (.ref sc), some (.ref L), o6, some (.int (0 + (k : Int))), some v1, some v2, some (.bl (sound (fs.map (·.1)) pic2)), o11, o12, o13, o14, o15]) ∧ Past d H20 H') ⟨⟨_, rfl⟩, Past.refl p020.dice⟩ (fun j σ H' _ h => .inl (.inl (Tups.past p020.dice h.2 _ _ et))) (fun j y σ H21 hy h => ?_) (fun σ H21 h => ?_)
        · obtain ⟨⟨o11, rfl⟩, p21⟩ := h
          have k21 := Keep.past p020.dice p21
          have kk21 := Keeps.past p020.dice p21
          have p021 := p020.trans p21
          obtain ⟨pic, okp, lvp, Dy⟩ : ∃ pic, pic.Ok ∧ pic.lev ≤ 4 ∧ Dt H21 y (pcD pic) := by
            match j, hy with
            | 0, hy => cases hy; exact ⟨pic1, ok1, lv1, Dt.keep kk21 _ _ (pc_noDz _) D120⟩
            | 1, hy => cases hy; exact ⟨pic1, ok1, lv1, Dt.keep kk21 _ _ (pc_noDz _) D120⟩
            | 2, hy => cases hy; exact ⟨pic2, ok2, by omega, Dt.keep kk21 _ _ (pc_noDz _) D220⟩
            | j + 3, hy => simp at hy
          refine ⟨_, rfl, _, rfl, _, rfl, _, rfl, _, rfl, d, p, sc, tl, tb, L, y, b, ts, fs, ds, pic, us, es, rfl, p21.dice, X20.keep k21, SO, S20.keep k21, pm, PO, Dy, okp, lvp, p021.1 _ _ Ld eL, DtAll.tups (Tups.past hd6 p021) _ _ (entD_only _) du, eok, ene, el60, fun H22 p22 => ⟨_, rfl, iteF ⟨⟨_, rfl⟩, p21.trans p22⟩⟩⟩
        · obtain ⟨⟨o11, rfl⟩, p21⟩ := h
          exact ⟨⟨_, _, _, _, _, _, _, _, _, _, rfl⟩, p020.trans p21⟩
      · rintro σ H7 ⟨⟨o6, o7, o8, o9, o10, o11, o12, o13, o14, o15, rfl⟩, p67⟩
        exact ⟨⟨_, _, _, _, _, _, _, _, _, _, _, _, _, _, _, rfl⟩, aS _ (p6.trans p67)⟩
    · rintro σ H' ⟨⟨o1, o2, o3, o4, o5, o6, o7, o8, o9, o10, o11, o12, o13, o14, o15, rfl⟩, hS'⟩
      clear hS hS' hl
      dsimp only
      refine asg_at ?_
      -- the first form
      refine ⟨by show 2 ≤ sizeLine; decide, fun u1 n1 => ⟨by show 2 ≤ sizeLine; decide, fun u2 n2 => ⟨by show 2 ≤ sizeLine; decide, fun ch nch => ?_⟩⟩⟩
      have sa1 := same_new (o := .tup [.str "t", .int 1]) n1
      have sa2 := same_new (o := .tup [.str "t", .int 1]) n2
      have sa3 := same_new (o := .tup [.ref u1, .ref u2]) nch
      have ka := two_kids (n1 := "t") (n2 := "t") (s1 := 1) (s2 := 1) (H := upd (upd (upd H' u1 (.tup [.str "t", .int 1])) u2 (.tup [.str "t", .int 1])) ch (.tup [.ref u1, .ref u2])) upd_same (sa3 _ _ (sa2 _ _ upd_same)) (sa3 _ _ upd_same) (by decide +kernel) (by decide +kernel) (by decide) (by decide)
      generalize upd (upd (upd H' u1 (.tup [.str "t", .int 1])) u2 (.tup [.str "t", .int 1])) ch (.tup [.ref u1, .ref u2]) = H2 at ka ⊢
      clear sa1 sa2 sa3 n1 n2 nch
      intro xa dxa nxa ndxa nea
      refine made_form (n := "even") (so := "t") (by decide +kernel) (by decide +kernel) ka nxa ndxa nea fun H3 s3 FA => ⟨rfl, ?_⟩
      clear nxa ndxa nea ka
      -- the second
      refine ⟨by show 2 ≤ sizeLine; decide, fun v1 m1 => ⟨by show 2 ≤ sizeLine; decide, fun v2 m2 => ⟨by show 2 ≤ sizeLine; decide, fun ch2 nch2 => ?_⟩⟩⟩
      have sb1 := same_new (o := .tup [.str "t", .int 1]) m1
      have sb2 := same_new (o := .tup [.str "t", .int 2]) m2
      have sb3 := same_new (o := .tup [.ref v1, .ref v2]) nch2
      have kb := two_kids (n1 := "t") (n2 := "t") (s1 := 1) (s2 := 2) (H := upd (upd (upd H3 v1 (.tup [.str "t", .int 1])) v2 (.tup [.str "t", .int 2])) ch2 (.tup [.ref v1, .ref v2])) upd_same (sb3 _ _ (sb2 _ _ upd_same)) (sb3 _ _ upd_same) (by decide +kernel) (by decide +kernel) (by decide) (by decide)
      have s4 := (sb1.trans sb2).trans sb3
      have FA4 := FA.sm s4
      generalize upd (upd (upd H3 v1 (.tup [.str "t", .int 1])) v2 (.tup [.str "t", .int 2])) ch2 (.tup [.ref v1, .ref v2]) = H4 at kb s4 FA4 ⊢
      clear sb1 sb2 sb3 m1 m2 nch2 s4 FA s3
      intro xb dxb nxb ndxb neb
      refine made_form (n := "left") (so := "t") (by decide +kernel) (by decide +kernel) kb nxb ndxb neb fun H5 s5 FB => ⟨rfl, ?_⟩
      have FA5 := FA4.sm s5
      clear nxb ndxb neb kb FA4 s5
      refine ⟨by show 2 ≤ sizeLine; decide, fun ll nll => ?_⟩
      have s6 := same_new (o := .lst [.ref xa, .ref xb]) nll
      have e6 : (upd H5 ll (.lst [.ref xa, .ref xb])) ll = some (.lst [.ref xa, .ref xb]) := upd_same
      have FA6 := FA5.sm s6
      have FB6 := FB.sm s6
      generalize upd H5 ll (.lst [.ref xa, .ref xb]) = H6 at e6 FA6 FB6 ⊢
      clear s6 nll FA5 FB
      refine ⟨ll, _, rfl, .inl ⟨.inl (.inl e6), fun ff nff => ?_⟩⟩
      have s7 := same_new (o := .tup [.ref xa, .ref xb]) nff
      have e7 : (upd H6 ff (.tup [.ref xa, .ref xb])) ff = some (.tup [.ref xa, .ref xb]) := upd_same
      have FA7 := FA6.sm s7
      have FB7 := FB6.sm s7
      show gName 12 (.ref ff) _ (upd H6 ff (.tup [.ref xa, .ref xb])) _
      generalize upd H6 ff (.tup [.ref xa, .ref xb]) = H7 at e7 FA7 FB7 ⊢
      clear s7 nff FA6 FB6 e6
      refine ⟨by show 1 ≤ sizeLine; decide, fun tt ntt => ⟨_, rfl, ?_⟩⟩
      have s8 := same_new (o := .tup [.str "t"]) ntt
      have et8 : (upd H7 tt (.tup [.str "t"])) tt = some (.tup [.str "t"]) := upd_same
      have e8 := s8 _ _ e7
      have FA8 := FA7.sm s8
      have FB8 := FB7.sm s8
      generalize upd H7 tt (.tup [.str "t"]) = H8 at et8 e8 FA8 FB8 ⊢
      clear s8 ntt FA7 FB7 e7
      intro sc dsc nsc ndsc nesc
      refine mk_okH (fs := [xa, xb]) (ys := ["t"]) (ds := [dE, dL]) law_schOk nsc ndsc nesc et8 e8 ⟨rfl, fun i x dd e1 e2 => ?_⟩ fun ds H9 s9 S9 pm => ?_
      · match i, e1, e2 with
        | 0, e1, e2 =>
          cases e1
          cases e2
          exact ⟨_, _, FA8⟩
        | 1, e1, e2 =>
          cases e1
          cases e2
          exact ⟨_, _, FB8⟩
        | i + 2, e1, e2 => simp at e1
      clear nsc ndsc nesc et8 e8 FA8 FB8 s9
      have nd : ([dE, dL].map (·.1)).Nodup := by decide +kernel
      obtain ⟨x1, x2, x3, x4⟩ := ex_S
      obtain ⟨f1, f2, f3, f4, f5, f6, f7⟩ := ex_facts
      obtain ⟨g1, g2, g3⟩ := ex_spots
      -- the two pictures
      intro ph dxh nxh ndxh neh
      refine ⟨ph, dxh, picH, by rw [x1], upd_same, picH_ok, by decide, by decide, fun H10 b10 PH => ⟨rfl, ?_⟩⟩
      have s10 := same_made nxh ndxh b10
      have S10 := S9.same s10
      clear nxh ndxh neh b10 s10 S9
      intro pl dxl nxl ndxl nel
      refine ⟨pl, dxl, picL, by rw [x2], upd_same, picL_ok, by decide, by decide, fun H11 b11 PL => ⟨rfl, ?_⟩⟩
      have s11 := same_made nxl ndxl b11
      have S11 := S10.same s11
      have PH11 := PH.keep (KeepP.of s11) _ _
      clear nxl ndxl nel b11 s11 S10 PH
      refine ⟨_, _, _, rfl, ?_⟩
      dsimp only
      refine asg_at ?_
      refine ⟨_, rfl, _, rfl, ?_⟩
      dsimp only [tNil]
      refine spots_at S11 pm nd PH11 picH_ok (by decide) f1 fun t1 H12 s12 d12 => ?_
      rw [f2] at d12
      have S12 := S11.same s12
      have PH12 := PH11.keep (KeepP.of s12) _ _
      have PL12 := PL.keep (KeepP.of s12) _ _
      clear s12 S11 PH11 PL
      refine ⟨_, rfl, _, rfl, _, rfl, _, rfl, ?_⟩
      dsimp only [tNil]
      refine spots_at S12 pm nd PH12 picH_ok (by decide) f1 fun t2 H13 s13 d13 => ?_
      rw [f2] at d13
      have S13 := S12.same s13
      have PL13 := PL12.keep (KeepP.of s13) _ _
      have d12' := Dt.same s13 _ _ d12
      clear s13 S12 PH12 PL12 d12
      refine over_at S13 pm nd PL13 picL_ok (by decide) d13 g1 rfl fun r1 H14 s14 dr1 => ?_
      rw [f3] at dr1
      cases dr1
      have S14 := S13.same s14
      have PL14 := PL13.keep (KeepP.of s14) _ _
      have d14 := Dt.same s14 _ _ d12'
      clear s14 S13 PL13 d12' d13
      refine ⟨by show 2 ≤ sizeLine; decide, fun R nR => ?_⟩
      have s15 := same_new (o := .lst [.ref t1, .non]) nR
      have eR : (upd H14 R (.lst [.ref t1, .non])) R = some (.lst [.ref t1, .non]) := upd_same
      have scm : ∀ {H' : Hp}, ButL R H14 H' → SchemeAt H' C CS sc "t" ["t"] ds := fun kr => S14.same fun c o h => kr c o (ne_of_none h nR) h
      have kr15 : ButL R H14 (upd H14 R (.lst [.ref t1, .non])) := fun c o n h => s15 _ _ h
      have PL15 := PL14.keep (KeepP.of s15) _ _
      have d15 := Dt.same s15 _ _ d14
      show gName 15 (.ref R) _ (upd H14 R (.lst [.ref t1, .non])) _
      generalize upd H14 R (.lst [.ref t1, .non]) = H15 at eR kr15 PL15 d15 ⊢
      clear s15 nR S14 PL14 d14
      -- over spots that fit
      refine ⟨.ref R, rfl, .inl ⟨rfl, _, .inl (.inl eR)⟩, ?_⟩
      refine ⟨_, rfl, _, rfl, ⟨1, rfl, by show 2 ≤ sizeLine; decide, fun w1 nw1 => ⟨2, rfl, by show 2 ≤ sizeLine; decide, fun w2 nw2 => ⟨2, rfl, by show 2 ≤ sizeLine; decide, fun w3 nw3 => ⟨by show 3 ≤ sizeLine; decide, fun w4 nw4 => ?_⟩⟩⟩⟩⟩
      dsimp only [tNil]
      have a1 := same_new (o := .tup [.str "t", .int (-1)]) nw1
      have a2 := same_new (o := .tup [.str "t", .int (-2)]) nw2
      have a3 := same_new (o := .tup [.str "t", .int (-2)]) nw3
      have a4 := same_new (o := .tup [.ref w1, .ref w2, .ref w3]) nw4
      have s16 := ((a1.trans a2).trans a3).trans a4
      have dW : Dt (upd (upd (upd (upd H15 w1 (.tup [.str "t", .int (-1)])) w2 (.tup [.str "t", .int (-2)])) w3 (.tup [.str "t", .int (-2)])) w4 (.tup [.ref w1, .ref w2, .ref w3])) (.ref w4) (.tuple (spots2.map spP)) :=
        .tup upd_same (.cons (spP_mk (s := ("t", -1)) (a4 _ _ (a3 _ _ (a2 _ _ upd_same)))) (.cons (spP_mk (s := ("t", -2)) (a4 _ _ (a3 _ _ upd_same))) (.cons (spP_mk (s := ("t", -2)) (a4 _ _ upd_same)) .nil)))
      generalize upd (upd (upd (upd H15 w1 (.tup [.str "t", .int (-1)])) w2 (.tup [.str "t", .int (-2)])) w3 (.tup [.str "t", .int (-2)])) w4 (.tup [.ref w1, .ref w2, .ref w3]) = H16 at s16 dW ⊢
      clear a1 a2 a3 a4 nw1 nw2 nw3 nw4
      refine over_at ((scm kr15).same s16) pm nd (PL15.keep (KeepP.of s16) _ _) picL_ok (by decide) dW g2 rfl fun r2 H17 s17 dr2 => ?_
      rw [f4] at dr2
      obtain ⟨ra, rfl, era⟩ := spP_inv (s := ("t", 0)) dr2
      have s1517 := s16.trans s17
      have kr17 : ButL R H14 H17 := fun c o n h => s1517 _ _ (kr15 c o n h)
      have d17 := Dt.same s1517 _ _ d15
      have eR17 := s1517 _ _ eR
      clear s1517 s16 s17 dW dr2 PL15 d15 eR kr15
      refine ⟨R, _, _, rfl, rfl, eR17, by show 2 < sizeLine; decide, ?_⟩
      have b18 : Tups H17 (upd H17 R (.lst [.ref t1, .non, .ref ra])) := Tups.putL _ eR17
      have d18 := Dt.tups b18 (.tuple (spots1.map spP)) _ (spP_only _) d17
      have era18 := b18 _ _ era
      have eR18 : (upd H17 R (.lst [.ref t1, .non, .ref ra])) R = some (.lst [.ref t1, .non, .ref ra]) := upd_same
      have kr18 : ButL R H14 (upd H17 R (.lst [.ref t1, .non, .ref ra])) := fun c o n h => by rw [upd_ne n]; exact kr17 c o n h
      show tSeq _ _ _ _ (upd H17 R (.lst [.ref t1, .non, .ref ra]))
      generalize upd H17 R (.lst [.ref t1, .non, .ref ra]) = H18 at d18 era18 eR18 kr18 ⊢
      clear b18 d17 era eR17 kr17
      -- over one spot
      refine ⟨.ref R, rfl, .inl ⟨rfl, _, .inl (.inl eR18)⟩, ?_⟩
      refine ⟨_, rfl, ?_⟩
      intro pz dxz nxz ndxz nez
      refine ⟨pz, dxz, .hole, by rw [x4], upd_same, trivial, by decide, by decide, fun H19 b19 PZ => ⟨rfl, ?_⟩⟩
      have s19 := same_made nxz ndxz b19
      have kr19 : ButL R H14 H19 := fun c o n h => s19 _ _ (kr18 c o n h)
      have d19 := Dt.same s19 _ _ d18
      have era19 := s19 _ _ era18
      have eR19 := s19 _ _ eR18
      clear nxz ndxz nez b19 s19 d18 era18 eR18 kr18
      refine ⟨by show 2 ≤ sizeLine; decide, fun y1 ny1 => ⟨by show 1 ≤ sizeLine; decide, fun y2 ny2 => ?_⟩⟩
      have c1 := same_new (o := .tup [.str "a", .int 5]) ny1
      have c2 := same_new (o := .tup [.ref y1]) ny2
      have s20 := c1.trans c2
      have dY : Dt (upd (upd H19 y1 (.tup [.str "a", .int 5])) y2 (.tup [.ref y1])) (.ref y2) (.tuple (spots3.map spP)) := .tup upd_same (.cons (spP_mk (s := ("a", 5)) (c2 _ _ upd_same)) .nil)
      dsimp only [tNil]
      generalize upd (upd H19 y1 (.tup [.str "a", .int 5])) y2 (.tup [.ref y1]) = H20 at s20 dY ⊢
      clear c1 c2 ny1 ny2
      refine over_at (scm fun c o n h => s20 _ _ (kr19 c o n h)) pm nd (PZ.keep (KeepP.of s20) _ _) trivial (by decide) dY g3 rfl fun r3 H21 s21 dr3 => ?_
      rw [f5] at dr3
      obtain ⟨rb, rfl, erb⟩ := spP_inv (s := ("a", 5)) dr3
      have s1921 := s20.trans s21
      have kr21 : ButL R H14 H21 := fun c o n h => s1921 _ _ (kr19 c o n h)
      have d21 := Dt.same s1921 _ _ d19
      have era21 := s1921 _ _ era19
      have eR21 := s1921 _ _ eR19
      clear s1921 s20 s21 dY dr3 d19 era19 eR19 kr19 PZ
      refine ⟨R, _, _, rfl, rfl, eR21, by show 3 < sizeLine; decide, ?_⟩
      have b22 : Tups H21 (upd H21 R (.lst [.ref t1, .non, .ref ra, .ref rb])) := Tups.putL _ eR21
      have d22 := Dt.tups b22 (.tuple (spots1.map spP)) _ (spP_only _) d21
      have era22 := b22 _ _ era21
      have erb22 := b22 _ _ erb
      have eR22 : (upd H21 R (.lst [.ref t1, .non, .ref ra, .ref rb])) R = some (.lst [.ref t1, .non, .ref ra, .ref rb]) := upd_same
      have kr22 : ButL R H14 (upd H21 R (.lst [.ref t1, .non, .ref ra, .ref rb])) := fun c o n h => by rw [upd_ne n]; exact kr21 c o n h
      show tSeq _ _ _ _ (upd H21 R (.lst [.ref t1, .non, .ref ra, .ref rb]))
      generalize upd H21 R (.lst [.ref t1, .non, .ref ra, .ref rb]) = H22 at d22 era22 erb22 eR22 kr22 ⊢
      clear b22 d21 era21 erb eR21 kr21
      -- what is no sound picture
      refine asg_at ?_
      refine ⟨_, rfl, _, rfl, ?_⟩
      intro pa dxa nxa ndxa nea
      refine ⟨pa, dxa, .hole, by rw [x4], upd_same, trivial, by decide, by decide, fun H23 b23 PA => ⟨rfl, ?_⟩⟩
      have s23 := same_made nxa ndxa b23
      clear nxa ndxa nea b23
      dsimp only [tNil]
      refine sound_at (scm fun c o n h => s23 _ _ (kr22 c o n h)) pm nd PA trivial (by decide) fun H24 s24 => ?_
      rw [f6]
      have s2224 := s23.trans s24
      clear s23 s24 PA
      refine ⟨_, rfl, ?_⟩
      intro pb dxb nxb ndxb neb
      refine ⟨pb, dxb, picT, by rw [x3], upd_same, picT_ok, by decide, by decide, fun H25 b25 PB => ⟨rfl, ?_⟩⟩
      have s25 := same_made nxb ndxb b25
      have s2225 := s2224.trans s25
      clear nxb ndxb neb b25 s25 s2224
      dsimp only [tNil]
      refine sound_at (scm fun c o n h => s2225 _ _ (kr22 c o n h)) pm nd PB picT_ok (by decide) fun H26 s26 => ?_
      rw [f7]
      have s2226 := s2225.trans s26
      have d26 := Dt.same s2226 _ _ d22
      have era26 := s2226 _ _ era22
      have erb26 := s2226 _ _ erb22
      have eR26 := s2226 _ _ eR22
      clear s2226 s26 s2225 PB d22 era22 erb22 eR22 kr22 scm
      refine ⟨by show 2 ≤ sizeLine; decide, fun q1 nq1 => ?_⟩
      have s27 := same_new (o := .lst [.bl false, .bl false]) nq1
      refine ⟨R, q1, _, _, rfl, rfl, s27 _ _ eR26, upd_same, by show 6 ≤ sizeLine; decide, fun nl nnl => ?_⟩
      have s28 := same_new (o := .lst ([.ref t1, .non, .ref ra, .ref rb] ++ [.bl false, .bl false])) nnl
      have d28 := Dt.same (s27.trans s28) _ _ d26
      have era28 := (s27.trans s28) _ _ era26
      have erb28 := (s27.trans s28) _ _ erb26
      have eL : (upd (upd H26 q1 (.lst [.bl false, .bl false])) nl (.lst ([.ref t1, .non, .ref ra, .ref rb] ++ [.bl false, .bl false]))) nl = some (.lst [.ref t1, .non, .ref ra, .ref rb, .bl false, .bl false]) := upd_same
      show gName 15 (.ref nl) _ (upd (upd H26 q1 (.lst [.bl false, .bl false])) nl (.lst ([.ref t1, .non, .ref ra, .ref rb] ++ [.bl false, .bl false]))) _
      generalize upd (upd H26 q1 (.lst [.bl false, .bl false])) nl (.lst ([.ref t1, .non, .ref ra, .ref rb] ++ [.bl false, .bl false])) = H28 at d28 era28 erb28 eL ⊢
      clear s27 s28 d26 era26 erb26 eR26 nq1 nnl
      have dL1 : Dt H28 (.ref nl) exD := .lst eL (.cons d28 (.cons .non (.cons (spP_mk (s := ("t", 0)) era28) (.cons (spP_mk (s := ("a", 5)) erb28) (.cons (.bl false) (.cons (.bl false) .nil))))))
      refine ⟨_, rfl, ?_⟩
      have neg : ∀ {σ : L2.St} {H : Hp} {i : Int}, Yd (tUn (rU fun i => V.int (-i)) (tC (V.int i))) σ H (.int (-i)) := fun H1 Q s k => ⟨_, rfl, k _ H1 (Same.refl _) (.int _)⟩
      have two : ∀ {σ : L2.St} {H : Hp} {i : Int} {z : Str}, Yd (tTup (tCons (tC (V.str z)) (tCons (tUn (rU fun i => V.int (-i)) (tC (V.int i))) tNil))) σ H (spP (z, -i)) := yd_tup (yd_cons yd_str (yd_cons neg yd_nil)) (by show 2 ≤ sizeLine; decide)
      have one : ∀ {σ : L2.St} {H : Hp} {i : Int} {z : Str}, Yd (tTup (tCons (tC (V.str z)) (tCons (tC (V.int i)) tNil))) σ H (spP (z, i)) := yd_tup (yd_cons yd_str (yd_cons yd_int yd_nil)) (by show 2 ≤ sizeLine; decide)
      refine (yd_lst (yd_cons (yd_tup (yd_cons two (yd_cons two (yd_cons two yd_nil))) (by show 3 ≤ sizeLine; decide)) (yd_cons yd_non (yd_cons one (yd_cons one (yd_cons yd_bl (yd_cons yd_bl yd_nil)))))) (by show 6 ≤ sizeLine; decide)).data.at fun v2 H29 s29 d29 => ?_
      refine ⟨exD, exD, Dt.dp _ _ (by decide +kernel) (Dt.same s29 _ _ dL1), Dt.dp _ _ (by decide +kernel) d29, by decide +kernel, by decide +kernel, ?_⟩
      rw [show PyData.eqv exD exD = true by decide +kernel]
      exact q _
end
end K11
set_option Elab.async false
set_option linter.all false
set_option autoImplicit false
set_option maxRecDepth 100000
set_option maxHeartbeats 8000000
namespace K11
open PySem PySem.Spec PyProof.Rows L2 Vb Wd Rd Xd Xi Xk Xm Xo Xv Xq LamX Oe Of Og Oh SX Pc Zt
abbrev s_iU : Stmt := inB (topS 16) 0
theorem sc_iU : FnScope ["self", "name"] ["self", "name"] (defScope s_iU) := ⟨rfl, rfl, rfl, by decide +kernel, rfl, by decide +kernel, by decide +kernel⟩
section
variable {P : Program} {w : World} {K : PySem.W.Frag} {mg : Str → Option Value} {base : Heap}
theorem ok_iU {f C fI : Addr} {fd : FuncData} (F : Fun K "__init__" "UnknownName.__init__" s_iU f fd) : FnG P w K mg base 1 f fd ["self", "name"] (spSet K C fI "name") := by
  refine goes_by F sc_iU (fun vs H Q E h => ?_) (fun cdv A outer s H vs Q E hc hr h => ?_)
  · obtain ⟨a, y, rfl, _⟩ := h
    rfl
  · obtain ⟨a, y, rfl, T, no, e, q⟩ := h
    exact ⟨_, pss_one (ps_setE (f := "name") (pv 0) (pv 1)), _, rfl, _, rfl, a, C, fI, rfl, T, no, e, fun d nd ne => q d nd ne⟩
end
/-- the def st of a class -/
def Mt (K : PySem.W.Frag) (x qual : Str) (st : Stmt) (f : Addr) (ps : List Str) : Prop := ∃ fd : FuncData, Fun K x qual st f fd ∧ Binds K fd ps []
theorem Mt.mk {K : PySem.W.Frag} {x qual : Str} {st : Stmt} {ps : List Str} {f : Addr} {oc : Value} {od an : Option Addr} {osl : Array (Option Value)} {kV doc pm cdv ct : Value}
    (l : K.lookup f = some ⟨oc, od, .func (PySem.W.fnOf x qual (defArgs st) (defBody st) (defScope st) .none kV doc pm an cdv ct), osl⟩) (c : PySem.W.codeIn K cdv qual = true) (k : PySem.W.keepIn K (.ref f) = true)
    (b : ∀ (kV doc pm : Value) (an : Option Addr) (cdv ct : Value) (us : List Value), us.length = ps.length → bindArgs (PySem.W.fnOf x qual (defArgs st) (defBody st) (defScope st) .none kV doc pm an cdv ct) ⟨us, []⟩ = pure (ps.zip us)) : Mt K x qual st f ps :=
  ⟨_, fun_mk (st := st) l c k, (fun_mk (st := st) l c k).binds b⟩
/-- a property of a class, with its def -/
def Pt (K : PySem.W.Frag) (C : Addr) (n qual : Str) (st : Stmt) : Prop := ∃ (p g : Addr), PropOf K C n p g ∧ Mt K n qual st g ["self"]
/-- the record at p of the kind T begins with the def at g -/
def askR (K : PySem.W.Frag) (p g : Addr) (T : String) : Bool := match PySem.W.recIn K p T with
  | some (.ref g' :: _) => g' == g
  | _ => false
theorem of_askR {K : PySem.W.Frag} {p g : Addr} {T : String} (h : askR K p g T = true) : ∃ rest, PySem.W.recIn K p T = some (.ref g :: rest) := by
  unfold askR at h
  split at h
  · rename_i g' rest e
    have q : g' = g := by simpa using h
    rw [q] at e
    exact ⟨rest, e⟩
  · cases h
def kinds7 : List String := ["NoneType", "bool", "int", "str", "list", "tuple", "dict"]
def NoK (K : PySem.W.Frag) (C : Addr) : Prop := ∀ t ∈ kinds7, PySem.W.kitOne K (.type t) (.ref C) = some false
/-- what is asked of the class Form -/
def askF (K : PySem.W.Frag) (C : Addr) : Bool :=
  PySem.W.plainGet K C Str.empty && (PySem.W.hasDictIn K C && (PySem.W.plainOver K C && (decide (PySem.W.findIn K (.ref C) "__setattr__" = some (some (.builtin "object.__setattr__"))) &&
  (decide (PySem.W.findIn K (.ref C) "_called" = some none) && (decide (PySem.W.findIn K (.ref C) "_sort_name" = some none) && (decide (PySem.W.findIn K (.ref C) "_children" = some none) &&
  (decide (PySem.W.findIn K (.ref C) "__class__" = some (some (.builtin "object.__class__"))) && (decide (PySem.W.specialIn K (.builtin "object.__class__") "__get__" = some (some (.builtin "getset_descriptor.__get__"))) &&
  (decide (PySem.W.takesIn K (.builtin "object.__class__") = some true) && (decide (PySem.W.mroIn K C (.type "object") = some true) && (decide (PySem.W.kitOne K (.ref C) (.ref C) = some true) &&
  ((["str", "tuple", "list", "NoneType"].all fun t => decide (PySem.W.kitOne K (.type t) (.ref C) = some false)) && (kinds7.all fun t => decide (PySem.W.kitOne K (.type t) (.ref C) = some false))))))))))))))
theorem of_askF {K : PySem.W.Frag} {C : Addr} (h : askF K C = true) : FormC K C ∧ FormI K C ∧ NoK K C := by
  unfold askF at h
  simp only [Bool.and_eq_true, decide_eq_true_eq, List.all_eq_true] at h
  obtain ⟨a1, a2, a3, a4, a5, a6, a7, a8, a9, a10, a11, a12, a13, a14⟩ := h
  exact ⟨⟨⟨a1, a2, a3, a4⟩, a5, a6, a7⟩, ⟨a8, a9, a10, a11, a12, a13⟩, a14⟩
/-- what is asked of the class Scheme -/
def askS (K : PySem.W.Frag) (C : Addr) : Bool :=
  PySem.W.plainGet K C Str.empty && (PySem.W.hasDictIn K C && (PySem.W.plainOver K C && (decide (PySem.W.findIn K (.ref C) "__setattr__" = some (some (.builtin "object.__setattr__"))) &&
  ((["_bare", "_tops", "_by_name", "_names", "_forms", "_sorts"].all fun f : String => decide (PySem.W.findIn K (.ref C) f = some none)) &&
  (decide (PySem.W.findIn K (.ref C) "__class__" = some (some (.builtin "object.__class__"))) && (decide (PySem.W.specialIn K (.builtin "object.__class__") "__get__" = some (some (.builtin "getset_descriptor.__get__"))) &&
  (decide (PySem.W.takesIn K (.builtin "object.__class__") = some true) && (decide (PySem.W.mroIn K C (.type "object") = some true) && (decide (PySem.W.kitOne K (.ref C) (.ref C) = some true) &&
  ((["str", "tuple", "list", "NoneType"].all fun t => decide (PySem.W.kitOne K (.type t) (.ref C) = some false)) &&
  ((kinds7.all fun t => decide (PySem.W.kitOne K (.type t) (.ref C) = some false)))))))))))))
structure OfS (K : PySem.W.Frag) (C : Addr) : Prop where
  c : SchemeC K C
  i : FormI K C
  no : NoK K C
theorem of_askS {K : PySem.W.Frag} {C : Addr} (h : askS K C = true) : OfS K C := by
  unfold askS at h
  simp only [Bool.and_eq_true, decide_eq_true_eq, List.all_eq_true] at h
  obtain ⟨a1, a2, a3, a4, a5, a8, a9, a10, a11, a12, a13, a14⟩ := h
  refine ⟨⟨⟨a1, a2, a3, a4⟩, fun f hf => ?_⟩, ⟨a8, a9, a10, a11, a12, a13⟩, a14⟩
  simp only [List.mem_cons, List.not_mem_nil, or_false] at hf
  rcases hf with rfl | rfl | rfl | rfl | rfl | rfl
  · exact a5 "_bare" (by simp)
  · exact a5 "_tops" (by simp)
  · exact a5 "_by_name" (by simp)
  · exact a5 "_names" (by simp)
  · exact a5 "_forms" (by simp)
  · exact a5 "_sorts" (by simp)
/-- what is asked of the class Picture -/
def askP (K : PySem.W.Frag) (C : Addr) : Bool :=
  PySem.W.plainGet K C Str.empty && (PySem.W.hasDictIn K C && (PySem.W.plainOver K C && (decide (PySem.W.findIn K (.ref C) "__setattr__" = some (some (.builtin "object.__setattr__"))) &&
  ((["_text", "_called", "_parts", "_holes", "_levels", "_names"].all fun f : String => decide (PySem.W.findIn K (.ref C) f = some none)) &&
  (decide (PySem.W.findIn K (.ref C) "__class__" = some (some (.builtin "object.__class__"))) && (decide (PySem.W.specialIn K (.builtin "object.__class__") "__get__" = some (some (.builtin "getset_descriptor.__get__"))) &&
  (decide (PySem.W.takesIn K (.builtin "object.__class__") = some true) && (decide (PySem.W.mroIn K C (.type "object") = some true) && (decide (PySem.W.kitOne K (.ref C) (.ref C) = some true) &&
  ((["str", "tuple", "list", "NoneType"].all fun t => decide (PySem.W.kitOne K (.type t) (.ref C) = some false)) &&
  ((kinds7.all fun t => decide (PySem.W.kitOne K (.type t) (.ref C) = some false)))))))))))))
structure OfP (K : PySem.W.Frag) (C : Addr) : Prop where
  c : PictC K C
  i : FormI K C
  no : NoK K C
theorem of_askP {K : PySem.W.Frag} {C : Addr} (h : askP K C = true) : OfP K C := by
  unfold askP at h
  simp only [Bool.and_eq_true, decide_eq_true_eq, List.all_eq_true] at h
  obtain ⟨a1, a2, a3, a4, a5, a8, a9, a10, a11, a12, a13, a14⟩ := h
  refine ⟨⟨⟨a1, a2, a3, a4⟩, fun f hf => ?_⟩, ⟨a8, a9, a10, a11, a12, a13⟩, a14⟩
  simp only [List.mem_cons, List.not_mem_nil, or_false] at hf
  rcases hf with rfl | rfl | rfl | rfl | rfl | rfl
  · exact a5 "_text" (by simp)
  · exact a5 "_called" (by simp)
  · exact a5 "_parts" (by simp)
  · exact a5 "_holes" (by simp)
  · exact a5 "_levels" (by simp)
  · exact a5 "_names" (by simp)
theorem NoK.two {K : PySem.W.Frag} {C : Addr} (n : NoK K C) : ∀ t ∈ ["int", "bool"], PySem.W.kitOne K (.type t) (.ref C) = some false := fun t ht => by
  simp only [List.mem_cons, List.not_mem_nil, or_false] at ht
  rcases ht with rfl | rfl
  · exact n "int" (by simp [kinds7])
  · exact n "bool" (by simp [kinds7])
/-- a part of a sound picture: none of the levels -/
theorem ok_part_zero {P : Program} {w : World} {K : PySem.W.Frag} {mg : Str → Option Value} {base : Heap} {C CS CP : Addr} {k : Nat} (D : Df K mg "_is_sound_part" s_is_sound_part ["scheme", "part", "sort"]) : CgE P w K mg base k "_is_sound_part" (spPartS C CS CP 0) := by
  obtain ⟨f, fd, F, m, b⟩ := D
  exact ⟨f, fd, _, ⟨fun vs H Q E h => by obtain ⟨_, _, _, _, p, _, _, _, _, _, _, l, _⟩ := h; omega, fun A outer s H args us vs Q E hc hr e0 hb r h => by obtain ⟨_, _, _, _, p, _, _, _, _, _, _, l, _⟩ := h; omega⟩, m, F.kp, b⟩
/-- an error with nothing of its own -/
def askC (K : PySem.W.Frag) (C : Addr) : Bool := PySem.W.excIn K C [.type "ValueError", .type "Exception", .type "BaseException", .type "object"] "ValueError.__new__" && (PySem.W.keepIn K (.ref C) && (decide (PySem.W.subIn K (.ref C) (.type "BaseException") = some true) && decide (PySem.W.typeIn K (.ref C) = some (.type "type"))))
theorem of_askC {K : PySem.W.Frag} {mg : Str → Option Value} {x : Str} {C : Addr} (g : mg x = some (.ref C)) (h : askC K C = true) : ErrC K mg x C := by
  unfold askC at h
  simp only [Bool.and_eq_true, decide_eq_true_eq] at h
  obtain ⟨a, b, c, d⟩ := h
  exact ⟨a, g, b, c, d⟩
/-- the two errors with a field -/
def askU (K : PySem.W.Frag) (CU fU : Addr) : Bool := eiB K CU fU keTail "LookupError.__new__"
theorem of_askU {K : PySem.W.Frag} {CU fU : Addr} (h : askU K CU fU = true) : EI K CU fU := ei_of storeKE PySem.F.excBase_LookupError ⟨by decide +kernel, by decide +kernel, by decide +kernel⟩ h
end K11
set_option Elab.async false
set_option linter.all false
set_option autoImplicit false
set_option maxRecDepth 100000
set_option maxHeartbeats 8000000
namespace K11
open PySem PySem.Spec PyProof.Rows L2 Vb Wd Rd Xd Xi Xk Xm Xo Xv Xq LamX Oe Of Og Oh SX Pc Zt
theorem fin {l : PySem.W.OpenLaw} {w : World} {K : PySem.W.Frag} {mg : Str → Option Value} {fa C CS CP CI CIP CO CU fUI fFI fFL fFE fSI fSX fSC fPI : Addr} {t0 t1 t2 t3 t4 t5 t6 t7 : Tok}
    (L : ∃ fd : FuncData, (∀ (s : Shared) (v : Value), BindsTo s fd ⟨[v], []⟩ [("_law_script", v)]) ∧ Fun K "law" "law" s_law fa fd)
    (D1 : Df K mg "is_integer" s_is_integer ["value"])
    (D2 : Df K mg "is_count" s_is_count ["value"])
    (D3 : Df K mg "is_name" s_is_name ["value"])
    (D4 : Df K mg "is_names" s_is_names ["value"])
    (D5 : Df K mg "_is_step" s_is_step ["value"])
    (D6 : Df K mg "_is_child" s_is_child ["value"])
    (D7 : Df K mg "_is_children" s_is_children ["value"])
    (D8 : Df K mg "_is_scheme" s_is_scheme ["bare", "tops", "forms"])
    (D9 : Df K mg "_sorts_of" s_sorts_of ["tops", "forms"])
    (D10 : Df K mg "split_text" s_split_text ["text"])
    (D11 : Df K mg "_split_blanks" s_split_blanks ["text"])
    (D12 : Df K mg "_depth" s_depth ["text"])
    (D13 : Df K mg "_top_of" s_top_of ["text"])
    (D14 : Df K mg "_is_formed" s_is_formed ["scheme", "picture"])
    (D15 : Df K mg "_is_sound_part" s_is_sound_part ["scheme", "part", "sort"])
    (D16 : Df K mg "is_sound_picture" s_is_sound_picture ["scheme", "value"])
    (D17 : Df K mg "_is_spot" s_is_spot ["value"])
    (D18 : Df K mg "_spots_below" s_spots_below ["scheme", "picture", "level"])
    (D19 : Df K mg "_spot_held" s_spot_held ["scheme", "picture", "spots"])
    (D20 : Df K mg "spots_of" s_spots_of ["scheme", "picture"])
    (D21 : Df K mg "spot_over" s_spot_over ["scheme", "picture", "spots"])
    (D22 : Df K mg "_law_dice" s_l_dice ["_law_script", "_law_spot_here"])
    (D23 : Df K mg "_law_roll" s_l_roll ["_law_dice_here", "_law_total"])
    (D24 : Df K mg "_law_pick" s_l_pick ["_law_dice_here", "_law_items"])
    (D25 : Df K mg "_law_mixed" s_l_mixed ["_law_dice_here", "_law_items"])
    (D26 : Df K mg "_law_names" s_l_names ["_law_dice_here", "_law_many"])
    (D27 : Df K mg "_law_scheme" s_l_scheme ["_law_dice_here", "_law_sorts_here", "_law_forms"])
    (D28 : Df K mg "_law_made_scheme" s_l_made_scheme ["_law_plain"])
    (D29 : Df K mg "_law_spot" s_l_spot ["_law_plain", "_law_tree"])
    (D30 : Df K mg "_law_fillings" s_l_fillings ["_law_lists", "_law_children"])
    (D31 : Df K mg "_law_splits" s_l_splits ["_law_total", "_law_many"])
    (D32 : Df K mg "_law_sound_trees" s_l_sound_trees ["_law_plain", "_law_most", "_law_cap"])
    (D33 : Df K mg "_law_written" s_l_written ["_law_picture"])
    (D34 : Df K mg "_law_filled" s_l_filled ["_law_picture", "_law_parts"])
    (D35 : Df K mg "_law_sorts" s_l_sorts ["_law_plain"])
    (D36 : Df K mg "_law_is_sound" s_l_is_sound ["_law_plain", "_law_picture"])
    (D37 : Df K mg "_law_drawn_picture" s_l_drawn ["_law_dice_here", "_law_names_here", "_law_depth"])
    (D38 : Df K mg "_law_fit_picture" s_l_fit_picture ["_law_dice_here", "_law_plain", "_law_sort", "_law_depth"])
    (D39 : Df K mg "_law_steps_to" s_l_steps_to ["_law_plain", "_law_picture", "_law_level"])
    (D40 : Df K mg "_law_sound_right" s_l_sound_right ["_law_dice_here", "_law_plain", "_law_scheme_here", "_law_picture"])
    (D41 : Df K mg "_law_filled_right" s_l_filled_right ["_law_dice_here", "_law_plain", "_law_scheme_here", "_law_picture", "_law_trees"])
    (D42 : Df K mg "_law_fits" s_l_fits ["_law_plain", "_law_picture"])
    (gC : mg "Form" = some (.ref C))
    (gCS : mg "Scheme" = some (.ref CS))
    (gCP : mg "Picture" = some (.ref CP))
    (gCI : mg "InvalidScheme" = some (.ref CI))
    (gCIP : mg "InvalidPicture" = some (.ref CIP))
    (gCO : mg "InvalidOperation" = some (.ref CO))
    (gCU : mg "UnknownName" = some (.ref CU))
    (k0 : mg "MAX_LETTERS" = some (.int 8 t0))
    (k1 : mg "_TOO_LONG" = some (.int (10 ^ 60) t1))
    (k2 : mg "MAX_CHILDREN" = some (.int 4 t2))
    (k3 : mg "MAX_STEP" = some (.int 3 t3))
    (k4 : mg "MAX_FORMS" = some (.int 24 t4))
    (k5 : mg "MAX_SORTS" = some (.int 8 t5))
    (k6 : mg "MAX_LEVELS" = some (.int 4 t6))
    (k7 : mg "HOLE" = some (.str "." t7))
    (jmC : PySem.W.makesIn K C = true) (jkC : PySem.W.keepIn K (.ref C) = true)
    (jmCS : PySem.W.makesIn K CS = true) (jkCS : PySem.W.keepIn K (.ref CS) = true)
    (jmCP : PySem.W.makesIn K CP = true) (jkCP : PySem.W.keepIn K (.ref CP) = true)
    (eFI : PySem.W.findIn K (.ref C) "__init__" = some (some (.ref fFI))) (tFI : PySem.W.isFn K (.ref fFI) = true)
    (eFL : PySem.W.findIn K (.ref C) "__len__" = some (some (.ref fFL))) (tFL : PySem.W.isFn K (.ref fFL) = true)
    (eFE : PySem.W.findIn K (.ref C) "__eq__" = some (some (.ref fFE))) (tFE : PySem.W.isFn K (.ref fFE) = true)
    (eSI : PySem.W.findIn K (.ref CS) "__init__" = some (some (.ref fSI))) (tSI : PySem.W.isFn K (.ref fSI) = true)
    (eSX : PySem.W.findIn K (.ref CS) "__getitem__" = some (some (.ref fSX))) (tSX : PySem.W.isFn K (.ref fSX) = true)
    (eSC : PySem.W.findIn K (.ref CS) "__contains__" = some (some (.ref fSC))) (tSC : PySem.W.isFn K (.ref fSC) = true)
    (ePI : PySem.W.findIn K (.ref CP) "__init__" = some (some (.ref fPI))) (tPI : PySem.W.isFn K (.ref fPI) = true)
    (nSX : PySem.W.fnIn K fSX = true) (nU : PySem.W.findIn K (.ref CU) "name" = some none)
    (mFI : Mt K "__init__" "Form.__init__" s_init fFI ["self", "called", "sort", "children"])
    (mFL : Mt K "__len__" "Form.__len__" s_len fFL ["self"])
    (mFE : Mt K "__eq__" "Form.__eq__" s_eq fFE ["self", "other"])
    (mSI : Mt K "__init__" "Scheme.__init__" s_S_init fSI ["self", "bare", "tops", "forms"])
    (mSX : Mt K "__getitem__" "Scheme.__getitem__" s_S_getitem fSX ["self", "name"])
    (mSC : Mt K "__contains__" "Scheme.__contains__" s_S_contains fSC ["self", "value"])
    (mPI : Mt K "__init__" "Picture.__init__" s_P_init fPI ["self", "text"])
    (mUI : Mt K "__init__" "UnknownName.__init__" s_iU fUI ["self", "name"])
    (p1 : Pt K C "called" "Form.called" s_called)
    (p2 : Pt K C "sort_name" "Form.sort_name" s_sort_name)
    (p3 : Pt K C "children" "Form.children" s_children)
    (p4 : Pt K CS "bare" "Scheme.bare" s_S_bare)
    (p5 : Pt K CS "tops" "Scheme.tops" s_S_tops)
    (p6 : Pt K CS "forms" "Scheme.forms" s_S_forms)
    (p7 : Pt K CS "names" "Scheme.names" s_S_names)
    (p8 : Pt K CS "sorts" "Scheme.sorts" s_S_sorts)
    (p9 : Pt K CP "text" "Picture.text" s_P_text)
    (p10 : Pt K CP "called" "Picture.called" s_P_called)
    (p11 : Pt K CP "parts" "Picture.parts" s_P_parts)
    (p12 : Pt K CP "holes" "Picture.holes" s_P_holes)
    (p13 : Pt K CP "levels" "Picture.levels" s_P_levels)
    (p14 : Pt K CP "names" "Picture.names" s_P_names)
    (aF : askF K C = true) (aS : askS K CS = true) (aP : askP K CP = true) (aI : askC K CI = true) (aIP : askC K CIP = true) (aO : askC K CO = true) (aU : askU K CU fUI = true)
    (z_int : mg "int" = none) (z_bool : mg "bool" = none) (z_str : mg "str" = none) (z_len : mg "len" = none) (z_abs : mg "abs" = none) (z_max : mg "max" = none) (z_min : mg "min" = none) (z_range : mg "range" = none) (z_isinstance : mg "isinstance" = none) (z_repr : mg "repr" = none) (z_tuple : mg "tuple" = none) (z_all : mg "all" = none) (z_list : mg "list" = none) (z_sorted : mg "sorted" = none) (z_set : mg "set" = none) (z_zip : mg "zip" = none) (z_sum : mg "sum" = none) (z_enumerate : mg "enumerate" = none) :
    ∃ fd : FuncData, (∀ (s : Shared) (v : Value), BindsTo s fd ⟨[v], []⟩ [("_law_script", v)]) ∧ ∀ base : Heap, K.In base → base.Ns mainGlobals mg → FnG l.prog w K mg base 21 fa fd ["_law_script"] (spLaw K) := by
  obtain ⟨fd, b, F⟩ := L
  refine ⟨fd, b, fun base _ _ => ?_⟩
  obtain ⟨TF, TI, noF⟩ := of_askF aF
  obtain ⟨TS, TIS, noS⟩ := of_askS aS
  obtain ⟨TP, TIP, noP⟩ := of_askP aP
  have EI' : ErrC K mg "InvalidScheme" CI := of_askC gCI aI
  have EIP : ErrC K mg "InvalidPicture" CIP := of_askC gCIP aIP
  have EO : ErrC K mg "InvalidOperation" CO := of_askC gCO aO
  have EU := of_askU aU
  obtain ⟨fdFI, FFI, bFI⟩ := mFI
  obtain ⟨fdFL, FFL, bFL⟩ := mFL
  obtain ⟨fdFE, FFE, bFE⟩ := mFE
  obtain ⟨fdSI, FSI, bSI⟩ := mSI
  obtain ⟨fdSX, FSX, bSX⟩ := mSX
  obtain ⟨fdSC, FSC, bSC⟩ := mSC
  obtain ⟨fdPI, FPI, bPI⟩ := mPI
  obtain ⟨fdUI, FUI, bUI⟩ := mUI
  obtain ⟨q1, h1, o1, fd1, G1, b1⟩ := p1
  obtain ⟨q2, h2, o2, fd2, G2, b2⟩ := p2
  obtain ⟨q3, h3, o3, fd3, G3, b3⟩ := p3
  obtain ⟨q4, h4, o4, fd4, G4, b4⟩ := p4
  obtain ⟨q5, h5, o5, fd5, G5, b5⟩ := p5
  obtain ⟨q6, h6, o6, fd6, G6, b6⟩ := p6
  obtain ⟨q7, h7, o7, fd7, G7, b7⟩ := p7
  obtain ⟨q8, h8, o8, fd8, G8, b8⟩ := p8
  obtain ⟨q9, h9, o9, fd9, G9, b9⟩ := p9
  obtain ⟨q10, h10, o10, fd10, G10, b10⟩ := p10
  obtain ⟨q11, h11, o11, fd11, G11, b11⟩ := p11
  obtain ⟨q12, h12, o12, fd12, G12, b12⟩ := p12
  obtain ⟨q13, h13, o13, fd13, G13, b13⟩ := p13
  obtain ⟨q14, h14, o14, fd14, G14, b14⟩ := p14
  have PF : FormP l.prog w K mg base C := ⟨fun x hx => by
    simp only [List.mem_cons, List.not_mem_nil, or_false] at hx
    rcases hx with rfl | rfl | rfl
    · exact ⟨q1, h1, fd1, o1, ok_called G1 TF, b1⟩
    · exact ⟨q2, h2, fd2, o2, ok_sort_name G2 TF, b2⟩
    · exact ⟨q3, h3, fd3, o3, ok_children G3 TF, b3⟩⟩
  have PS : SchemeP l.prog w K mg base CS := ⟨fun x hx => by
    simp only [List.mem_cons, List.not_mem_nil, or_false] at hx
    rcases hx with rfl | rfl | rfl | rfl | rfl
    · exact ⟨q4, h4, fd4, o4, ok_S_bare G4 TS, b4⟩
    · exact ⟨q5, h5, fd5, o5, ok_S_tops G5 TS, b5⟩
    · exact ⟨q6, h6, fd6, o6, ok_S_forms G6 TS, b6⟩
    · exact ⟨q7, h7, fd7, o7, ok_S_names G7 TS, b7⟩
    · exact ⟨q8, h8, fd8, o8, ok_S_sorts G8 TS, b8⟩⟩
  have PP : PictP l.prog w K mg base CP := ⟨fun x hx => by
    simp only [List.mem_cons, List.not_mem_nil, or_false] at hx
    rcases hx with rfl | rfl | rfl | rfl | rfl | rfl
    · exact ⟨q9, h9, fd9, o9, ok_P_text G9 TP, b9⟩
    · exact ⟨q10, h10, fd10, o10, ok_P_called G10 TP, b10⟩
    · exact ⟨q11, h11, fd11, o11, ok_P_parts G11 TP, b11⟩
    · exact ⟨q12, h12, fd12, o12, ok_P_holes G12 TP, b12⟩
    · exact ⟨q13, h13, fd13, o13, ok_P_levels G13 TP, b13⟩
    · exact ⟨q14, h14, fd14, o14, ok_P_names G14 TP, b14⟩⟩
  have gRoll : Cg l.prog w K mg base 1 "_law_roll" spRoll := ok_roll D23 z_int
  have gPick : Cg l.prog w K mg base 2 "_law_pick" (spPick K) := ok_pick D24 gRoll z_len
  have gInt := ok_is_integer (P := l.prog) (w := w) (base := base) D1 z_isinstance z_int z_bool z_abs k1
  have gCount := ok_is_count D2 gInt
  have gName := ok_is_name (P := l.prog) (w := w) (base := base) D3 z_isinstance z_str z_len k0
  have gNames := ok_is_names D4 gName z_isinstance z_tuple z_all z_list z_sorted z_set
  have gStep := ok_is_step D5 gCount k3
  have gChild := ok_is_child D6 gName gStep z_isinstance z_tuple z_len
  have gChildren := ok_is_children D7 gChild z_isinstance z_tuple z_len z_all k2
  have gSorts := ok_sorts_of D9 TF PF z_list z_tuple z_sorted z_set
  have gIsS := ok_is_scheme D8 TF TI PF gC gNames gSorts z_isinstance z_tuple z_all z_len z_set k4 k5
  have HFI := ok_init FFI TF gName gChildren
  have HU := ok_iU (P := l.prog) (w := w) (mg := mg) (base := base) (C := CU) (fI := fUI) FUI
  have HSI := ok_S_init FSI TF TS PF EI' gIsS gSorts z_tuple z_sorted
  let VF : EnvF l.prog w K mg base C := { T := TF, TI := TI, TP := PF, g := gC, fI := fFI, fdI := fdFI, M := ⟨jmC, eFI, tFI, jkC⟩, FI := HFI, bI := bFI }
  let VS : EnvS l.prog w K mg base C CS CI := { T := TS, g := gCS, fI := fSI, fdI := fdSI, M := ⟨jmCS, eSI, tSI, jkCS⟩, FI := HSI, bI := bSI }
  let VQ : EnvQ l.prog w K mg base CP := { T := TP, TP := PP, g := gCP, fI := fPI, fdI := fdPI, M := ⟨jmCP, ePI, tPI, jkCP⟩, bI := bPI }
  have HSX := ok_S_getitem (C := C) FSX TS EU nU HU bUI gCU
  have HFE := ok_eq FFE TF TI PF gC z_isinstance
  have WQ : FormQ l.prog w K mg base C := ⟨fFE, fdFE, HFE, eFE, tFE, bFE⟩
  have HSC := ok_S_contains FSC TS TF TI noF.two WQ gC z_isinstance
  have HFL := ok_len (P := l.prog) (w := w) (base := base) FFL TF z_len
  have W : EnvW l.prog w K mg base C CS CU := { T := TS, TF := TF, TP := PF, item := ⟨fSX, fdSX, HSX, eSX, nSX, tSX, bSX⟩, inn := ⟨fSC, fdSC, HSC, eSC, tSC, bSC⟩, lenF := ⟨fFL, fdFL, HFL, eFL, tFL, bFL⟩ }
  have gDepth := ok_depth (P := l.prog) (w := w) (base := base) D12 z_max
  have gBlanks := ok_split_blanks (P := l.prog) (w := w) (base := base) D11 z_enumerate
  have gSplit := ok_split_text D10 gBlanks
  have gTop := ok_top_of D13 gSplit gName k7 k2 z_len
  have FP : FnG l.prog w K mg base 14 VQ.fI VQ.fdI ["self", "text"] (spInitP CP 5) := ok_P_init VQ FPI gDepth gTop k6 z_isinstance z_str z_tuple z_sum z_max 5
  have gFormed := ok_is_formed D14 W VQ z_len
  have s1 := ok_sound_of (n := 0) D16 W VQ TIS TIP gCS EI' gFormed (ok_part_zero (k := 9) D15) (by decide) z_isinstance z_all z_zip
  have r1 := ok_part_of D15 W VQ s1 (by decide)
  have s2 := ok_sound_of D16 W VQ TIS TIP gCS EI' gFormed r1 (by decide) z_isinstance z_all z_zip
  have r2 := ok_part_of D15 W VQ s2 (by decide)
  have s3 := ok_sound_of D16 W VQ TIS TIP gCS EI' gFormed r2 (by decide) z_isinstance z_all z_zip
  have r3 := ok_part_of D15 W VQ s3 (by decide)
  have s4 := ok_sound_of D16 W VQ TIS TIP gCS EI' gFormed r3 (by decide) z_isinstance z_all z_zip
  have r4 := ok_part_of D15 W VQ s4 (by decide)
  have s5 := ok_sound_of D16 W VQ TIS TIP gCS EI' gFormed r4 (by decide) z_isinstance z_all z_zip
  have gBelow := ok_below D18 W VQ z_zip 5
  have gSpots := ok_spots_of D20 EIP s5 gBelow (by decide) z_tuple
  have gHeld := ok_held D19 W VQ gFormed z_zip z_min z_max 5
  have gSpot := ok_is_spot (P := l.prog) (w := w) (base := base) D17 gName gInt z_isinstance z_tuple z_len
  have gOver := ok_spot_over D21 TS VQ TIS TIP gCS EI' EIP EO gSpot gHeld (by decide) z_isinstance z_tuple z_all z_len
  have EP : EnvP l.prog w K mg base C CS CP CI CIP CO := { VQ := VQ, FP := FP, G_sound := s5, G_spots := gSpots, G_over := gOver }
  have gMixed := ok_l_mixed D25 gRoll z_len z_list
  have gLNames := ok_l_names D26 gMixed
  have gScheme := ok_l_scheme D27 gRoll gPick gLNames z_sorted z_range z_tuple
  have gMade := ok_l_made_scheme D28 VF VS z_tuple
  have gDice : Cg l.prog w K mg base 1 "_law_dice" (spDice K) := ok_dice D22 z_int z_len z_abs z_max
  have gWritten : Cg l.prog w K mg base 6 "_law_written" (spWritten 5) := ok_written D33 5
  have gFits : Cg l.prog w K mg base 6 "_law_fits" (spFits 5) := ok_fits D42 z_len 5
  have gIsSound : Cg l.prog w K mg base 6 "_law_is_sound" (spIsSound 5) := ok_l_is_sound D36 z_len z_zip 5
  have gSteps : Cg l.prog w K mg base 6 "_law_steps_to" (spSteps 5) := ok_steps_to D39 z_zip 5
  have gLSpot : Cg l.prog w K mg base 11 "_law_spot" (spSpotL 10) := ok_l_spot D29 z_len z_zip z_set z_sorted 10
  have gDrawn : Cg l.prog w K mg base 7 "_law_drawn_picture" (spDrawn 4) := ok_drawn D37 gRoll gPick z_range 4
  have gFitP : Cg l.prog w K mg base 8 "_law_fit_picture" (spFitP 5) := ok_fitp D38 gRoll gPick z_sorted 5
  have gFilled : Cg l.prog w K mg base 6 "_law_filled" (spFilled 5) := ok_filled D34 z_tuple 5
  have gSplits : Cg l.prog w K mg base 6 "_law_splits" (spSplits 5) := ok_splits D31 z_range 5
  have gFills : Cg l.prog w K mg base 1 "_law_fillings" spFills := ok_fillings D30 z_zip z_list
  have gTrees := ok_sound_trees D32 gSplits gFills z_range z_sorted z_len
  have gLSorts : Cg l.prog w K mg base 1 "_law_sorts" spLSo := ok_l_sorts D35 z_sorted z_set z_list
  have gSR := ok_sound_right D40 EP gWritten gSteps gRoll gPick z_tuple z_len
  have gFR := ok_filled_right D41 EP gWritten gFits gLSpot gFilled gPick z_tuple z_range
  exact ok_law F EP VF VS gDice gPick gScheme gMade gTrees gFitP gLSorts gSR gDrawn gIsSound gWritten gFR z_range z_max z_min z_len z_sorted z_repr z_tuple
end K11
set_option Elab.async false
set_option linter.all false
open PySem PySem.W PyProof.Rows
/- Two names are taken here that nothing uses, so that no second copies of two great heaps are laid
   under them at the head of the last theorem: with them the compiled file is over 256 MiB. -/
def PySem.W.Fast.tw6348636432563435489 : Nat := 0
def PySem.W.Fast.tw12685624214892271274 : Nat := 0
set_option maxRecDepth 100000 in
set_option maxHeartbeats 0 in
theorem PySem.Challenge.cw_mendbooks_k11_whole_spots_by_trees_holds : PySem.Challenge.rw_mendbooks_k11_whole_spots_by_trees.Holds := by
  w_on; o_law; k_head; (case hw => w_witness2)
  k_fill
  refine Vb.walk_calm (l := PySem.Challenge.rw_mendbooks_k11_whole_spots_by_trees) (n := 63) (k := 21) (x := "_law_script") (sp := K11.spLaw) rfl (by decide) rfl ⟨rfl, by decide, by decide⟩ (fun w h Y => PySem.W.kIn_of Y) ?F (fun K H a ns hl _ hS => ⟨a, ns, rfl, hS, hl, fun _ => rfl⟩)
  case F =>
    intro w mg fa h KX G hmg
    refine' K11.fin (fUI := 141) (Vb.law_def KX G hmg ?lb ?la ?ll ?lc ?lk) (Vb.Df.mk KX G ?a1 ?l1 ?c1 ?k1 ?b1) (Vb.Df.mk KX G ?a2 ?l2 ?c2 ?k2 ?b2) (Vb.Df.mk KX G ?a3 ?l3 ?c3 ?k3 ?b3) (Vb.Df.mk KX G ?a4 ?l4 ?c4 ?k4 ?b4) (Vb.Df.mk KX G ?a5 ?l5 ?c5 ?k5 ?b5) (Vb.Df.mk KX G ?a6 ?l6 ?c6 ?k6 ?b6) (Vb.Df.mk KX G ?a7 ?l7 ?c7 ?k7 ?b7) (Vb.Df.mk KX G ?a8 ?l8 ?c8 ?k8 ?b8) (Vb.Df.mk KX G ?a9 ?l9 ?c9 ?k9 ?b9) (Vb.Df.mk KX G ?a10 ?l10 ?c10 ?k10 ?b10) (Vb.Df.mk KX G ?a11 ?l11 ?c11 ?k11 ?b11) (Vb.Df.mk KX G ?a12 ?l12 ?c12 ?k12 ?b12) (Vb.Df.mk KX G ?a13 ?l13 ?c13 ?k13 ?b13) (Vb.Df.mk KX G ?a14 ?l14 ?c14 ?k14 ?b14) (Vb.Df.mk KX G ?a15 ?l15 ?c15 ?k15 ?b15) (Vb.Df.mk KX G ?a16 ?l16 ?c16 ?k16 ?b16) (Vb.Df.mk KX G ?a17 ?l17 ?c17 ?k17 ?b17) (Vb.Df.mk KX G ?a18 ?l18 ?c18 ?k18 ?b18) (Vb.Df.mk KX G ?a19 ?l19 ?c19 ?k19 ?b19) (Vb.Df.mk KX G ?a20 ?l20 ?c20 ?k20 ?b20) (Vb.Df.mk KX G ?a21 ?l21 ?c21 ?k21 ?b21) (Vb.Df.mk KX G ?a22 ?l22 ?c22 ?k22 ?b22) (Vb.Df.mk KX G ?a23 ?l23 ?c23 ?k23 ?b23) (Vb.Df.mk KX G ?a24 ?l24 ?c24 ?k24 ?b24) (Vb.Df.mk KX G ?a25 ?l25 ?c25 ?k25 ?b25) (Vb.Df.mk KX G ?a26 ?l26 ?c26 ?k26 ?b26) (Vb.Df.mk KX G ?a27 ?l27 ?c27 ?k27 ?b27) (Vb.Df.mk KX G ?a28 ?l28 ?c28 ?k28 ?b28) (Vb.Df.mk KX G ?a29 ?l29 ?c29 ?k29 ?b29) (Vb.Df.mk KX G ?a30 ?l30 ?c30 ?k30 ?b30) (Vb.Df.mk KX G ?a31 ?l31 ?c31 ?k31 ?b31) (Vb.Df.mk KX G ?a32 ?l32 ?c32 ?k32 ?b32) (Vb.Df.mk KX G ?a33 ?l33 ?c33 ?k33 ?b33) (Vb.Df.mk KX G ?a34 ?l34 ?c34 ?k34 ?b34) (Vb.Df.mk KX G ?a35 ?l35 ?c35 ?k35 ?b35) (Vb.Df.mk KX G ?a36 ?l36 ?c36 ?k36 ?b36) (Vb.Df.mk KX G ?a37 ?l37 ?c37 ?k37 ?b37) (Vb.Df.mk KX G ?a38 ?l38 ?c38 ?k38 ?b38) (Vb.Df.mk KX G ?a39 ?l39 ?c39 ?k39 ?b39) (Vb.Df.mk KX G ?a40 ?l40 ?c40 ?k40 ?b40) (Vb.Df.mk KX G ?a41 ?l41 ?c41 ?k41 ?b41) (Vb.Df.mk KX G ?a42 ?l42 ?c42 ?k42 ?b42) (PySem.W.mg_of KX G ?gg1) (PySem.W.mg_of KX G ?gg2) (PySem.W.mg_of KX G ?gg3) (PySem.W.mg_of KX G ?gg4) (PySem.W.mg_of KX G ?gg5) (PySem.W.mg_of KX G ?gg6) (PySem.W.mg_of KX G ?gg7) (PySem.W.mg_of KX G ?n0) (PySem.W.mg_of KX G ?n1) (PySem.W.mg_of KX G ?n2) (PySem.W.mg_of KX G ?n3) (PySem.W.mg_of KX G ?n4) (PySem.W.mg_of KX G ?n5) (PySem.W.mg_of KX G ?n6) (PySem.W.mg_of KX G ?n7) ?jmC ?jkC ?jmCS ?jkCS ?jmCP ?jkCP ?eFI ?tFI ?eFL ?tFL ?eFE ?tFE ?eSI ?tSI ?eSX ?tSX ?eSC ?tSC ?ePI ?tPI ?nSX ?nU (K11.Mt.mk ?mlFI ?mcFI ?mkFI ?mbFI) (K11.Mt.mk ?mlFL ?mcFL ?mkFL ?mbFL) (K11.Mt.mk ?mlFE ?mcFE ?mkFE ?mbFE) (K11.Mt.mk ?mlSI ?mcSI ?mkSI ?mbSI) (K11.Mt.mk ?mlSX ?mcSX ?mkSX ?mbSX) (K11.Mt.mk ?mlSC ?mcSC ?mkSC ?mbSC) (K11.Mt.mk ?mlPI ?mcPI ?mkPI ?mbPI) (K11.Mt.mk ?mlUI ?mcUI ?mkUI ?mbUI) ⟨_, _, ⟨?pa1, ?pb1, ?pc1, K11.of_askR (g := 218) ?pd1⟩, K11.Mt.mk ?pl1 ?pe1 ?pk1 ?pf1⟩ ⟨_, _, ⟨?pa2, ?pb2, ?pc2, K11.of_askR (g := 226) ?pd2⟩, K11.Mt.mk ?pl2 ?pe2 ?pk2 ?pf2⟩ ⟨_, _, ⟨?pa3, ?pb3, ?pc3, K11.of_askR (g := 234) ?pd3⟩, K11.Mt.mk ?pl3 ?pe3 ?pk3 ?pf3⟩ ⟨_, _, ⟨?pa4, ?pb4, ?pc4, K11.of_askR (g := 304) ?pd4⟩, K11.Mt.mk ?pl4 ?pe4 ?pk4 ?pf4⟩ ⟨_, _, ⟨?pa5, ?pb5, ?pc5, K11.of_askR (g := 312) ?pd5⟩, K11.Mt.mk ?pl5 ?pe5 ?pk5 ?pf5⟩ ⟨_, _, ⟨?pa6, ?pb6, ?pc6, K11.of_askR (g := 320) ?pd6⟩, K11.Mt.mk ?pl6 ?pe6 ?pk6 ?pf6⟩ ⟨_, _, ⟨?pa7, ?pb7, ?pc7, K11.of_askR (g := 328) ?pd7⟩, K11.Mt.mk ?pl7 ?pe7 ?pk7 ?pf7⟩ ⟨_, _, ⟨?pa8, ?pb8, ?pc8, K11.of_askR (g := 336) ?pd8⟩, K11.Mt.mk ?pl8 ?pe8 ?pk8 ?pf8⟩ ⟨_, _, ⟨?pa9, ?pb9, ?pc9, K11.of_askR (g := 476) ?pd9⟩, K11.Mt.mk ?pl9 ?pe9 ?pk9 ?pf9⟩ ⟨_, _, ⟨?pa10, ?pb10, ?pc10, K11.of_askR (g := 484) ?pd10⟩, K11.Mt.mk ?pl10 ?pe10 ?pk10 ?pf10⟩ ⟨_, _, ⟨?pa11, ?pb11, ?pc11, K11.of_askR (g := 492) ?pd11⟩, K11.Mt.mk ?pl11 ?pe11 ?pk11 ?pf11⟩ ⟨_, _, ⟨?pa12, ?pb12, ?pc12, K11.of_askR (g := 500) ?pd12⟩, K11.Mt.mk ?pl12 ?pe12 ?pk12 ?pf12⟩ ⟨_, _, ⟨?pa13, ?pb13, ?pc13, K11.of_askR (g := 508) ?pd13⟩, K11.Mt.mk ?pl13 ?pe13 ?pk13 ?pf13⟩ ⟨_, _, ⟨?pa14, ?pb14, ?pc14, K11.of_askR (g := 516) ?pd14⟩, K11.Mt.mk ?pl14 ?pe14 ?pk14 ?pf14⟩ ?aF ?aS ?aP ?aI ?aIP ?aO ?aU (PySem.W.mg_none_of KX G ?z1) (PySem.W.mg_none_of KX G ?z2) (PySem.W.mg_none_of KX G ?z3) (PySem.W.mg_none_of KX G ?z4) (PySem.W.mg_none_of KX G ?z5) (PySem.W.mg_none_of KX G ?z6) (PySem.W.mg_none_of KX G ?z7) (PySem.W.mg_none_of KX G ?z8) (PySem.W.mg_none_of KX G ?z9) (PySem.W.mg_none_of KX G ?z10) (PySem.W.mg_none_of KX G ?z11) (PySem.W.mg_none_of KX G ?z12) (PySem.W.mg_none_of KX G ?z13) (PySem.W.mg_none_of KX G ?z14) (PySem.W.mg_none_of KX G ?z15) (PySem.W.mg_none_of KX G ?z16) (PySem.W.mg_none_of KX G ?z17) (PySem.W.mg_none_of KX G ?z18)
    (case lb => exact fun _ _ _ _ _ _ _ _ => .of_eq rfl); (case la => k_is); (case ll => k_is); (case lc => k_is); (case lk => k_is)
    (case a1 => k_is); (case l1 => k_is); (case c1 => k_is); (case k1 => k_is); (case b1 => exact fun _ _ _ _ _ _ us hl => match us, hl with | [_], _ => rfl)
    (case a2 => k_is); (case l2 => k_is); (case c2 => k_is); (case k2 => k_is); (case b2 => exact fun _ _ _ _ _ _ us hl => match us, hl with | [_], _ => rfl)
    (case a3 => k_is); (case l3 => k_is); (case c3 => k_is); (case k3 => k_is); (case b3 => exact fun _ _ _ _ _ _ us hl => match us, hl with | [_], _ => rfl)
    (case a4 => k_is); (case l4 => k_is); (case c4 => k_is); (case k4 => k_is); (case b4 => exact fun _ _ _ _ _ _ us hl => match us, hl with | [_], _ => rfl)
    (case a5 => k_is); (case l5 => k_is); (case c5 => k_is); (case k5 => k_is); (case b5 => exact fun _ _ _ _ _ _ us hl => match us, hl with | [_], _ => rfl)
    (case a6 => k_is); (case l6 => k_is); (case c6 => k_is); (case k6 => k_is); (case b6 => exact fun _ _ _ _ _ _ us hl => match us, hl with | [_], _ => rfl)
    (case a7 => k_is); (case l7 => k_is); (case c7 => k_is); (case k7 => k_is); (case b7 => exact fun _ _ _ _ _ _ us hl => match us, hl with | [_], _ => rfl)
    (case a8 => k_is); (case l8 => k_is); (case c8 => k_is); (case k8 => k_is); (case b8 => exact fun _ _ _ _ _ _ us hl => match us, hl with | [_, _, _], _ => rfl)
    (case a9 => k_is); (case l9 => k_is); (case c9 => k_is); (case k9 => k_is); (case b9 => exact fun _ _ _ _ _ _ us hl => match us, hl with | [_, _], _ => rfl)
    (case a10 => k_is); (case l10 => k_is); (case c10 => k_is); (case k10 => k_is); (case b10 => exact fun _ _ _ _ _ _ us hl => match us, hl with | [_], _ => rfl)
    (case a11 => k_is); (case l11 => k_is); (case c11 => k_is); (case k11 => k_is); (case b11 => exact fun _ _ _ _ _ _ us hl => match us, hl with | [_], _ => rfl)
    (case a12 => k_is); (case l12 => k_is); (case c12 => k_is); (case k12 => k_is); (case b12 => exact fun _ _ _ _ _ _ us hl => match us, hl with | [_], _ => rfl)
    (case a13 => k_is); (case l13 => k_is); (case c13 => k_is); (case k13 => k_is); (case b13 => exact fun _ _ _ _ _ _ us hl => match us, hl with | [_], _ => rfl)
    (case a14 => k_is); (case l14 => k_is); (case c14 => k_is); (case k14 => k_is); (case b14 => exact fun _ _ _ _ _ _ us hl => match us, hl with | [_, _], _ => rfl)
    (case a15 => k_is); (case l15 => k_is); (case c15 => k_is); (case k15 => k_is); (case b15 => exact fun _ _ _ _ _ _ us hl => match us, hl with | [_, _, _], _ => rfl)
    (case a16 => k_is); (case l16 => k_is); (case c16 => k_is); (case k16 => k_is); (case b16 => exact fun _ _ _ _ _ _ us hl => match us, hl with | [_, _], _ => rfl)
    (case a17 => k_is); (case l17 => k_is); (case c17 => k_is); (case k17 => k_is); (case b17 => exact fun _ _ _ _ _ _ us hl => match us, hl with | [_], _ => rfl)
    (case a18 => k_is); (case l18 => k_is); (case c18 => k_is); (case k18 => k_is); (case b18 => exact fun _ _ _ _ _ _ us hl => match us, hl with | [_, _, _], _ => rfl)
    (case a19 => k_is); (case l19 => k_is); (case c19 => k_is); (case k19 => k_is); (case b19 => exact fun _ _ _ _ _ _ us hl => match us, hl with | [_, _, _], _ => rfl)
    (case a20 => k_is); (case l20 => k_is); (case c20 => k_is); (case k20 => k_is); (case b20 => exact fun _ _ _ _ _ _ us hl => match us, hl with | [_, _], _ => rfl)
    (case a21 => k_is); (case l21 => k_is); (case c21 => k_is); (case k21 => k_is); (case b21 => exact fun _ _ _ _ _ _ us hl => match us, hl with | [_, _, _], _ => rfl)
    (case a22 => k_is); (case l22 => k_is); (case c22 => k_is); (case k22 => k_is); (case b22 => exact fun _ _ _ _ _ _ us hl => match us, hl with | [_, _], _ => rfl)
    (case a23 => k_is); (case l23 => k_is); (case c23 => k_is); (case k23 => k_is); (case b23 => exact fun _ _ _ _ _ _ us hl => match us, hl with | [_, _], _ => rfl)
    (case a24 => k_is); (case l24 => k_is); (case c24 => k_is); (case k24 => k_is); (case b24 => exact fun _ _ _ _ _ _ us hl => match us, hl with | [_, _], _ => rfl)
    (case a25 => k_is); (case l25 => k_is); (case c25 => k_is); (case k25 => k_is); (case b25 => exact fun _ _ _ _ _ _ us hl => match us, hl with | [_, _], _ => rfl)
    (case a26 => k_is); (case l26 => k_is); (case c26 => k_is); (case k26 => k_is); (case b26 => exact fun _ _ _ _ _ _ us hl => match us, hl with | [_, _], _ => rfl)
    (case a27 => k_is); (case l27 => k_is); (case c27 => k_is); (case k27 => k_is); (case b27 => exact fun _ _ _ _ _ _ us hl => match us, hl with | [_, _, _], _ => rfl)
    (case a28 => k_is); (case l28 => k_is); (case c28 => k_is); (case k28 => k_is); (case b28 => exact fun _ _ _ _ _ _ us hl => match us, hl with | [_], _ => rfl)
    (case a29 => k_is); (case l29 => k_is); (case c29 => k_is); (case k29 => k_is); (case b29 => exact fun _ _ _ _ _ _ us hl => match us, hl with | [_, _], _ => rfl)
    (case a30 => k_is); (case l30 => k_is); (case c30 => k_is); (case k30 => k_is); (case b30 => exact fun _ _ _ _ _ _ us hl => match us, hl with | [_, _], _ => rfl)
    (case a31 => k_is); (case l31 => k_is); (case c31 => k_is); (case k31 => k_is); (case b31 => exact fun _ _ _ _ _ _ us hl => match us, hl with | [_, _], _ => rfl)
    (case a32 => k_is); (case l32 => k_is); (case c32 => k_is); (case k32 => k_is); (case b32 => exact fun _ _ _ _ _ _ us hl => match us, hl with | [_, _, _], _ => rfl)
    (case a33 => k_is); (case l33 => k_is); (case c33 => k_is); (case k33 => k_is); (case b33 => exact fun _ _ _ _ _ _ us hl => match us, hl with | [_], _ => rfl)
    (case a34 => k_is); (case l34 => k_is); (case c34 => k_is); (case k34 => k_is); (case b34 => exact fun _ _ _ _ _ _ us hl => match us, hl with | [_, _], _ => rfl)
    (case a35 => k_is); (case l35 => k_is); (case c35 => k_is); (case k35 => k_is); (case b35 => exact fun _ _ _ _ _ _ us hl => match us, hl with | [_], _ => rfl)
    (case a36 => k_is); (case l36 => k_is); (case c36 => k_is); (case k36 => k_is); (case b36 => exact fun _ _ _ _ _ _ us hl => match us, hl with | [_, _], _ => rfl)
    (case a37 => k_is); (case l37 => k_is); (case c37 => k_is); (case k37 => k_is); (case b37 => exact fun _ _ _ _ _ _ us hl => match us, hl with | [_, _, _], _ => rfl)
    (case a38 => k_is); (case l38 => k_is); (case c38 => k_is); (case k38 => k_is); (case b38 => exact fun _ _ _ _ _ _ us hl => match us, hl with | [_, _, _, _], _ => rfl)
    (case a39 => k_is); (case l39 => k_is); (case c39 => k_is); (case k39 => k_is); (case b39 => exact fun _ _ _ _ _ _ us hl => match us, hl with | [_, _, _], _ => rfl)
    (case a40 => k_is); (case l40 => k_is); (case c40 => k_is); (case k40 => k_is); (case b40 => exact fun _ _ _ _ _ _ us hl => match us, hl with | [_, _, _, _], _ => rfl)
    (case a41 => k_is); (case l41 => k_is); (case c41 => k_is); (case k41 => k_is); (case b41 => exact fun _ _ _ _ _ _ us hl => match us, hl with | [_, _, _, _, _], _ => rfl)
    (case a42 => k_is); (case l42 => k_is); (case c42 => k_is); (case k42 => k_is); (case b42 => exact fun _ _ _ _ _ _ us hl => match us, hl with | [_, _], _ => rfl)
    (case gg1 => k_is); (case gg2 => k_is); (case gg3 => k_is); (case gg4 => k_is); (case gg5 => k_is); (case gg6 => k_is); (case gg7 => k_is)
    (case n0 => k_is); (case n1 => k_is); (case n2 => k_is); (case n3 => k_is); (case n4 => k_is); (case n5 => k_is); (case n6 => k_is); (case n7 => k_is)
    (case jmC => k_is); (case jkC => k_is); (case jmCS => k_is); (case jkCS => k_is); (case jmCP => k_is); (case jkCP => k_is); (case eFI => k_is); (case tFI => k_is); (case eFL => k_is); (case tFL => k_is); (case eFE => k_is); (case tFE => k_is); (case eSI => k_is); (case tSI => k_is); (case eSX => k_is); (case tSX => k_is); (case eSC => k_is); (case tSC => k_is); (case ePI => k_is); (case tPI => k_is); (case nSX => k_is); (case nU => k_is)
    (case mlFI => k_is); (case mcFI => k_is); (case mkFI => k_is); (case mbFI => exact fun _ _ _ _ _ _ us hl => match us, hl with | [_, _, _, _], _ => rfl)
    (case mlFL => k_is); (case mcFL => k_is); (case mkFL => k_is); (case mbFL => exact fun _ _ _ _ _ _ us hl => match us, hl with | [_], _ => rfl)
    (case mlFE => k_is); (case mcFE => k_is); (case mkFE => k_is); (case mbFE => exact fun _ _ _ _ _ _ us hl => match us, hl with | [_, _], _ => rfl)
    (case mlSI => k_is); (case mcSI => k_is); (case mkSI => k_is); (case mbSI => exact fun _ _ _ _ _ _ us hl => match us, hl with | [_, _, _, _], _ => rfl)
    (case mlSX => k_is); (case mcSX => k_is); (case mkSX => k_is); (case mbSX => exact fun _ _ _ _ _ _ us hl => match us, hl with | [_, _], _ => rfl)
    (case mlSC => k_is); (case mcSC => k_is); (case mkSC => k_is); (case mbSC => exact fun _ _ _ _ _ _ us hl => match us, hl with | [_, _], _ => rfl)
    (case mlPI => k_is); (case mcPI => k_is); (case mkPI => k_is); (case mbPI => exact fun _ _ _ _ _ _ us hl => match us, hl with | [_, _], _ => rfl)
    (case mlUI => k_is); (case mcUI => k_is); (case mkUI => k_is); (case mbUI => exact fun _ _ _ _ _ _ us hl => match us, hl with | [_, _], _ => rfl)
    (case pa1 => k_is); (case pb1 => k_is); (case pc1 => k_is); (case pd1 => kernel_rfl); (case pl1 => k_is); (case pe1 => k_is); (case pk1 => k_is); (case pf1 => exact fun _ _ _ _ _ _ us hl => match us, hl with | [_], _ => rfl)
    (case pa2 => k_is); (case pb2 => k_is); (case pc2 => k_is); (case pd2 => kernel_rfl); (case pl2 => k_is); (case pe2 => k_is); (case pk2 => k_is); (case pf2 => exact fun _ _ _ _ _ _ us hl => match us, hl with | [_], _ => rfl)
    (case pa3 => k_is); (case pb3 => k_is); (case pc3 => k_is); (case pd3 => kernel_rfl); (case pl3 => k_is); (case pe3 => k_is); (case pk3 => k_is); (case pf3 => exact fun _ _ _ _ _ _ us hl => match us, hl with | [_], _ => rfl)
    (case pa4 => k_is); (case pb4 => k_is); (case pc4 => k_is); (case pd4 => kernel_rfl); (case pl4 => k_is); (case pe4 => k_is); (case pk4 => k_is); (case pf4 => exact fun _ _ _ _ _ _ us hl => match us, hl with | [_], _ => rfl)
    (case pa5 => k_is); (case pb5 => k_is); (case pc5 => k_is); (case pd5 => kernel_rfl); (case pl5 => k_is); (case pe5 => k_is); (case pk5 => k_is); (case pf5 => exact fun _ _ _ _ _ _ us hl => match us, hl with | [_], _ => rfl)
    (case pa6 => k_is); (case pb6 => k_is); (case pc6 => k_is); (case pd6 => kernel_rfl); (case pl6 => k_is); (case pe6 => k_is); (case pk6 => k_is); (case pf6 => exact fun _ _ _ _ _ _ us hl => match us, hl with | [_], _ => rfl)
    (case pa7 => k_is); (case pb7 => k_is); (case pc7 => k_is); (case pd7 => kernel_rfl); (case pl7 => k_is); (case pe7 => k_is); (case pk7 => k_is); (case pf7 => exact fun _ _ _ _ _ _ us hl => match us, hl with | [_], _ => rfl)
    (case pa8 => k_is); (case pb8 => k_is); (case pc8 => k_is); (case pd8 => kernel_rfl); (case pl8 => k_is); (case pe8 => k_is); (case pk8 => k_is); (case pf8 => exact fun _ _ _ _ _ _ us hl => match us, hl with | [_], _ => rfl)
    (case pa9 => k_is); (case pb9 => k_is); (case pc9 => k_is); (case pd9 => kernel_rfl); (case pl9 => k_is); (case pe9 => k_is); (case pk9 => k_is); (case pf9 => exact fun _ _ _ _ _ _ us hl => match us, hl with | [_], _ => rfl)
    (case pa10 => k_is); (case pb10 => k_is); (case pc10 => k_is); (case pd10 => kernel_rfl); (case pl10 => k_is); (case pe10 => k_is); (case pk10 => k_is); (case pf10 => exact fun _ _ _ _ _ _ us hl => match us, hl with | [_], _ => rfl)
    (case pa11 => k_is); (case pb11 => k_is); (case pc11 => k_is); (case pd11 => kernel_rfl); (case pl11 => k_is); (case pe11 => k_is); (case pk11 => k_is); (case pf11 => exact fun _ _ _ _ _ _ us hl => match us, hl with | [_], _ => rfl)
    (case pa12 => k_is); (case pb12 => k_is); (case pc12 => k_is); (case pd12 => kernel_rfl); (case pl12 => k_is); (case pe12 => k_is); (case pk12 => k_is); (case pf12 => exact fun _ _ _ _ _ _ us hl => match us, hl with | [_], _ => rfl)
    (case pa13 => k_is); (case pb13 => k_is); (case pc13 => k_is); (case pd13 => kernel_rfl); (case pl13 => k_is); (case pe13 => k_is); (case pk13 => k_is); (case pf13 => exact fun _ _ _ _ _ _ us hl => match us, hl with | [_], _ => rfl)
    (case pa14 => k_is); (case pb14 => k_is); (case pc14 => k_is); (case pd14 => kernel_rfl); (case pl14 => k_is); (case pe14 => k_is); (case pk14 => k_is); (case pf14 => exact fun _ _ _ _ _ _ us hl => match us, hl with | [_], _ => rfl)
    (case aF => kernel_rfl); (case aS => kernel_rfl); (case aP => kernel_rfl); (case aI => kernel_rfl); (case aIP => kernel_rfl); (case aO => kernel_rfl); (case aU => kernel_rfl)
    (case z1 => k_is); (case z2 => k_is); (case z3 => k_is); (case z4 => k_is); (case z5 => k_is); (case z6 => k_is); (case z7 => k_is); (case z8 => k_is); (case z9 => k_is); (case z10 => k_is); (case z11 => k_is); (case z12 => k_is); (case z13 => k_is); (case z14 => k_is); (case z15 => k_is); (case z16 => k_is); (case z17 => k_is); (case z18 => k_is)
