import PyProof.Rows.All
import Wide.All
import OpenK.AllK
import Wide.FinOn
import HandS.Comp
import HandS.Ends
import HandS.Iter
import HandS.Words
import HandS.WordsList
import HandS.Walk
import HandS.IsInst
import HandS.Wide
import PyProof.ReprRoads
import PyProof.ReprLen
import KE.DataMinMax
import HandS.Deep
import HandS.Conv
import HandS.Walk
import HandS.DictComp
import HandS.Iter
import HandS.WordsDict
import HandS.More
import HandS.Style
import HandS.Gcd
import HandS.Text
import HandS.StrMore
import HandS.FStr
import HandS.IterVal
import PyProof.StrBlock2
import HandS.SetFor
import HandS.TupSets
import HandS.Strs
import KE.GoesEnum
import HandS.RaiseMore
import KE.KEqSeq
import HandS.WideBits
import HandS.Property
import HandS.MakeKwOnly
import HandS.Words
import HandS.NamedTupSort
import HandS.OwnEq
import HandS.TryOnly
import HandS.WordsExc
import HandS.Star
import KE.KStar
import HandS.SetKeys
import HandS.TupLen
import PyProof.DictMoreH
import HandS.ExcInit
import HandS.ExcIs
import HandS.ExcField
import HandS.ExcValue
import HandS.ClsMeth
import KE.KExcIs
import HandS.Hot
import HandS.HotCalls
import HandS.ExcInitHot
import HandS.ExcCtx
import KE.DataCmp
import HandS.Flow
import HandS.Sort
import PyProof.RangeIter
import PyProof.CallType
import KE.SortData
import PyProof.ListIndexNeg
import KE.GoesZip
import KE.GoesMore
import KE.KRevSl
import HandS.SetBool
import KE.KMathGC
import PySem.Challenge.RW_slitdiscs_k62_whole_shut_discs
set_option Elab.async false
set_option linter.all false
set_option maxRecDepth 100000
set_option maxHeartbeats 4000000
/-! Own layer over HandS: defs that run where no repr is under way (FnG), repr of data, powers of great ints, calls by keywords alone. -/
namespace Sd
open PySem PySem.Spec PyProof.Rows L2

/-! ### a def called where no repr is under way -/
structure FnG (P : Program) (w : World) (K : PySem.W.Frag) (mg : Str → Option Value) (base : Heap) (C : CXT) (k : Nat) (f : Addr) (fd : FuncData) (ps : List Str) (sp : Sp) : Prop where
  cnt : ∀ {vs H Q E}, sp vs H Q E → vs.length = ps.length
  go : ∀ (A : Around) (out : List Env) (s : Shared) (H : Hp) (ar : Args) (us : List Value) (vs : List V) (Q : VK) (E : XK), A.guards = some [] → Room k A →
    Env0 P w K mg base A out s H → BindsTo s fd ar (ps.zip us) → Vals vs us → sp vs H Q E →
    codeAny (model P w) A (.call (.ref f) ar) (CR C out P w H s Q E) s

section
variable {P : Program} {w : World} {K : PySem.W.Frag} {mg : Str → Option Value} {base : Heap} {C : CXT}
theorem gfn_of {k : Nat} {f : Addr} {nm ql : Str} {pms : Arguments} {bd : List Stmt} {sc : Scope} {v1 v2 v3 v4 cd v5 oc : Value} {an od : Option Addr}
    {osl : Array (Option Value)} {N ps : List Str} {sp : Sp}
    (lk : K.lookup f = some ⟨oc, od, .func (PySem.W.fnOf nm ql pms bd sc v1 v2 v3 v4 an cd v5), osl⟩)
    (hc : PySem.W.codeIn K cd ql = true) (S : FnScope N ps sc)
    (len : ∀ vs H Q E, sp vs H Q E → vs.length = ps.length)
    (hb : ∀ (A : Around) (out : List Env) (s : Shared) (H : Hp) (vs : List V) (Q : VK) (E : XK), A.guards = some [] →
      Room k (A.deeper (envOfC ql sc s.heap.objs.size f cd)) → sp vs H Q E →
      ∃ t, PSs (cxOf C P w K mg base N ql sc f cd A out s H E) bd t ∧ t { nx := fun _ H' => Q .non H', rt := Q } (start N vs) H) :
    FnG P w K mg base C (k + 1) f (PySem.W.fnOf nm ql pms bd sc v1 v2 v3 v4 an cd v5) ps sp := by
  refine ⟨fun h => len _ _ _ _ h, fun A out s H ar us vs Q E hg hr e0 hbd r hsp => ?_⟩
  have n1 := len _ _ _ _ hsp
  have kx : K.In s.heap := e0.mod.kin.keeps fun b o e => (e0.bs b o e).1
  have li : s.heap.NoLimit := e0.mod.nolimit.keeps fun b o e => (e0.bs b o e).1
  refine codeAny_call_function hr.depth (kx _ _ lk) rfl S.co S.gen rfl (PySem.W.codeRec_of kx hc) (hbd _ _ _ _ ?_)
  refine wpAny_newFunctionEnv_cells S.kind (fun ⟨n, v⟩ hy => ?_) fun env he s1 x => ?_
  · rcases S.par n (List.of_mem_zip hy).1 with q | q
    · exact .inl q
    · exact .inr ⟨q, PySem.W.cellsFrom_some _ _ _ (.inl q)⟩
  subst he
  refine ⟨li.keeps x.toInCall.keep, codeAny_func ?_⟩
  obtain ⟨t, ht, hq⟩ := hb A out s H vs Q E hg (hr.deeper _) hsp
  have I0 := inv_start (CX := C) (E := E) S hr.hd e0 n1 r x
  refine wpAny_mono (ht.run [] s1 (start N vs) H _ I0 hq) (fun fl s' hs => ?_) fun e s' hs => hs
  cases fl with
  | next =>
    obtain ⟨σ', H', J, q⟩ := hs
    exact ⟨.non, H', J.os, J.bare, J.base, J.hok, rfl, q⟩
  | ret u =>
    obtain ⟨v, σ', H', J, rv, q⟩ := hs
    exact ⟨v, H', J.os, J.bare, J.base, J.hok, rv, q⟩
  | brk => exact hs.elim fun _ ⟨_, _, q⟩ => False.elim q
  | cont => exact hs.elim fun _ ⟨_, _, q⟩ => False.elim q

/-- as Fun.ok, where no repr is under way -/
theorem okG {x ql : Str} {st : Stmt} {f : Addr} {fd : FuncData} {N ps : List Str} {k : Nat} {sp : Sp} (F : Fun K x ql st f fd) (S : FnScope N ps (defScope st))
    (len : ∀ vs H Q E, sp vs H Q E → vs.length = ps.length)
    (hb : ∀ (cd : Value) (A : Around) (out : List Env) (s : Shared) (H : Hp) (vs : List V) (Q : VK) (E : XK), A.guards = some [] →
      Room k (A.deeper (envOfC ql (defScope st) s.heap.objs.size f cd)) → sp vs H Q E →
      ∃ t, PSs (cxOf CX0 P w K mg base N ql (defScope st) f cd A out s H E).nox (defBody st) t ∧ t { nx := fun _ H' => Q .non H', rt := Q } (start N vs) H) :
    FnG P w K mg base CX0 (k + 1) f fd ps sp := by
  obtain ⟨oc, od, v2, v3, v4, an, cd, v5, osl, rfl, lk, hc⟩ := F.ex
  refine gfn_of lk hc S len fun A out s H vs Q E hg hr hsp => ?_
  obtain ⟨t, h, q⟩ := hb cd A out s H vs Q E hg hr hsp
  exact ⟨t, h.nox, q⟩
end

section
variable {X : Cx} {C : CXT} {k : Nat} {f : Addr} {fd : FuncData} {ps ks : List Str} {sp : Sp} {dvs : List V} {ds : List Value} {E : XK} {x : Str} {p pos : Pos} {e : Expr} {es : List Expr} {kws : List Keyword} {t tk : TA}
theorem endG {pins : List (Addr × Obj)} {σ : L2.St} {H : Hp} {s s' : Shared} {Q : VK} {r : Result} (hx : Passes C X E) (I : Inv X pins σ H s) (h : CR C X.stack X.prog X.w H s Q E r s') :
    (match r with | .ok (.ret u) => EP X pins σ Q u s' | .ok _ => False | .error e => X.xe e s') := by
  cases r with
  | error e => exact hx pins σ H s e s' I h
  | ok fl =>
    cases fl with
    | ret u => exact I.after h
    | next => exact h
    | brk => exact h
    | cont => exact h
theorem goG {pins : List (Addr × Obj)} {σ : L2.St} {H : Hp} {s : Shared} {Q : VK} {us : List Value} {vs : List V} (F : FnG X.prog X.w X.K X.mg X.base C k f fd ps sp) (hA : X.A.guards = some []) (hr : Room k X.A)
    (hb : Binds X.K fd ps ds) (hd : Vals dvs ds) (hx : Passes C X E) (I : Inv X pins σ H s) (r : Vals vs us) (h : sp (vs ++ dvs) H Q E) :
    wpAny (model X.prog X.w) X.A (call (.ref f) us) (EP X pins σ Q) X.xe s := by
  have r2 := r.append hd
  have n2 : (us ++ ds).length = ps.length := r2.length.symm.trans (F.cnt h)
  refine wpAny_call (codeAny_mono (F.go X.A X.stack s H ⟨us, []⟩ _ _ Q E hA hr I.env0 (hb s us I.kIn n2) r2 h) fun r s' hq => ?_)
  have z := endG hx I hq
  cases r with
  | error e => exact z
  | ok fl => cases fl <;> exact z
/-- f(e, ..) where no repr is under way -/
theorem pe_callG (F : FnG X.prog X.w X.K X.mg X.base C k f fd ps sp) (hA : X.A.guards = some []) (hr : Room k X.A) (hg : Gl X x) (hm : X.mg x = some (.ref f)) (hk : PySem.W.keepIn X.K (.ref f) = true)
    (hb : Binds X.K fd ps ds) (hd : Vals dvs ds) (hx : Passes C X E) (ha : PA X (e :: es) t) (hdb : (x == ("__debug__" : Str)) = false := by decide)
    (he : starEach (e :: es) X.env = (false, eval e X.env) :: starEach es X.env := by rfl) (hpl : (backTo pos (starEach es X.env)).any (·.1) = false := by rfl) :
    PE X (.Call (.Name x p) (e :: es) [] pos) (tCall sp dvs E t) := by
  refine ⟨fun pins s σ H Q I h => wpAny_Call_Name_kw (ld_glob I hg hm ?_ hdb)⟩
  refine PySem.W.callWith_K (h₀ := X.base) I.ok.mod.kin hk (thn (ha.run pos pins s σ H _ I h) fun us s1 z => ?_) he hpl
  obtain ⟨vs, H1, I1, r, q⟩ := z
  exact ⟨I1.kIn, goG F hA hr hb hd hx I1 r q⟩
/-- f(k = v, ..): keywords alone -/
def tCallW (sp : Sp) (gV : List V → List V) (E : XK) (tk : TA) : TE := fun σ H Q => tk σ H fun zs H2 => sp (gV zs) H2 Q E
variable {g : List Value → List Value → List Value} {gV : List V → List V → List V}
theorem pe_callW (F : FnOk X.prog X.w X.K X.mg X.base C k f fd ps sp) (hr : Room k X.A) (hg : Gl X x) (hm : X.mg x = some (.ref f)) (hk : PySem.W.keepIn X.K (.ref f) = true) (hb : KBinds X.K fd ps ks g gV) (hx : Passes C X E)
    (hkw : PK X kws tk) (hall : (backToKw pos (keywordEach kws X.env)).all (·.1.isSome) = true := by rfl) (hks : (backToKw pos (keywordEach kws X.env)).filterMap (·.1) = ks := by rfl)
    (hdb : (x == ("__debug__" : Str)) = false := by decide)
    (hpl : ((backTo pos (starEach [] X.env)).any (·.1) || (backToKw pos (keywordEach kws X.env)).any (·.1.isNone)) = false := by rfl) :
    PE X (.Call (.Name x p) [] kws pos) (tCallW sp (gV []) E tk) := by
  refine ⟨fun pins s σ H Q I h => wpAny_Call_Name_kw (ld_glob I hg hm ?_ hdb)⟩
  refine PySem.W.callWith_KW0 (h₀ := X.base) I.ok.mod.kin hk hall (thn (hkw.run pos pins s σ H _ I h) fun ws s2 z => ?_) hpl
  obtain ⟨zs, H2, I2, rz, q2⟩ := z
  refine ⟨I2.kIn, ?_⟩
  rw [hks]
  exact run_fnk F hr hb hx I2 .nil rz q2
end

/-! ### the law's call -/
theorem glaw {P : Program} {w : World} {K : PySem.W.Frag} {mg mb : Str → Option Value} {k : Nat} {fa a : Addr} {fd : FuncData} {x : Str} {sp : Sp} {s1 : Shared} {vs : List Value} {ns : List Int}
    (kx : K.In s1.heap) (hn : s1.heap.Ns mainGlobals mg) (hb : s1.heap.Ns builtinsNs mb) (hbb : ∀ x : Str, x ≠ "__name__" → mb x = bootBuiltins x) (hlim : s1.heap.NoLimit) (hgs : s1.gens = #[])
    (ha : s1.heap.get? a = some { cls := .type "list", data := .seq vs.toArray }) (hi : IntsAre vs ns) (hl : ns.length ≤ sizeLine) (hr : Room k callerA)
    (F : ∀ base : Heap, K.In base → base.Ns mainGlobals mg → FnG P w K mg base CX0 k fa fd [x] sp) (hbind : ∀ (s : Shared) (u : Value), BindsTo s fd ⟨[u], []⟩ [(x, u)])
    (hsp : ∀ H : Hp, SqL K H a (ns.map V.int) → sp [.ref a] H (fun v _ => v = .bl true) E0) :
    codeAny (model P w) callerA (.call (.ref fa) ⟨[.ref a], []⟩) (fun r s' => r = .ok (.ret (.bool true)) ∧ OldK s1.heap s'.heap ∧ s'.os = s1.os ∧ AllBare s'.gens) s1 := by
  have rv := vals_ints hi
  have nv := hi.length
  -- the abstract heap: the script, locked, unless the module itself holds it
  have main : ∀ H : Hp, (∀ b, H b = none ∨ (b = a ∧ H b = some (.frz { cls := .type "list", data := .seq vs.toArray } (.lst (ns.map V.int))))) → (H a ≠ none → K.lookup a = none) →
      SqL K H a (ns.map V.int) → HOk P w H s1.heap →
      codeAny (model P w) callerA (.call (.ref fa) ⟨[.ref a], []⟩) (fun r s' => r = .ok (.ret (.bool true)) ∧ OldK s1.heap s'.heap ∧ s'.os = s1.os ∧ AllBare s'.gens) s1 := by
    intro H hO hK hS hok
    have out : ∀ {b : Addr} {o : Obj}, s1.heap.get? b = some o → (b = a → H b = none) → (hidT s1.heap H).get? b = some o := fun {b o} e n => hidT_get e (by
      rcases hO b with z | ⟨z, _⟩
      · exact z
      · exact n z)
    have dct : ∀ {b : Addr} {m : Str → Option Value}, s1.heap.Ns b m → (hidT s1.heap H).Ns b m := fun {b m} ⟨o, es, ep, e, d, r⟩ => ⟨o, es, ep, out e (fun z => by
      subst z
      rw [ha] at e
      cases e
      cases (show Data.seq vs.toArray _ = Data.dict es ep from d)), d, r⟩
    have kb : K.In (hidT s1.heap H) := fun b o e => out (kx b o e) fun z => by
      subst z
      cases q : H b with
      | none => rfl
      | some u =>
        rw [hK (by rw [q]; exact fun z => nomatch z)] at e
        cases e
    have md : Mod K mg (hidT s1.heap H) := ⟨kb, dct hn, ⟨mb, dct hb, hbb⟩, let ⟨mc, h1, h2⟩ := hlim; ⟨mc, dct h1, h2⟩⟩
    have en : Env0 P w K mg (hidT s1.heap H) callerA [] s1 H := ⟨rfl, md, fun b o e => of_hidT e, Nat.le_of_eq (hidT_size _ _), trivial, fun b z => (List.not_mem_nil z).elim, hok, .of_eq hgs⟩
    refine codeAny_mono ((F _ kb (dct hn)).go callerA [] s1 H ⟨[.ref a], []⟩ [.ref a] [.ref a] _ _ rfl hr en (hbind s1 (.ref a)) (.cons rfl .nil) (hsp H hS)) fun r s' h => ?_
    cases r with
    | error e => exact False.elim h
    | ok fl =>
      cases fl with
      | next => exact False.elim h
      | brk => exact False.elim h
      | cont => exact False.elim h
      | ret u =>
        obtain ⟨v, H', os, br, un, ok', r', q⟩ := h
        cases (show v = .bl true from q)
        cases (show u = Value.bool true from r')
        refine ⟨rfl, OldK.of_keep fun b o e => ?_, os, br⟩
        rcases hO b with z | ⟨_, z⟩
        · exact un.keep b o e z (fun z => (List.not_mem_nil z).elim) (fun z => (List.not_mem_nil z).elim)
        · have e1 := (hok b _ z).1
          have e2 := (ok' b _ (un.frzs b _ _ z)).1
          rw [e] at e1
          cases e1
          exact e2
  cases hk : K.lookup a with
  | some o =>
    have e := kx a o hk
    rw [ha] at e
    cases e
    refine main (fun _ => none) (fun _ => .inl rfl) (fun z => absurd rfl z) (.inr ⟨_, vs.toArray, _, hk, rfl, rfl, rfl, ?_, ?_⟩) fun b u z => nomatch (show (none : Option HO) = some u from z)
    · rw [List.size_toArray, nv]
      exact hl
    · simpa using rv
  | none =>
    refine main (fun b => if b = a then some (.frz { cls := .type "list", data := .seq vs.toArray } (.lst (ns.map V.int))) else none) (fun b => ?_) (fun _ => hk) (.inl (.inr ⟨{ cls := .type "list", data := .seq vs.toArray }, if_pos rfl⟩)) (fun b u z => ?_)
    · by_cases q : b = a
      · exact .inr ⟨q, if_pos q⟩
      · exact .inl (if_neg q)
    · by_cases q : b = a
      · have z2 := (if_pos q).symm.trans z
        cases z2
        subst q
        exact ⟨ha, by rw [List.length_map]; exact hl, vs, _, rv, ha⟩
      · have z2 := (if_neg q).symm.trans z
        cases z2
theorem gwalk {l : PySem.W.OpenLaw} {n k : Nat} {q : Program} {lo : List Str} {XP : (Str → Option Value) → Heap → Prop} {YP : World → Heap → Prop} {d : DefRec} {K : Params → PySem.W.Frag} {sp : PySem.W.Frag → Sp} {x : Str}
    (hn : l.most = some n) (hn2 : n ≤ sizeLine) (hdf : d.params.defaults = []) (hr : Room k callerA) (hY : ∀ (w : World) (h : Heap), YP w h → (K w.params).In h)
    (F : ∀ (w : World) (mg : Str → Option Value) (fa : Addr) (h : Heap), (K w.params).In h → h.Ns mainGlobals mg → mg d.name = some (.ref fa) →
      ∃ fd : FuncData, (∀ (s : Shared) (u : Value), BindsTo s fd ⟨[u], []⟩ [(x, u)]) ∧
        ∀ base : Heap, (K w.params).In base → base.Ns mainGlobals mg → FnG l.prog w (K w.params) mg base CX0 k fa fd [x] (sp (K w.params)))
    (hsp : ∀ (K : PySem.W.Frag) (H : Hp) (a : Addr) (ns : List Int), ns.length ≤ n → SqL K H a (ns.map V.int) → sp K [.ref a] H (fun v _ => v = .bl true) E0) :
    PySem.W.WalkO q lo XP YP l.row.toRowW d [] (fun f vs => PySem.call f vs) := by
  refine Att.attach_call hn hdf fun w s₀ s₁ mg mb fa o pm cd doc a vs ns G Y ho hd hcd hmg hobj hints hlen hg => ?_
  have kx := hY w _ Y
  obtain ⟨fd, hb, hF⟩ := F w mg fa _ kx G.T.g hmg
  exact glaw kx G.T.g G.T.b G.T.builtins G.T.nolimit hg hobj hints (Nat.le_trans hlen hn2) hr hF hb fun H hS => hsp (K w.params) H a ns hlen hS

/-! ### repr of data -/
def rRepr (K : PySem.W.Frag) : List V → Hp → VK → Prop := fun xs H Q => ∃ (a : Addr) (d : PyData), xs = [.ref a] ∧ Dp K H (.ref a) d ∧ d.showable = true ∧ d.hasDict = false ∧ d.depth ≤ 32 ∧ d.shown.length ≤ sizeLine ∧ Q (.str d.shown) H
theorem call_repr {X : Cx} (hA : X.A.guards = some []) {k : Nat} (hr : Room k X.A) : CallR X (.builtin "repr") (rRepr X.K) := by
  intro pins s σ H xs us Q I r h
  obtain ⟨a, d, rfl, hd, h1, h2, h3, h4, q⟩ := h
  cases r with
  | cons r1 r2 =>
    cases r2
    cases r1
    obtain ⟨as, rd⟩ := Dp.reads I d _ _ hd rfl
    have hu := hr.units
    refine repr_of_reads' rd h1 (fun z => by rw [h2] at z; cases z) hA (by omega) (fun _ _ e => e) (fun h' u tk kp => ?_) h4
    exact ⟨.str d.shown, H, I.kept (t' := tk) kp, ⟨u, rfl⟩, q⟩

/-- repr of any data -/
def rReprV (K : PySem.W.Frag) : List V → Hp → VK → Prop := fun xs H Q => ∃ (x : V) (d : PyData), xs = [x] ∧ Dp K H x d ∧ d.showable = true ∧ d.hasDict = false ∧ d.depth ≤ 32 ∧ d.shown.length ≤ sizeLine ∧ Q (.str d.shown) H
theorem reprV {X : Cx} {K : PySem.W.Frag} (hK : X.K = K) (hA : X.A.guards = some []) {k : Nat} (hr : Room k X.A) : CallR X (.builtin "repr") (rReprV K) := by
  subst hK
  intro pins s σ H xs us Q I r h
  obtain ⟨x, d, rfl, hd, h1, h2, h3, h4, q⟩ := h
  have ref : ∀ a : Addr, x = .ref a → wpAny (model X.prog X.w) X.A (call (.builtin "repr") us) (EP X pins σ Q) X.xe s := fun a e => by
    subst e
    exact call_repr hA hr pins s σ H _ us Q I r ⟨a, d, rfl, hd, h1, h2, h3, h4, q⟩
  cases hd with
  | lst _ _ => exact ref _ rfl
  | tup _ _ => exact ref _ rfl
  | non =>
    cases r with
    | cons r1 r2 =>
      cases r2
      cases r1
      exact PySem.P.repr_of_none ⟨.str (PyData.shown .none), H, I.tok _, ⟨_, rfl⟩, q⟩
  | bl b =>
    cases r with
    | cons r1 r2 =>
      cases r2
      cases r1
      cases b with
      | true => exact PySem.P.repr_of_bool ⟨.str (PyData.shown (.bool true)), H, I.tok _, ⟨_, rfl⟩, q⟩
      | false => exact PySem.P.repr_of_bool ⟨.str (PyData.shown (.bool false)), H, I.tok _, ⟨_, rfl⟩, q⟩
  | int i =>
    cases r with
    | cons r1 r2 =>
      cases r2
      obtain ⟨t, rfl⟩ := r1
      have z : i.natAbs.log2 < 1920 := by
        simp only [PyData.showable] at h1
        exact of_decide_eq_true h1
      exact PySem.P.repr_of_int z ⟨.str (PyData.shown (.int i)), H, I.tok _, ⟨_, rfl⟩, q⟩
  | str y =>
    cases r with
    | cons r1 r2 =>
      cases r2
      obtain ⟨t, rfl⟩ := r1
      exact PySem.P.repr_of_str ⟨.str (PyData.shown (.str y)), H, I.tok _, ⟨_, rfl⟩, q⟩ h4

/-! ### a statement, then the rest by a word between them -/
def tMid (t u : TS) : TS := fun D σ H => ∃ M : L2.St → Hp → Prop, t { D with nx := M } σ H ∧ ∀ σ' H', M σ' H' → u D σ' H'
theorem pss_mid {X : Cx} {st : Stmt} {rs : List Stmt} {t u : TS} (h1 : PS X st t) (h2 : PSs X rs u) : PSs X (st :: rs) (tMid t u) :=
  ⟨fun pins s σ H D I ⟨M, hm, hu⟩ => wpAny_execs_cons (thn (h1.run pins s σ H { D with nx := M } I hm) fun f s1 q => by
    cases f with
    | next => exact q.elim fun σ' ⟨H', I', z⟩ => h2.run pins s1 σ' H' D I' (hu σ' H' z)
    | ret v => exact q
    | brk => exact q
    | cont => exact q)⟩

/-! ### rules with the written part named (for blocks of comprehensions) -/
theorem ixL {X : Cx} {K : PySem.W.Frag} (h : X.K = K) : IxR X (rIxL K) := h ▸ ix_list
theorem slL {X : Cx} {K : PySem.W.Frag} (h : X.K = K) : SlR X (rSlL K) := h ▸ sl_list
def rLenL (K : PySem.W.Frag) : List V → Hp → VK → Prop := fun xs H Q => ∃ (p : Addr) (ys : List V), xs = [.ref p] ∧ (SqL K H p ys ∨ SqT K H p ys) ∧ Q (.int ys.length) H
theorem lenL {X : Cx} {K : PySem.W.Frag} (h : X.K = K) : CallR X (.builtin "len") (rLenL K) := h ▸ call_len_seq
theorem sumL {X : Cx} {K : PySem.W.Frag} (h : X.K = K) (hc : X.calm = true) : CallR X (.builtin "sum") (rSum K) := h ▸ cr_sum hc
theorem maxL {X : Cx} {K : PySem.W.Frag} (h : X.K = K) (hc : X.calm = true) : CallR X (.builtin "max") (rMax K) := h ▸ cr_max hc
theorem minL {X : Cx} {K : PySem.W.Frag} (h : X.K = K) (hc : X.calm = true) : CallR X (.builtin "min") (rMin K) := h ▸ cr_min hc
theorem isiL {X : Cx} {K : PySem.W.Frag} (h : X.K = K) : CallR X (.builtin "isinstance") (rIsi K) := h ▸ call_isi
theorem reprL {X : Cx} {K : PySem.W.Frag} (h : X.K = K) (hA : X.A.guards = some []) {k : Nat} (hr : Room k X.A) : CallR X (.builtin "repr") (rRepr K) := h ▸ call_repr hA hr
theorem pg_tupL {X : Cx} {K : PySem.W.Frag} {es : List Expr} {j : Nat} {pos : Pos} {t : TGs} {n : Nat} (h : X.K = K) (hc : X.calm = true) (hs : PGs X es t)
    (hn : (assignEach es X.env).length = n := by rfl) (hst : (assignEach es X.env).findIdx? (·.1) = none := by rfl) : PG X (.Tuple es j pos) (gTup K n t) := h ▸ pg_tup hc hs hn hst
theorem enumL {X : Cx} {K : PySem.W.Frag} {elts : List Expr} {kk : Nat} {tpos p pos : Pos} {e : Expr} {ta : TA} (h : X.K = K) (hg : Gl X "enumerate") (hm : X.mg "enumerate" = none) (ha : PA X [e] ta)
    (hs : starEach [e] X.env = [(false, eval e X.env)] := by rfl) : PI X (.Tuple elts kk tpos) (.Call (.Name "enumerate" p) [e] [] pos) (iEnum K ta) := h ▸ pi_enum hg hm ha hs
theorem zipL {X : Cx} {K : PySem.W.Frag} {elts : List Expr} {kk : Nat} {tpos p pos : Pos} {e e2 : Expr} {ta : TA} (h : X.K = K) (hg : Gl X "zip") (hm : X.mg "zip" = none) (ha : PA X [e, e2] ta)
    (hs : starEach [e, e2] X.env = (false, eval e X.env) :: starEach [e2] X.env := by rfl) (hpl : (backTo pos (starEach [e2] X.env)).any (·.1) = false := by rfl) :
    PI X (.Tuple elts kk tpos) (.Call (.Name "zip" p) [e, e2] [] pos) (iZip K ta) := h ▸ pi_zip hg hm ha hs hpl
theorem pi_tupL {X : Cx} {K : PySem.W.Frag} {tg l : Expr} {tl : TE} (h : X.K = K) (hl : PE X l tl) : PI X tg l (iTup K tl) := h ▸ pi_tup hl
theorem pi_listL {X : Cx} {K : PySem.W.Frag} {tg l : Expr} {tl : TE} (h : X.K = K) (hl : PE X l tl) : PI X tg l (iList K tl) := h ▸ pi_list hl
def rListL (K : PySem.W.Frag) : List V → Hp → VK → Prop := fun xs H Q => ∃ (p : Addr) (ys : List V), xs = [.ref p] ∧ (SqL K H p ys ∨ SqT K H p ys) ∧ ∀ l, H l = none → Q (.ref l) (upd H l (.lst ys))
theorem listL {X : Cx} {K : PySem.W.Frag} (h : X.K = K) : CallR X (.type "list") (rListL K) := h ▸ call_list_of
theorem eqD {X : Cx} {K : PySem.W.Frag} (h : X.K = K) {k : Nat} (hr : Room k X.A) : OpR X (compareOp .Eq) (rEqD K) := h ▸ op_eqD hr.units
theorem neD {X : Cx} {K : PySem.W.Frag} (h : X.K = K) {k : Nat} (hr : Room k X.A) : OpR X (compareOp .NotEq) (rNeD K) := h ▸ op_neD hr.units

/-! ### a power of a great int, the exponent small -/
def CPow3 (i j : Int) : Prop := j = 3 ∧ 0 ≤ i ∧ i.natAbs < 2 ^ 200
theorem op_pow3 {X : Cx} : OpR X (binaryOp .Pow) (rI CPow3 fun i j => .int (i ^ j.toNat)) := opI fun i j t u s Q E hc q => by
  obtain ⟨rfl, h0, h1⟩ := hc
  by_cases e : (i == 0 || i == 1) = true
  · refine PySem.AutoIntOps.pow_1 (by decide) (by decide) e ?_
    have e2 : i ^ (3 : Int).toNat = i := by
      rcases (Bool.or_eq_true _ _).mp e with z | z
      · rw [eq_of_beq z]; rfl
      · rw [eq_of_beq z]; rfl
    rw [e2] at q
    exact q
  · refine PySem.AutoIntOps.pow_4 (by decide) (by decide) e ?_ ?_ q
    · intro z
      have := eq_of_beq z
      omega
    · intro z
      unfold Builtin.Int.intTooBig at z
      have z3 := of_decide_eq_true z
      have b : Builtin.Int.intBits i ≤ 201 := by
        unfold Builtin.Int.intBits
        have y := PySem.Flt.log2_lt_of (show 0 < 200 by decide) h1
        split <;> omega
      have e : bitsLine = 134217728 := by decide
      rw [e] at z3
      omega
end Sd

namespace Sd
open PySem PySem.Spec PyProof.Rows L2

/-! ### heaps -/
/-- all but T is as it was -/
def But (T : Addr) (H H' : Hp) : Prop := ∀ b o, H b = some o → b ≠ T → H' b = some o
theorem But.refl (T : Addr) (H : Hp) : But T H H := fun _ _ h _ => h
theorem But.trans {T : Addr} {H H1 H2 : Hp} (a : But T H H1) (b : But T H1 H2) : But T H H2 := fun c o h n => b c o (a c o h n) n
theorem But.of {T : Addr} {H H' : Hp} (s : Same H H') : But T H H' := fun b o h _ => s b o h
theorem But.lst {T : Addr} {H H' : Hp} {a : Addr} {o : HO} (s : But T H H') (h : H a = some o) (n : a ≠ T) : H' a = some o := s a o h n
theorem new_same {H : Hp} {p : Addr} {o : HO} (h : H p = none) : Same H (upd H p o) := fun b x e => by
  rw [upd_ne (ne_of_none e h)]
  exact e
theorem upd_but {H : Hp} {T : Addr} {o : HO} : But T H (upd H T o) := fun b x e n => by
  rw [upd_ne n]
  exact e
theorem free_but {T : Addr} {H H' : Hp} {p : Addr} {o : HO} (s : But T H H') (hT : H T = some o) (h : H' p = none) (hT' : H' T ≠ none) : H p = none := by
  cases q : H p with
  | none => rfl
  | some u =>
    by_cases e : p = T
    · subst e
      exact absurd h hT'
    · rw [s p u q e] at h
      cases h
/-- the law's tank -/
def Tank (H : Hp) (T : Addr) (c : Int) : Prop := ∃ x y z : Int, H T = some (.lst [.int x, .int y, .int z]) ∧ 0 ≤ x ∧ 0 ≤ y ∧ y < 2 ^ 100 ∧ 0 ≤ z ∧ z ≤ c
theorem Tank.some {H : Hp} {T : Addr} {c : Int} (h : Tank H T c) : ∃ o, H T = some o := let ⟨_, _, _, e, _⟩ := h; ⟨_, e⟩
theorem Tank.same {H H' : Hp} {T : Addr} {c : Int} (h : Tank H T c) (s : Same H H') : Tank H' T c := let ⟨x, y, z, e, r⟩ := h; ⟨x, y, z, s _ _ e, r⟩
theorem Tank.ne {H : Hp} {T p : Addr} {c : Int} (h : Tank H T c) (n : H p = none) : p ≠ T := fun e => by
  obtain ⟨o, q⟩ := h.some
  rw [e, q] at n
  cases n
theorem Tank.up {H : Hp} {T p : Addr} {c : Int} {o : HO} (h : Tank H T c) (n : H p = none) : Tank (upd H p o) T c := h.same (new_same n)
theorem Tank.mono {H : Hp} {T : Addr} {c d : Int} (h : Tank H T c) (l : c ≤ d) : Tank H T d := let ⟨x, y, z, e, a, b, r, f, g⟩ := h; ⟨x, y, z, e, a, b, r, f, by omega⟩

/-! ### lists of ints -/
theorem tyx_list {K : PySem.W.Frag} {H : Hp} {a : Addr} {xs : List V} (h : SqL K H a xs) : TyX K H (.ref a) (.type "list") := by
  rcases h with (h | ⟨o, h⟩) | ⟨o, its, n, hk, hc, _⟩
  · exact .base (.lst h)
  · exact .base (.frz h)
  · exact .kList hk hc
theorem kit_int_int {K : PySem.W.Frag} : PySem.W.kitOne K (.type "int") (.type "int") = some true := kit_ty (by decide +kernel)
theorem kit_int_bool {K : PySem.W.Frag} : PySem.W.kitOne K (.type "int") (.type "bool") = some false := kit_ty (by decide +kernel)
theorem kit_list_list {K : PySem.W.Frag} : PySem.W.kitOne K (.type "list") (.type "list") = some true := kit_ty (by decide +kernel)
/-- a rim: from 1 to 40 numbers from 0 to 10 ** 30 -/
structure Rim (ns : List Int) : Prop where
  pos : 1 ≤ ns.length
  le : ns.length ≤ 40
  all : ∀ n ∈ ns, 0 ≤ n ∧ n ≤ 1000000000000000000000000000000
theorem sz40 {n : Nat} (h : n ≤ 100000) : n < sizeLine := Nat.lt_of_le_of_lt h (by decide)
theorem sz40' {n : Nat} (h : n ≤ 100000) : n ≤ sizeLine := Nat.le_of_lt (sz40 h)
theorem int_at {ns : List Int} {i : Nat} {x : V} (h : (ns.map V.int)[i]? = some x) : ∃ n, ns[i]? = some n ∧ x = .int n := by
  rw [List.getElem?_map] at h
  cases e : ns[i]? with
  | none =>
    rw [e] at h
    cases h
  | some n =>
    rw [e] at h
    exact ⟨n, rfl, (Option.some.inj h).symm⟩
theorem at_int {ns : List Int} {i : Nat} {n : Int} (h : ns[i]? = some n) : (ns.map V.int)[i]? = some (.int n) := by
  rw [List.getElem?_map, h]
  rfl
/-- xs[i] at an int that lies within -/
theorem at_in {ns : List Int} {i : Int} (h0 : 0 ≤ i) (h1 : i < ns.length) : ∃ n, ns[i.toNat]? = some n ∧ atI (ns.map V.int) i = some (.int n) := by
  have h2 : i.toNat < ns.length := by omega
  obtain ⟨j, rfl⟩ : ∃ j : Nat, i = (j : Int) := ⟨i.toNat, by omega⟩
  have h3 : j < ns.length := by omega
  exact ⟨ns[j], List.getElem?_eq_getElem h3, atI_nat (at_int (List.getElem?_eq_getElem h3))⟩
theorem ixN_in {n : Nat} {i : Int} (h0 : 0 ≤ i) (h1 : i < n) : ixN n i = some i.toNat := by
  unfold ixN
  rw [if_pos h0, if_pos h1]

/-! ### turning, mirroring -/
/-- what stands at slot j behind a turn by t -/
def rot (ns : List Int) (t : Int) : List Int := (List.range ns.length).map fun (j : Nat) => ns.getD ((((j : Int) - t) % (ns.length : Int)).toNat) 0
def mir (ns : List Int) : List Int := (List.range ns.length).map fun (j : Nat) => ns.getD (((-(j : Int)) % (ns.length : Int)).toNat) 0
theorem rot_len (ns : List Int) (t : Int) : (rot ns t).length = ns.length := by
  unfold rot
  rw [List.length_map, List.length_range]
theorem mir_len (ns : List Int) : (mir ns).length = ns.length := by
  unfold mir
  rw [List.length_map, List.length_range]
theorem rot_at {ns : List Int} {t : Int} {j : Nat} (h : j < ns.length) : (rot ns t)[j]? = some (ns.getD ((((j : Int) - t) % (ns.length : Int)).toNat) 0) := by
  unfold rot
  rw [List.getElem?_map, List.getElem?_range h]
  rfl
theorem mir_at {ns : List Int} {j : Nat} (h : j < ns.length) : (mir ns)[j]? = some (ns.getD (((-(j : Int)) % (ns.length : Int)).toNat) 0) := by
  unfold mir
  rw [List.getElem?_map, List.getElem?_range h]
  rfl
theorem mod_in {i : Int} {n : Nat} (h : 0 < n) : 0 ≤ i % (n : Int) ∧ i % (n : Int) < n := ⟨Int.emod_nonneg _ (by omega), Int.emod_lt_of_pos _ (by omega)⟩
theorem getD_at {ns : List Int} {j : Nat} {n : Int} (h : ns[j]? = some n) : ns.getD j 0 = n := by
  rw [List.getD_eq_getElem?_getD, h]
  rfl
theorem at_getD {ns : List Int} {j : Nat} (h : j < ns.length) : ns[j]? = some (ns.getD j 0) := by
  rw [List.getD_eq_getElem?_getD, List.getElem?_eq_getElem h]
  rfl
theorem rot_all {ns : List Int} {t : Int} {P : Int → Prop} (h : ∀ n ∈ ns, P n) : ∀ n ∈ rot ns t, P n := fun n hn => by
  unfold rot at hn
  obtain ⟨j, hj, rfl⟩ := List.mem_map.mp hn
  have hj := List.mem_range.mp hj
  have hm := mod_in (i := (j : Int) - t) (show 0 < ns.length by omega)
  exact h _ (List.mem_of_getElem? (at_getD (show (((j : Int) - t) % (ns.length : Int)).toNat < ns.length by omega)))
theorem mir_all {ns : List Int} {P : Int → Prop} (h : ∀ n ∈ ns, P n) : ∀ n ∈ mir ns, P n := fun n hn => by
  unfold mir at hn
  obtain ⟨j, hj, rfl⟩ := List.mem_map.mp hn
  have hj := List.mem_range.mp hj
  have hm := mod_in (i := -(j : Int)) (show 0 < ns.length by omega)
  exact h _ (List.mem_of_getElem? (at_getD (show ((-(j : Int)) % (ns.length : Int)).toNat < ns.length by omega)))
theorem Rim.rot {ns : List Int} (h : Rim ns) (t : Int) : Rim (rot ns t) := ⟨by rw [rot_len]; exact h.pos, by rw [rot_len]; exact h.le, rot_all h.all⟩
theorem Rim.mir {ns : List Int} (h : Rim ns) : Rim (mir ns) := ⟨by rw [mir_len]; exact h.pos, by rw [mir_len]; exact h.le, mir_all h.all⟩
/-- filling slot by slot: found[(i + t) % n] = ns[i] for i below k leaves rot where it was filled -/
theorem rot_back {ns : List Int} {t : Int} {i : Nat} (hi : i < ns.length) : (rot ns t)[((((i : Int) + t) % (ns.length : Int)).toNat)]? = ns[i]? := by
  have hm := mod_in (i := (i : Int) + t) (show 0 < ns.length by omega)
  rw [rot_at (by omega), at_getD hi]
  have e : ((((((i : Int) + t) % (ns.length : Int)).toNat : Nat) : Int) - t) % (ns.length : Int) = (i : Int) := by
    rw [Int.toNat_of_nonneg hm.1, Int.emod_sub_emod]
    rw [show (i : Int) + t - t = (i : Int) by omega]
    exact Int.emod_eq_of_lt (by omega) (by omega)
  rw [e, Int.toNat_natCast]
theorem mir_back {ns : List Int} {i : Nat} (hi : i < ns.length) : (mir ns)[((((0 : Int) - (i : Int)) % (ns.length : Int)).toNat)]? = ns[i]? := by
  have hm := mod_in (i := (0 : Int) - (i : Int)) (show 0 < ns.length by omega)
  rw [mir_at (by omega), at_getD hi]
  have e : (-((((((0 : Int) - (i : Int)) % (ns.length : Int)).toNat : Nat) : Int))) % (ns.length : Int) = (i : Int) := by
    rw [Int.toNat_of_nonneg hm.1]
    rw [show -(((0 : Int) - (i : Int)) % (ns.length : Int)) = 0 - ((0 : Int) - (i : Int)) % (ns.length : Int) by omega, Int.sub_emod_emod]
    rw [show (0 : Int) - (0 - (i : Int)) = (i : Int) by omega]
    exact Int.emod_eq_of_lt (by omega) (by omega)
  rw [e, Int.toNat_natCast]
/-- filled at the places f 0, f 1 .. f (k - 1) as res is -/
def Filled (f : Nat → Nat) (res ms : List Int) (k : Nat) : Prop := ms.length = res.length ∧ ∀ p, (∃ j, j < k ∧ f j = p) → ms[p]? = res[p]?
theorem Filled.step {f : Nat → Nat} {res ms : List Int} {k : Nat} {v : Int} (h : Filled f res ms k) (e : res[f k]? = some v) : Filled f res (ms.set (f k) v) (k + 1) := by
  refine ⟨by rw [List.length_set]; exact h.1, fun p ⟨j, hj, hp⟩ => ?_⟩
  have hk : f k < ms.length := by
    rw [h.1]
    exact (List.getElem?_eq_some_iff.mp e).1
  by_cases q : f k = p
  · subst q
    rw [List.getElem?_set_self hk, e]
  · rw [List.getElem?_set_ne q]
    refine h.2 p ⟨j, ?_, hp⟩
    rcases Nat.lt_or_ge j k with z | z
    · exact z
    · have : j = k := by omega
      subst this
      exact absurd hp q
theorem Filled.done {f : Nat → Nat} {res ms : List Int} {n : Nat} (h : Filled f res ms n) (on : ∀ p, p < res.length → ∃ j, j < n ∧ f j = p) : ms = res := by
  refine List.ext_getElem? fun p => ?_
  by_cases q : p < res.length
  · exact h.2 p (on p q)
  · rw [List.getElem?_eq_none (by rw [h.1]; omega), List.getElem?_eq_none (by omega)]
theorem rot_on {ns : List Int} {t : Int} {p : Nat} (hp : p < ns.length) : ∃ j, j < ns.length ∧ (((j : Int) + t) % (ns.length : Int)).toNat = p := by
  have hm := mod_in (i := (p : Int) - t) (show 0 < ns.length by omega)
  refine ⟨(((p : Int) - t) % (ns.length : Int)).toNat, by omega, ?_⟩
  have e : ((((((p : Int) - t) % (ns.length : Int)).toNat : Nat) : Int) + t) % (ns.length : Int) = (p : Int) := by
    rw [Int.toNat_of_nonneg hm.1, Int.emod_add_emod]
    rw [show (p : Int) - t + t = (p : Int) by omega]
    exact Int.emod_eq_of_lt (by omega) (by omega)
  rw [e, Int.toNat_natCast]
theorem mir_on {ns : List Int} {p : Nat} (hp : p < ns.length) : ∃ j, j < ns.length ∧ (((0 : Int) - (j : Int)) % (ns.length : Int)).toNat = p := by
  have hm := mod_in (i := (0 : Int) - (p : Int)) (show 0 < ns.length by omega)
  refine ⟨(((0 : Int) - (p : Int)) % (ns.length : Int)).toNat, by omega, ?_⟩
  have e : ((0 : Int) - (((((0 : Int) - (p : Int)) % (ns.length : Int)).toNat : Nat) : Int)) % (ns.length : Int) = (p : Int) := by
    rw [Int.toNat_of_nonneg hm.1, Int.sub_emod_emod]
    rw [show (0 : Int) - (0 - (p : Int)) = (p : Int) by omega]
    exact Int.emod_eq_of_lt (by omega) (by omega)
  rw [e, Int.toNat_natCast]
theorem map_set {ns : List Int} {j : Nat} {v : Int} : (ns.map V.int).set j (.int v) = (ns.set j v).map V.int := by
  rw [List.map_set]
theorem take_next {l : List Int} {i : Nat} {v : Int} (h : l[i]? = some v) : (l.take i).map V.int ++ [.int v] = (l.take (i + 1)).map V.int := by
  rw [List.take_add_one, h, List.map_append]
  rfl
theorem take_all {l : List Int} {n : Nat} (h : l.length ≤ n) : l.take n = l := List.take_of_length_le h
theorem rep_one (v : Int) : ∀ k : Nat, (List.replicate k [V.int v]).flatten = (List.replicate k v).map V.int
  | 0 => rfl
  | k + 1 => by
    rw [List.replicate_succ, List.replicate_succ, List.flatten_cons, List.map_cons, rep_one v k]
    rfl
theorem rep_map (ns : List Int) : ∀ k : Nat, (List.replicate k (ns.map V.int)).flatten = ((List.replicate k ns).flatten).map V.int
  | 0 => rfl
  | k + 1 => by
    rw [List.replicate_succ, List.replicate_succ, List.flatten_cons, List.flatten_cons, List.map_append, rep_map ns k]
theorem rep_len (ns : List Int) : ∀ k : Nat, ((List.replicate k ns).flatten).length = k * ns.length
  | 0 => by simp
  | k + 1 => by
    rw [List.replicate_succ, List.flatten_cons, List.length_append, rep_len ns k, Nat.succ_mul, Nat.add_comm]
theorem rep_mem {ns : List Int} {k : Nat} {x : Int} (h : x ∈ (List.replicate k ns).flatten) : x ∈ ns := by
  obtain ⟨l, hl, hx⟩ := List.mem_flatten.mp h
  rw [(List.mem_replicate.mp hl).2] at hx
  exact hx
theorem cut_take (ns : List Int) (s : Int) (h0 : 0 ≤ s) : cutV (ns.map V.int) none (some s) = (ns.take s.toNat).map V.int := by
  obtain ⟨k, rfl⟩ : ∃ k : Nat, s = (k : Int) := ⟨s.toNat, by omega⟩
  unfold cutV
  rw [HT.sIx_none, HT.sIx_nat, Int.toNat_natCast, List.drop_zero, Nat.sub_zero, List.map_take]
  rcases Nat.le_total k (ns.map V.int).length with z | z
  · rw [Nat.min_eq_left z]
  · rw [Nat.min_eq_right z, List.take_of_length_le (Nat.le_refl _), List.take_of_length_le z]

/-! ### data: lists of ints, for repr and == -/
def dI (ns : List Int) : PyData := .list (ns.map PyData.int)
theorem dpAll_ints {K : PySem.W.Frag} {H : Hp} : ∀ ns : List Int, DpAll K H (ns.map V.int) (ns.map PyData.int)
  | [] => .nil
  | n :: ns => .cons (.int n) (dpAll_ints ns)
theorem dp_ints {K : PySem.W.Frag} {H : Hp} {a : Addr} {ns : List Int} (h : SqL K H a (ns.map V.int)) : Dp K H (.ref a) (dI ns) := .lst h (dpAll_ints ns)
/-- what repr and == ask of data -/
structure RP (d : PyData) : Prop where
  sh : d.showable = true
  nd : d.hasDict = false
  cl : d.canLay0 = true
  dp : d.depth ≤ 32
theorem RP.shaped {d : PyData} (h : RP d) : SeqAt.shaped d = true := by
  have := h.dp
  exact Bool.and_eq_true_iff.mpr ⟨h.cl, decide_eq_true (by omega)⟩
theorem RP.refl {d : PyData} (h : RP d) : PyData.eqv d d = true := SeqAt.eqv_refl d h.cl
theorem rp_int {i : Int} (h : i.natAbs < 2 ^ 1000) : RP (.int i) := ⟨by simp only [PyData.showable]; exact decide_eq_true (Nat.lt_trans (PySem.Flt.log2_lt_of (by decide) h) (by decide)), by simp only [PyData.hasDict], by simp only [PyData.canLay0], by simp only [PyData.depth]; omega⟩
/-- all of a list: depth one less -/
structure RPs (k : Nat) (ds : List PyData) : Prop where
  sh : PyData.showableAll ds = true
  nd : PyData.hasDictAll ds = false
  cl : PyData.canLayAll0 ds = true
  dp : PyData.depthAll ds ≤ k
theorem RPs.nil {k : Nat} : RPs k [] := ⟨by simp only [PyData.showableAll], by simp only [PyData.hasDictAll], by simp only [PyData.canLayAll0], by simp only [PyData.depthAll]; omega⟩
theorem RPs.cons {k : Nat} {d : PyData} {ds : List PyData} (h : RP d) (hk : d.depth ≤ k) (hs : RPs k ds) : RPs k (d :: ds) := by
  refine ⟨?_, ?_, ?_, ?_⟩
  · simp only [PyData.showableAll, h.sh, hs.sh, Bool.and_self]
  · simp only [PyData.hasDictAll, h.nd, hs.nd, Bool.or_self]
  · simp only [PyData.canLayAll0, h.cl, hs.cl, Bool.and_self]
  · simp only [PyData.depthAll]
    have := hs.dp
    omega
theorem RPs.list {k : Nat} {ds : List PyData} (h : RPs k ds) (hk : k ≤ 31) : RP (.list ds) ∧ (PyData.list ds).depth ≤ k + 1 := by
  have hd : (PyData.list ds).depth ≤ k + 1 := by
    simp only [PyData.depth]
    have := h.dp
    omega
  refine ⟨⟨?_, ?_, ?_, by omega⟩, hd⟩
  · simp only [PyData.showable, h.sh]
  · simp only [PyData.hasDict, h.nd]
  · simp only [PyData.canLay0, h.cl]
theorem rps_ints : ∀ {ns : List Int}, (∀ n ∈ ns, n.natAbs < 2 ^ 1000) → RPs 0 (ns.map PyData.int)
  | [], _ => RPs.nil
  | n :: ns, h => RPs.cons (rp_int (h n List.mem_cons_self)) (by simp only [PyData.depth]; omega) (rps_ints fun x hx => h x (List.mem_cons_of_mem _ hx))
theorem rp_ints {ns : List Int} (h : ∀ n ∈ ns, n.natAbs < 2 ^ 1000) : RP (dI ns) := ((rps_ints h).list (by omega)).1
theorem dp_ints_depth {ns : List Int} (h : ∀ n ∈ ns, n.natAbs < 2 ^ 1000) : (dI ns).depth ≤ 1 := ((rps_ints h).list (by omega)).2
theorem sum_bound {B : Nat} : ∀ {l : List Nat}, (∀ x ∈ l, x ≤ B) → l.sum ≤ B * l.length
  | [], _ => Nat.zero_le _
  | x :: l, h => by
    have h1 := h x List.mem_cons_self
    have h2 := sum_bound (B := B) (l := l) fun y hy => h y (List.mem_cons_of_mem _ hy)
    rw [List.sum_cons, List.length_cons, Nat.mul_succ]
    omega
theorem shownAll_map (ds : List PyData) : PyData.shownAll ds = ds.map PyData.shown := by
  induction ds with
  | nil => rfl
  | cons d ds ih =>
    simp only [PyData.shownAll, List.map_cons, ih]
/-- how long a list's text is at most, by its items' -/
theorem shown_list {B : Nat} {ds : List PyData} (h : ∀ d ∈ ds, d.shown.length ≤ B) : (PyData.list ds).shown.length ≤ (B + 2) * ds.length + 3 := by
  simp only [PyData.shown]
  have h1 := listText_len_le (PyData.shownAll ds)
  have h2 : ((PyData.shownAll ds).map (·.length)).sum ≤ B * ds.length := by
    rw [shownAll_map, List.map_map]
    have := sum_bound (B := B) (l := ds.map ((fun x => x.length) ∘ PyData.shown)) fun x hx => by
      obtain ⟨d, hd, rfl⟩ := List.mem_map.mp hx
      exact h d hd
    rw [List.length_map] at this
    exact this
  have h3 : (PyData.shownAll ds).length = ds.length := by rw [shownAll_map, List.length_map]
  rw [h3] at h1
  rw [Nat.add_mul]
  omega
theorem shown_int {i : Int} (h : i.natAbs < 2 ^ 1000) : (PyData.int i).shown.length ≤ 1001 := by
  simp only [PyData.shown]
  rw [PySem.ofString_length]
  exact int_text_length_le (by decide) (PySem.Flt.log2_lt_of (by decide) h)
theorem shown_ints {ns : List Int} (h : ∀ n ∈ ns, n.natAbs < 2 ^ 1000) : (dI ns).shown.length ≤ 1003 * ns.length + 3 := by
  have := shown_list (B := 1001) (ds := ns.map PyData.int) fun d hd => by
    obtain ⟨n, hn, rfl⟩ := List.mem_map.mp hd
    exact shown_int (h n hn)
  rw [List.length_map] at this
  exact this
theorem small_abs {n : Int} (h0 : 0 ≤ n) (h1 : n ≤ 1000000000000000000000000000000) : n.natAbs < 2 ^ 1000 := Nat.lt_of_le_of_lt (m := 1000000000000000000000000000000) (by omega) (by decide +kernel)
theorem Rim.abs {ns : List Int} (h : Rim ns) : ∀ n ∈ ns, n.natAbs < 2 ^ 1000 := fun n hn => small_abs (h.all n hn).1 (h.all n hn).2
theorem Rim.rp {ns : List Int} (h : Rim ns) : RP (dI ns) := rp_ints h.abs
theorem Rim.fits {ns : List Int} (h : Rim ns) : (dI ns).shown.length ≤ sizeLine := by
  have := shown_ints h.abs
  have := h.le
  exact sz40' (by omega)
/-- an object that was not there is written -/
theorem same_over {H H4 : Hp} {l : Addr} {o : HO} (s : Same H H4) (n : H l = none) : Same H (upd H4 l o) := fun b x e => by
  rw [upd_ne (ne_of_none e n)]
  exact s b x e
/-- turned back -/
theorem rot_rot {ns : List Int} {t : Int} : rot (rot ns t) (0 - t) = ns := by
  refine List.ext_getElem? fun j => ?_
  by_cases h : j < ns.length
  · rw [rot_at (by rw [rot_len]; exact h), rot_len]
    have hm := mod_in (i := (j : Int) - (0 - t)) (show 0 < ns.length by omega)
    have e := rot_back (t := t) h
    rw [show (j : Int) - (0 - t) = (j : Int) + t by omega]
    rw [show (j : Int) - (0 - t) = (j : Int) + t by omega] at hm
    rw [← e, ← at_getD (by rw [rot_len]; omega)]
  · rw [List.getElem?_eq_none (by rw [rot_len, rot_len]; omega), List.getElem?_eq_none (by omega)]
theorem mir_mir {ns : List Int} : mir (mir ns) = ns := by
  refine List.ext_getElem? fun j => ?_
  by_cases h : j < ns.length
  · rw [mir_at (by rw [mir_len]; exact h), mir_len]
    have hm := mod_in (i := (0 : Int) - (j : Int)) (show 0 < ns.length by omega)
    have e := mir_back h
    rw [show -(j : Int) = (0 : Int) - (j : Int) by omega]
    rw [← e, ← at_getD (by rw [mir_len]; omega)]
  · rw [List.getElem?_eq_none (by rw [mir_len, mir_len]; omega), List.getElem?_eq_none (by omega)]
end Sd

namespace Sd
open PySem PySem.Spec PyProof.Rows L2

/-! ### lights -/
def Ab (k : Nat) (ns : List Int) : Prop := ∀ n ∈ ns, n.natAbs < 2 ^ k
theorem pow_up {a b : Nat} (h : a ≤ b) : (2 : Nat) ^ a ≤ 2 ^ b := Nat.pow_le_pow_right (by decide) h
theorem Ab.mono {k j : Nat} {ns : List Int} (h : Ab k ns) (l : k ≤ j) : Ab j ns := fun n hn => Nat.lt_of_lt_of_le (h n hn) (pow_up l)
theorem Rim.ab {ns : List Int} (h : Rim ns) : Ab 100 ns := fun n hn => by
  have := h.all n hn
  exact Nat.lt_of_le_of_lt (m := 1000000000000000000000000000000) (by omega) (by decide +kernel)
theorem Ab.rot {k : Nat} {ns : List Int} (h : Ab k ns) (t : Int) : Ab k (rot ns t) := rot_all h
theorem Ab.at {k : Nat} {ns : List Int} (h : Ab k ns) {i : Nat} {n : Int} (e : ns[i]? = some n) : n.natAbs < 2 ^ k := h n (List.mem_of_getElem? e)
def prods (ns ms : List Int) : List Int := List.zipWith (· * ·) ns ms
theorem prods_len (ns ms : List Int) : (prods ns ms).length = min ns.length ms.length := List.length_zipWith
theorem prods_at {ns ms : List Int} {i : Nat} {x y : Int} (h1 : ns[i]? = some x) (h2 : ms[i]? = some y) : (prods ns ms)[i]? = some (x * y) := by
  unfold prods
  rw [List.getElem?_zipWith, h1, h2]
theorem prods_ab {a b : Nat} : ∀ {ns ms : List Int}, Ab a ns → Ab b ms → Ab (a + b) (prods ns ms)
  | [], _, _, _ => fun n hn => by
    simp only [prods, List.zipWith_nil_left] at hn
    exact (List.not_mem_nil hn).elim
  | _ :: _, [], _, _ => fun n hn => by
    simp only [prods, List.zipWith_nil_right] at hn
    exact (List.not_mem_nil hn).elim
  | x :: ns, y :: ms, h1, h2 => fun n hn => by
    have hn : n ∈ x * y :: prods ns ms := hn
    rcases List.mem_cons.mp hn with e | e
    · subst e
      exact wide_lt (h1 x List.mem_cons_self) (h2 y List.mem_cons_self)
    · exact prods_ab (fun z hz => h1 z (List.mem_cons_of_mem _ hz)) (fun z hz => h2 z (List.mem_cons_of_mem _ hz)) n e
theorem sum_ab {k : Nat} : ∀ {ns : List Int}, Ab k ns → ns.sum.natAbs ≤ ns.length * 2 ^ k
  | [], _ => Nat.zero_le _
  | x :: ns, h => by
    have h1 := h x List.mem_cons_self
    have h2 := sum_ab (k := k) (ns := ns) fun z hz => h z (List.mem_cons_of_mem _ hz)
    rw [List.sum_cons, List.length_cons, Nat.succ_mul]
    have := Int.natAbs_add_le x ns.sum
    omega
theorem sum_lt {k : Nat} {ns : List Int} (h : Ab k ns) (hl : ns.length < 1024) : ns.sum.natAbs < 2 ^ (k + 10) := by
  have h1 := sum_ab h
  rw [Nat.pow_add]
  refine Nat.lt_of_le_of_lt h1 ?_
  rw [Nat.mul_comm]
  exact Nat.mul_lt_mul_of_pos_left hl (Nat.two_pow_pos k)
/-- the light at a turn -/
def lightV (ns ms : List Int) (t : Int) : Int := (prods ns (rot ms t)).sum
def lightsV (ns ms : List Int) : List Int := (List.range ns.length).map fun (i : Nat) => lightV ns ms (i : Int)
theorem lightsV_len (ns ms : List Int) : (lightsV ns ms).length = ns.length := by
  unfold lightsV
  rw [List.length_map, List.length_range]
theorem lightsV_at {ns ms : List Int} {i : Nat} (h : i < ns.length) : (lightsV ns ms)[i]? = some (lightV ns ms (i : Int)) := by
  unfold lightsV
  rw [List.getElem?_map, List.getElem?_range h]
  rfl
theorem lightV_lt {a b : Nat} {ns ms : List Int} (h1 : Ab a ns) (h2 : Ab b ms) (hl : ns.length < 1024) (t : Int) : (lightV ns ms t).natAbs < 2 ^ (a + b + 10) := by
  refine sum_lt (prods_ab h1 (h2.rot t)) ?_
  rw [prods_len]
  omega
theorem lightsV_ab {a b : Nat} {ns ms : List Int} (h1 : Ab a ns) (h2 : Ab b ms) (hl : ns.length < 1024) : Ab (a + b + 10) (lightsV ns ms) := fun n hn => by
  unfold lightsV at hn
  obtain ⟨i, _, rfl⟩ := List.mem_map.mp hn
  exact lightV_lt h1 h2 hl i
theorem rot_mod (ms : List Int) (t : Int) : rot ms (t % (ms.length : Int)) = rot ms t := by
  unfold rot
  refine List.map_congr_left fun j _ => ?_
  rw [Int.sub_emod_emod]
theorem lightV_mod {ns ms : List Int} (t : Int) : lightV ns ms (t % (ms.length : Int)) = lightV ns ms t := by
  unfold lightV
  rw [rot_mod]
/-- lights[t % n], whatever the turn -/
theorem lights_any {ns ms : List Int} (t : Int) (hl : ns.length = ms.length) (h1 : 1 ≤ ns.length) : atI ((lightsV ns ms).map V.int) (t % (ns.length : Int)) = some (.int (lightV ns ms t)) := by
  have hm := mod_in (i := t) (show 0 < ns.length by omega)
  obtain ⟨n, hn, hat⟩ := at_in (ns := lightsV ns ms) hm.1 (by rw [lightsV_len]; exact hm.2)
  rw [lightsV_at (by omega), Int.toNat_of_nonneg hm.1, hl, lightV_mod] at hn
  rw [hat, ← Option.some.inj hn]
/-! ### the greatest, the places of some -/
theorem max_ex : ∀ {ns : List Int}, 1 ≤ ns.length → ∃ m, m ∈ ns ∧ ∀ y ∈ ns, y ≤ m
  | [], h => absurd h (by decide)
  | [x], _ => ⟨x, List.mem_cons_self, fun y hy => by rw [List.mem_singleton.mp hy]; exact Int.le_refl _⟩
  | x :: z :: ns, _ => by
    obtain ⟨m, hm, hg⟩ := max_ex (ns := z :: ns) (by simp)
    by_cases h : x ≤ m
    · refine ⟨m, List.mem_cons_of_mem _ hm, fun y hy => ?_⟩
      rcases List.mem_cons.mp hy with e | e
      · rw [e]
        exact h
      · exact hg y e
    · refine ⟨x, List.mem_cons_self, fun y hy => ?_⟩
      rcases List.mem_cons.mp hy with e | e
      · rw [e]
        exact Int.le_refl _
      · have := hg y e
        omega
theorem max_one {ns : List Int} {m m' : Int} (h1 : m ∈ ns) (h2 : ∀ y ∈ ns, y ≤ m) (h3 : m' ∈ ns) (h4 : ∀ y ∈ ns, y ≤ m') : m = m' := Int.le_antisymm (h4 _ h1) (h2 _ h3)
/-- the places below k of the items for which p holds -/
def places (p : Int → Bool) (ns : List Int) (k : Nat) : List Int := ((List.range k).filter fun i => p (ns.getD i 0)).map fun (i : Nat) => (i : Int)
theorem places_len (p : Int → Bool) (ns : List Int) (k : Nat) : (places p ns k).length ≤ k := by
  unfold places
  rw [List.length_map]
  refine Nat.le_trans (List.length_filter_le _ _) ?_
  rw [List.length_range]
  exact Nat.le_refl _
theorem places_yes {p : Int → Bool} {ns : List Int} {k : Nat} {n : Int} (h : ns[k]? = some n) (hp : p n = true) : places p ns (k + 1) = places p ns k ++ [(k : Int)] := by
  unfold places
  rw [List.range_succ, List.filter_append, List.map_append]
  have : ([k].filter fun i => p (ns.getD i 0)) = [k] := by
    rw [List.filter_cons, getD_at h, if_pos hp]
    rfl
  rw [this]
  rfl
theorem places_no {p : Int → Bool} {ns : List Int} {k : Nat} {n : Int} (h : ns[k]? = some n) (hp : ¬ p n = true) : places p ns (k + 1) = places p ns k := by
  unfold places
  rw [List.range_succ, List.filter_append, List.map_append]
  have : ([k].filter fun i => p (ns.getD i 0)) = [] := by
    rw [List.filter_cons, getD_at h, if_neg hp]
    rfl
  rw [this]
  simp
theorem places_ab (p : Int → Bool) (ns : List Int) {k : Nat} (h : k < 1000) : Ab 100 (places p ns k) := fun n hn => by
  unfold places at hn
  obtain ⟨i, hi, rfl⟩ := List.mem_map.mp hn
  have := List.mem_range.mp (List.mem_filter.mp hi).1
  exact Nat.lt_of_lt_of_le (m := 1000) (by omega) (by decide)
theorem Ab.rp {k : Nat} {ns : List Int} (h : Ab k ns) (hk : k ≤ 1000) : RP (dI ns) := rp_ints (h.mono hk)
theorem Ab.fits {k : Nat} {ns : List Int} (h : Ab k ns) (hk : k ≤ 1000) (hl : ns.length ≤ 2000) : (dI ns).shown.length ≤ 2100000 := by
  have := shown_ints (h.mono hk)
  omega
theorem fit_le {n : Nat} (h : n ≤ 16000000) : n ≤ sizeLine := Nat.le_trans h (by decide)
/-- some lists of ints, in a list -/
def dL (ls : List (List Int)) : PyData := .list (ls.map dI)
theorem rps_lists {k : Nat} (hk : k ≤ 1000) : ∀ {ls : List (List Int)}, (∀ l ∈ ls, Ab k l) → RPs 1 (ls.map dI)
  | [], _ => RPs.nil
  | l :: ls, h => RPs.cons ((h l List.mem_cons_self).rp hk) (dp_ints_depth ((h l List.mem_cons_self).mono hk)) (rps_lists hk fun x hx => h x (List.mem_cons_of_mem _ hx))
theorem rp_lists {k : Nat} (hk : k ≤ 1000) {ls : List (List Int)} (h : ∀ l ∈ ls, Ab k l) : RP (dL ls) := ((rps_lists hk h).list (by omega)).1
theorem fits_lists {k : Nat} (hk : k ≤ 1000) {ls : List (List Int)} (h : ∀ l ∈ ls, Ab k l) (hl : ∀ l ∈ ls, l.length ≤ 1000) (hn : ls.length ≤ 7) : (dL ls).shown.length ≤ sizeLine := by
  have h1 := shown_list (B := 2100000) (ds := ls.map dI) fun d hd => by
    obtain ⟨l, hm, rfl⟩ := List.mem_map.mp hd
    exact (h l hm).fits hk (by have := hl l hm; omega)
  rw [List.length_map] at h1
  refine fit_le (Nat.le_trans h1 ?_)
  omega
theorem all2 {P : List Int → Prop} {a b : List Int} (h1 : P a) (h2 : P b) : ∀ l ∈ [a, b], P l := fun l hl => by
  simp only [List.mem_cons, List.not_mem_nil, or_false] at hl
  rcases hl with rfl | rfl <;> assumption
theorem all3 {P : List Int → Prop} {a b c : List Int} (h1 : P a) (h2 : P b) (h3 : P c) : ∀ l ∈ [a, b, c], P l := fun l hl => by
  simp only [List.mem_cons, List.not_mem_nil, or_false] at hl
  rcases hl with rfl | rfl | rfl <;> assumption
end Sd

namespace Sd
open PySem PySem.Spec PyProof.Rows L2

/-! ### by steps -/
def stepsV (ns ms : List Int) (f st : Int) (k : Nat) : List Int := (List.range k).map fun (i : Nat) => lightV ns ms (f + st * (i : Int))
theorem stepsV_len (ns ms : List Int) (f st : Int) (k : Nat) : (stepsV ns ms f st k).length = k := by
  unfold stepsV
  rw [List.length_map, List.length_range]
theorem stepsV_at {ns ms : List Int} {f st : Int} {k i : Nat} (h : i < k) : (stepsV ns ms f st k)[i]? = some (lightV ns ms (f + st * (i : Int))) := by
  unfold stepsV
  rw [List.getElem?_map, List.getElem?_range h]
  rfl
/-- the first of them, None if there is none -/
def headV : List Int → V
  | [] => .non
  | x :: _ => .int x
def headD : List Int → PyData
  | [] => .none
  | x :: _ => .int x
theorem places_more (p : Int → Bool) (ns : List Int) (i : Nat) : ∀ d : Nat, ∃ r, places p ns (i + d) = places p ns i ++ r
  | 0 => ⟨[], by simp⟩
  | d + 1 => by
    obtain ⟨r, e⟩ := places_more p ns i d
    refine ⟨r ++ ([i + d].filter fun j => p (ns.getD j 0)).map fun (j : Nat) => (j : Int), ?_⟩
    rw [← List.append_assoc, ← e]
    unfold places
    rw [show i + (d + 1) = (i + d) + 1 from rfl, List.range_succ, List.filter_append, List.map_append]
theorem places_head {p : Int → Bool} {ns : List Int} {i k : Nat} {x : Int} (hx : ns[i]? = some x) (hp : p x = true) (hno : places p ns i = []) (hk : i < k) : headV (places p ns k) = .int i := by
  obtain ⟨r, e⟩ := places_more p ns (i + 1) (k - (i + 1))
  rw [show i + 1 + (k - (i + 1)) = k by omega, places_yes hx hp, hno] at e
  rw [e]
  rfl
theorem places_none {p : Int → Bool} {ns : List Int} {k : Nat} : places p ns k = [] ↔ ∀ i, i < k → ¬ p (ns.getD i 0) = true := by
  unfold places
  rw [List.map_eq_nil_iff, List.filter_eq_nil_iff]
  exact ⟨fun h i hi => h i (List.mem_range.mpr hi), fun h i hi => h i (List.mem_range.mp hi)⟩
theorem places_congr {p : Int → Bool} {ns ms : List Int} {k : Nat} (h : ∀ i, i < k → ns.getD i 0 = ms.getD i 0) : places p ns k = places p ms k := by
  unfold places
  refine congrArg _ (List.filter_congr fun i hi => ?_)
  rw [h i (List.mem_range.mp hi)]
theorem stepsV_getD {ns ms : List Int} {f st : Int} {k i : Nat} (h : i < k) : (stepsV ns ms f st k).getD i 0 = lightV ns ms (f + st * (i : Int)) := getD_at (stepsV_at h)
/-- twice around tells nothing more -/
theorem twice {p : Int → Bool} {ns ms : List Int} {f st : Int} (hl : ns.length = ms.length) : headV (places p (stepsV ns ms f st (2 * ns.length)) (2 * ns.length)) = headV (places p (stepsV ns ms f st ns.length) ns.length) := by
  have e1 : places p (stepsV ns ms f st (2 * ns.length)) ns.length = places p (stepsV ns ms f st ns.length) ns.length :=
    places_congr fun i hi => by rw [stepsV_getD (by omega), stepsV_getD hi]
  obtain ⟨r, e2⟩ := places_more p (stepsV ns ms f st (2 * ns.length)) ns.length ns.length
  rw [show ns.length + ns.length = 2 * ns.length by omega, e1] at e2
  cases e3 : places p (stepsV ns ms f st ns.length) ns.length with
  | cons x xs =>
    rw [e2, e3]
    rfl
  | nil =>
    have h0 := places_none.mp e3
    have h1 : places p (stepsV ns ms f st (2 * ns.length)) (2 * ns.length) = [] := places_none.mpr fun i hi => by
      by_cases hn : i < ns.length
      · have := h0 i hn
        rw [stepsV_getD hn] at this
        rw [stepsV_getD hi]
        exact this
      · have := h0 (i - ns.length) (by omega)
        rw [stepsV_getD (by omega)] at this
        rw [stepsV_getD hi]
        have e4 : lightV ns ms (f + st * (i : Int)) = lightV ns ms (f + st * ((i - ns.length : Nat) : Int)) := by
          rw [← lightV_mod (f + st * (i : Int)), ← lightV_mod (f + st * ((i - ns.length : Nat) : Int)), ← hl]
          have e5 : f + st * (i : Int) = (f + st * ((i - ns.length : Nat) : Int)) + (ns.length : Int) * st := by
            have e6 : (i : Int) = ((i - ns.length : Nat) : Int) + (ns.length : Int) := by omega
            rw [e6, Int.mul_add, Int.mul_comm (ns.length : Int) st]
            have e7 : ((((i - ns.length : Nat) : Int) + (ns.length : Int)) : Int) = (i : Int) := e6.symm
            omega
          rw [e5, Int.add_mul_emod_self_left]
        rw [e4]
        exact this
    rw [h1]
theorem dp_head {K : PySem.W.Frag} {H : Hp} : ∀ l : List Int, Dp K H (headV l) (headD l)
  | [] => .non
  | x :: _ => .int x
theorem rp_head : ∀ {l : List Int}, Ab 100 l → RP (headD l)
  | [], _ => ⟨rfl, rfl, rfl, by decide⟩
  | x :: _, h => rp_int (Nat.lt_of_lt_of_le (h x List.mem_cons_self) (pow_up (by decide)))
theorem fits_head : ∀ {l : List Int}, Ab 100 l → (headD l).shown.length ≤ sizeLine
  | [], _ => by decide +kernel
  | x :: _, h => fit_le (Nat.le_trans (shown_int (Nat.lt_of_lt_of_le (h x List.mem_cons_self) (pow_up (by decide)))) (by decide))
end Sd

namespace Sd
open PySem PySem.Spec PyProof.Rows L2

/-! ### far sums -/
def farV (ns ms : List Int) (f st N : Int) : Int := N / (ns.length : Int) * (stepsV ns ms f st ns.length).sum + ((stepsV ns ms f st ns.length).take (N % (ns.length : Int)).toNat).sum
theorem stepsV_take {ns ms : List Int} {f st : Int} {k r : Nat} (h : r ≤ k) : (stepsV ns ms f st k).take r = stepsV ns ms f st r := by
  unfold stepsV
  rw [← List.map_take, List.take_range, Nat.min_eq_left h]
theorem stepsV_next (ns ms : List Int) (f st : Int) (k : Nat) : (stepsV ns ms f st (k + 1)).sum = (stepsV ns ms f st k).sum + lightV ns ms (f + st * (k : Int)) := by
  unfold stepsV
  rw [List.range_succ, List.map_append, List.sum_append]
  simp
theorem stepsV_add (ns ms : List Int) (f st : Int) (a : Nat) : ∀ b : Nat, (stepsV ns ms f st (a + b)).sum = (stepsV ns ms f st a).sum + (stepsV ns ms (f + st * (a : Int)) st b).sum
  | 0 => by
    show (stepsV ns ms f st a).sum = (stepsV ns ms f st a).sum + 0
    omega
  | b + 1 => by
    rw [show a + (b + 1) = (a + b) + 1 from rfl, stepsV_next, stepsV_next, stepsV_add ns ms f st a b]
    rw [show f + st * (((a + b : Nat)) : Int) = f + st * (a : Int) + st * (b : Int) by rw [Int.natCast_add, Int.mul_add]; omega]
    omega
theorem lightV_congr {ns ms : List Int} {t u : Int} (h : t % (ms.length : Int) = u % (ms.length : Int)) : lightV ns ms t = lightV ns ms u := by
  rw [← lightV_mod t, h, lightV_mod]
theorem stepsV_mod (ns ms : List Int) (f st : Int) (k : Nat) : stepsV ns ms (f % (ms.length : Int)) st k = stepsV ns ms f st k := by
  unfold stepsV
  refine List.map_congr_left fun i _ => lightV_congr ?_
  rw [Int.emod_add_emod]
theorem stepsV_round {ns ms : List Int} (hl : ns.length = ms.length) (f st : Int) (k : Nat) : stepsV ns ms (f + st * (ns.length : Int)) st k = stepsV ns ms f st k := by
  unfold stepsV
  refine List.map_congr_left fun i _ => lightV_congr ?_
  rw [hl, show f + st * (ms.length : Int) + st * (i : Int) = f + st * (i : Int) + st * (ms.length : Int) by omega, Int.add_mul_emod_self_right]
theorem stepsV_rounds {ns ms : List Int} (hl : ns.length = ms.length) (f st : Int) (r : Nat) : ∀ q : Nat, (stepsV ns ms f st (q * ns.length + r)).sum = (q : Int) * (stepsV ns ms f st ns.length).sum + (stepsV ns ms f st r).sum
  | 0 => by simp
  | q + 1 => by
    rw [show (q + 1) * ns.length + r = ns.length + (q * ns.length + r) by rw [Nat.succ_mul]; omega, stepsV_add, stepsV_round hl, stepsV_rounds hl f st r q]
    rw [Int.natCast_succ, Int.add_mul]
    omega
theorem far_eq {ns ms : List Int} (hl : ns.length = ms.length) (h1 : 1 ≤ ns.length) (f st : Int) {N : Int} (h0 : 0 ≤ N) : farV ns ms f st N = (stepsV ns ms f st N.toNat).sum := by
  have hm := mod_in (i := N) (show 0 < ns.length by omega)
  have hq : 0 ≤ N / (ns.length : Int) := Int.ediv_nonneg h0 (by omega)
  have e : N.toNat = (N / (ns.length : Int)).toNat * ns.length + (N % (ns.length : Int)).toNat := by
    have e1 := Int.mul_ediv_add_emod N (ns.length : Int)
    have e2 : (((N / (ns.length : Int)).toNat * ns.length + (N % (ns.length : Int)).toNat : Nat) : Int) = N := by
      rw [Int.natCast_add, Int.natCast_mul, Int.toNat_of_nonneg hq, Int.toNat_of_nonneg hm.1, Int.mul_comm]
      exact e1
    omega
  rw [e, stepsV_rounds hl, Int.toNat_of_nonneg hq]
  unfold farV
  rw [stepsV_take (by omega)]
theorem far_parts {ns ms : List Int} (hl : ns.length = ms.length) (h1 : 1 ≤ ns.length) (f st : Int) {N M : Int} (h0 : 0 ≤ M) (hM : M ≤ N) : farV ns ms f st M + farV ns ms ((f + M * st) % (ns.length : Int)) st (N - M) = farV ns ms f st N := by
  rw [far_eq hl h1 f st h0, far_eq hl h1 _ st (show 0 ≤ N - M by omega), far_eq hl h1 f st (show 0 ≤ N by omega)]
  rw [show N.toNat = M.toNat + (N - M).toNat by omega, stepsV_add, hl, stepsV_mod, Int.toNat_of_nonneg h0, Int.mul_comm st M]
theorem stepsV_ab {a b : Nat} {ns ms : List Int} (h1 : Ab a ns) (h2 : Ab b ms) (hl : ns.length < 1024) (f st : Int) (k : Nat) : Ab (a + b + 10) (stepsV ns ms f st k) := fun n hn => by
  unfold stepsV at hn
  obtain ⟨i, _, rfl⟩ := List.mem_map.mp hn
  exact lightV_lt h1 h2 hl _
theorem steps_sum_lt {ns ms : List Int} (h1 : Ab 100 ns) (h2 : Ab 100 ms) (hl : ns.length < 1024) (f st : Int) (k : Nat) (hk : k < 1024) : (stepsV ns ms f st k).sum.natAbs < 2 ^ 220 :=
  sum_lt (stepsV_ab h1 h2 hl f st k) (by rw [stepsV_len]; exact hk)
theorem far_lt {ns ms : List Int} (h1 : Ab 100 ns) (h2 : Ab 100 ms) (hl : ns.length < 1024) (hp : 1 ≤ ns.length) (f st : Int) {N : Int} (h0 : 0 ≤ N) (hN : N.natAbs < 2 ^ 200) : (farV ns ms f st N).natAbs < 2 ^ 430 := by
  have hm := mod_in (i := N) (show 0 < ns.length by omega)
  have hq : 0 ≤ N / (ns.length : Int) := Int.ediv_nonneg h0 (by omega)
  have hqn : N / (ns.length : Int) ≤ N := Int.ediv_le_self _ h0
  have a1 : (N / (ns.length : Int)).natAbs < 2 ^ 200 := by omega
  have a2 := steps_sum_lt h1 h2 hl f st ns.length hl
  have a3 := wide_lt a1 a2
  unfold farV
  rw [stepsV_take (by omega)]
  have a4 := steps_sum_lt h1 h2 hl f st (N % (ns.length : Int)).toNat (by omega)
  have a5 := Int.natAbs_add_le (N / (ns.length : Int) * (stepsV ns ms f st ns.length).sum) (stepsV ns ms f st (N % (ns.length : Int)).toNat).sum
  have p1 : (2 : Nat) ^ 420 + 2 ^ 220 ≤ 2 ^ 430 := by decide +kernel
  have a3' : (N / (ns.length : Int) * (stepsV ns ms f st ns.length).sum).natAbs < 2 ^ 420 := a3
  exact Nat.lt_of_le_of_lt a5 (Nat.lt_of_lt_of_le (Nat.add_lt_add a3' a4) p1)
end Sd

namespace Sd
open PySem PySem.Spec PyProof.Rows L2

/-! ### lists of ints by their order -/
def LtI (a b : List Int) : Bool := PySem.W.dataLt (dI a) (dI b)
theorem ltI_irr (a : List Int) : LtI a a = false := lex_irrefl _
theorem ltI_trans {a b c : List Int} (h : LtI a b = true) (k : LtI b c = true) : LtI a c = true := lex_trans _ _ _ h k
theorem toks_int (x : Int) : PySem.W.keyToks (.int x) = [.inl x] := by rw [PySem.W.keyToks]
theorem toks_inj : ∀ {a b : List Int}, PySem.W.keyToksAll (a.map PyData.int) = PySem.W.keyToksAll (b.map PyData.int) → a = b
  | [], [], _ => rfl
  | [], y :: b, h => by
    rw [List.map_nil, List.map_cons, PySem.W.toks_all_cons, PySem.W.keyToksAll] at h
    have := (List.cons.inj h).1
    cases this
  | x :: a, [], h => by
    rw [List.map_nil, List.map_cons, PySem.W.toks_all_cons, PySem.W.keyToksAll] at h
    have := (List.cons.inj h).1
    cases this
  | x :: a, y :: b, h => by
    rw [List.map_cons, List.map_cons, PySem.W.toks_all_cons, PySem.W.toks_all_cons, toks_int, toks_int] at h
    have h2 := (List.cons.inj h).2
    have h3 := (List.cons.inj h2).1
    have h4 := (List.cons.inj h2).2
    cases h3
    rw [toks_inj h4]
theorem ltI_total {a b : List Int} (h : LtI a b = false) (k : LtI b a = false) : a = b := by
  have e := lex_total _ _ h k
  unfold dI at e
  rw [PySem.W.keyToks, PySem.W.keyToks] at e
  exact toks_inj e
/-- the least of some lists -/
def LeastI (S : List (List Int)) (m : List Int) : Prop := m ∈ S ∧ ∀ y ∈ S, LtI y m = false
theorem least_one {S : List (List Int)} {m m' : List Int} (h : LeastI S m) (k : LeastI S m') : m = m' := ltI_total (k.2 _ h.1) (h.2 _ k.1)
theorem least_set {S S' : List (List Int)} {m : List Int} (h : LeastI S m) (e : ∀ x, x ∈ S ↔ x ∈ S') : LeastI S' m := ⟨(e _).mp h.1, fun y hy => h.2 y ((e _).mpr hy)⟩
theorem least_le {S : List (List Int)} {m y : List Int} (h : LeastI S m) (hy : y ∈ S) : m = y ∨ LtI m y = true := by
  cases q : LtI m y with
  | true => exact .inr rfl
  | false => exact .inl (ltI_total q (h.2 _ hy))
theorem least_app {S S' : List (List Int)} {a b : List Int} (h : LeastI S a) (k : LeastI S' b) : LeastI (S ++ S') (if LtI b a then b else a) := by
  cases q : LtI b a with
  | true =>
    refine ⟨List.mem_append_right _ k.1, fun y hy => ?_⟩
    rcases List.mem_append.mp hy with hy | hy
    · cases z : LtI y b with
      | false => exact z
      | true =>
        have := ltI_trans z q
        rw [h.2 _ hy] at this
        cases this
    · exact k.2 _ hy
  | false =>
    refine ⟨List.mem_append_left _ h.1, fun y hy => ?_⟩
    rcases List.mem_append.mp hy with hy | hy
    · exact h.2 _ hy
    · cases z : LtI y a with
      | false => exact z
      | true =>
        exfalso
        rcases least_le k hy with e | e
        · rw [e, z] at q
          cases q
        · rw [ltI_trans e z] at q
          cases q
theorem minD_least (x : List Int) (xs : List (List Int)) : ∃ m, PySem.W.minD (dI x) (xs.map dI) = dI m ∧ LeastI (x :: xs) m := by
  have key : ∀ (xs done : List (List Int)) (x : List Int), LeastI done x → ∃ m, PySem.W.minD (dI x) (xs.map dI) = dI m ∧ LeastI (done ++ xs) m := by
    intro xs
    induction xs with
    | nil =>
      intro done x h
      exact ⟨x, rfl, by rw [List.append_nil]; exact h⟩
    | cons y r ih =>
      intro done x h
      have h2 : LeastI (done ++ [y]) (if LtI y x then y else x) := least_app h ⟨List.mem_singleton.mpr rfl, fun z hz => by rw [List.mem_singleton.mp hz]; exact ltI_irr _⟩
      obtain ⟨m, e, hm⟩ := ih _ _ h2
      refine ⟨m, ?_, by rw [List.append_assoc] at hm; exact hm⟩
      rw [← e]
      unfold PySem.W.minD
      rw [List.map_cons, List.foldl_cons]
      have e2 : (if PySem.W.dataLt (dI y) (dI x) then dI y else dI x) = dI (if LtI y x then y else x) := by
        show (if LtI y x = true then dI y else dI x) = dI (if LtI y x then y else x)
        cases LtI y x <;> rfl
      rw [e2]
  exact key xs [x] x ⟨List.mem_singleton.mpr rfl, fun z hz => by rw [List.mem_singleton.mp hz]; exact ltI_irr _⟩

theorem dI_inj {a b : List Int} (h : dI a = dI b) : a = b := by
  unfold dI at h
  have h2 := PyData.list.inj h
  have : ∀ {a b : List Int}, a.map PyData.int = b.map PyData.int → a = b := by
    intro a
    induction a with
    | nil => intro b h; cases b with
      | nil => rfl
      | cons _ _ => cases h
    | cons x a ih => intro b h; cases b with
      | nil => cases h
      | cons y b =>
        rw [List.map_cons, List.map_cons] at h
        have := PyData.int.inj (List.cons.inj h).1
        rw [this, ih (List.cons.inj h).2]
  exact this h2
theorem alike_ints : ∀ a b : List Int, PySem.W.alikeAll (a.map PyData.int) (b.map PyData.int) = true
  | [], _ => by rw [List.map_nil, PySem.W.alikeAll]
  | _ :: _, [] => by rw [List.map_nil, List.map_cons, PySem.W.alikeAll]
  | x :: a, y :: b => by
    rw [List.map_cons, List.map_cons, PySem.W.alikeAll, alike_ints a b, PySem.W.alike]
    rfl
theorem alike_dI (a b : List Int) : PySem.W.alike (dI a) (dI b) = true := by
  unfold dI
  rw [PySem.W.alike]
  exact alike_ints a b
theorem alikeAll_dI (S : List (List Int)) : PySem.W.AlikeAll (S.map dI) := by
  refine ⟨fun x hx y hy => ?_, fun x hx e => ?_⟩
  · obtain ⟨a, _, rfl⟩ := List.mem_map.mp hx
    obtain ⟨b, _, rfl⟩ := List.mem_map.mp hy
    exact alike_dI a b
  · obtain ⟨a, _, rfl⟩ := List.mem_map.mp hx
    unfold dI at e
    cases e
theorem depthAll_ints : ∀ a : List Int, PyData.depthAll (a.map PyData.int) = 0
  | [] => rfl
  | x :: a => by
    show max (PyData.depth (.int x)) (PyData.depthAll (a.map PyData.int)) = 0
    rw [depthAll_ints a]
    simp only [PyData.depth, Nat.max_self]
theorem depth_dI (a : List Int) : (dI a).depth ≤ 1 := by
  unfold dI
  simp only [PyData.depth]
  rw [depthAll_ints]
  exact Nat.le_refl _
theorem depthAll_dI : ∀ S : List (List Int), PyData.depthAll (S.map dI) ≤ 1
  | [] => by show (0 : Nat) ≤ 1; omega
  | a :: S => by
    show max (dI a).depth (PyData.depthAll (S.map dI)) ≤ 1
    have h1 := depth_dI a
    have h2 := depthAll_dI S
    omega

theorem readsAll_kp {h h' : Heap} (k : ∀ c o, h.get? c = some o → h'.get? c = some o) : ∀ {us : List Value} {ds : List PyData} {as : List Addr}, PySem.ReadsAll h us ds as → PySem.ReadsAll h' us ds as
  | _, _, _, .nil => .nil
  | _, _, _, .cons r rs => .cons (PySem.W.reads_keeps k r) (readsAll_kp k rs)
theorem readsAll_ix {h : Heap} : ∀ {us : List Value} {ds : List PyData} {as : List Addr} {i : Nat} {u : Value}, PySem.ReadsAll h us ds as → us[i]? = some u → ∃ d bs, ds[i]? = some d ∧ PySem.Reads h u d bs
  | _, _, _, _, _, .nil, e => by simp at e
  | _, _, _, 0, _, .cons r _, e => by
    have e := Option.some.inj (show some _ = some _ from e)
    subst e
    exact ⟨_, _, rfl, r⟩
  | _, _, _, i + 1, _, .cons _ rs, e => by
    obtain ⟨d, bs, h1, h2⟩ := readsAll_ix (i := i) rs (by simpa using e)
    exact ⟨d, bs, by simpa using h1, h2⟩
theorem vals_ix : ∀ {vs : List V} {us : List Value} {i : Nat} {u : Value}, Vals vs us → us[i]? = some u → ∃ v, vs[i]? = some v ∧ RelV v u
  | _, _, _, _, .nil, e => by simp at e
  | _, _, 0, _, .cons r _, e => by
    have e := Option.some.inj (show some _ = some _ from e)
    subst e
    exact ⟨_, rfl, r⟩
  | _, _, i + 1, _, .cons _ rs, e => by
    obtain ⟨d, h1, h2⟩ := vals_ix (i := i) rs (by simpa using e)
    exact ⟨d, by simpa using h1, h2⟩

/-! ### min(S), S a list of lists of ints -/
def rMinI (K : PySem.W.Frag) : List V → Hp → VK → Prop := fun vs H Q => ∃ (a : Addr) (xs : List V) (S : List (List Int)), vs = [V.ref a] ∧ SqL K H a xs ∧ DpAll K H xs (S.map dI) ∧ 0 < S.length ∧
  ∀ (i : Nat) (v : V) (m : List Int), xs[i]? = some v → S[i]? = some m → LeastI S m → Q v H
theorem cr_minI {X : Cx} {K : PySem.W.Frag} (hK : X.K = K) (hc : X.calm = true) {k : Nat} (hr : Room k X.A) : CallR X (.builtin "min") (rMinI K) := by
  subst hK
  intro pins s σ H vs us Q I r h
  obtain ⟨a, xs, S, rfl, hs, hd, hne, q⟩ := h
  obtain ⟨its, rv, hl, _⟩ := I.list hs
  rw [Vals.ref1 r]
  obtain ⟨as, hR⟩ := Dp.readsAll I _ _ _ hd rv
  cases S with
  | nil => exact absurd hne (Nat.lt_irrefl 0)
  | cons x S =>
    have hu := hr.units
    have hd1 := depthAll_dI (x :: S)
    refine PySem.W.min_list_data (x := dI x) (xs := S.map dI) (as := as) (I.ok.hd hc) hl.isList hR (alikeAll_dI (x :: S)) ?_ fun i v h' tk bs hv hR' kp => ?_
    · have e : PyData.depthAll (dI x :: S.map dI) ≤ 1 := hd1
      omega
    · obtain ⟨m, em, hm⟩ := minD_least x S
      have hv' : its[i]? = some v := by simpa using hv
      obtain ⟨d, cs, hd2, hR2⟩ := readsAll_ix hR hv'
      obtain ⟨y, hy, ry⟩ := vals_ix rv hv'
      obtain ⟨n, hn, e⟩ : ∃ n, (x :: S)[i]? = some n ∧ d = dI n := by
        rw [List.getElem?_map] at hd2
        cases z : (x :: S)[i]? with
        | none =>
          rw [z] at hd2
          cases hd2
        | some n =>
          rw [z] at hd2
          exact ⟨n, rfl, (Option.some.inj hd2).symm⟩
      subst e
      rw [em] at hR'
      have e2 := PySem.W.alike_unique _ _ v _ _ (alike_dI n m) (PySem.W.reads_keeps kp hR2) hR'
      have e3 := dI_inj e2
      subst e3
      exact ⟨y, H, I.kept kp, ry, q i y n hy hn hm⟩
/-! ### min(a, b) of two values, compared where a heap stands -/
section
variable {prog : Program} {w : World} {A : Around} {E : Value → Shared → Prop} {s : Shared}
theorem min_pair {a b : Value} {x y : PyData} {as : List Addr} {Q : Value → Shared → Prop} (hh : A.handled = none) (hR : PySem.ReadsAll s.heap [a, b] [x, y] as) (ha : PySem.W.AlikeAll [x, y]) (hu : A.units + 1 + PyData.depthAll [x, y] < cLine)
    (h : ∀ h' tk, (∀ c o, s.heap.get? c = some o → h'.get? c = some o) → Q (if PySem.W.dataLt y x then b else a) { s with heap := h', toks := tk }) : wpAny (model prog w) A (call (.builtin "min") [a, b]) Q E s := by
  have nm : (toString "min" ++ toString ".loop" : String) = "min.loop" := by decide
  have hT : (s.heap.push { cls := .type "tuple", data := .seq #[a, b] }).IsTuple s.heap.objs.size #[a, b] := ⟨_, Heap.get?_push_size _ rfl, rfl, 0, rfl⟩
  have kp0 : ∀ c o, s.heap.get? c = some o → (s.heap.push { cls := .type "tuple", data := .seq #[a, b] }).get? c = some o := fun c o e => Heap.get?_push_of_some _ e
  have hR2 : PySem.ReadsAll (s.heap.push { cls := .type "tuple", data := .seq #[a, b] }) (#[a, b] : Array Value).toList [x, y] as := readsAll_kp kp0 hR
  refine call_function_tree F.kind_min F.plain_min F.entry_min (F.args_min2 _ _) ?_
  show wpAny _ A.in1 (Builtin.Builtins.bindParams _ _ _ _ >>= _) _ _ s
  refine wpAny_bind (wpAny_of_eq (show Builtin.Builtins.bindParams "min" ["key", "default"] 0 ⟨[], []⟩ = pure [none, none] from rfl) (show wpAny _ A.in1 (newTuple [a, b] >>= _) _ _ s from wpAny_bind (wpAny_newObj_type (wpAny_bind ?_))))
  refine PySem.W.iter_tupleW (A := A.in1) (s := { s with heap := s.heap.push { cls := .type "tuple", data := .seq #[a, b] } }) hh hT fun s₂ e W st hfp hw hk => ?_
  have hS : s₂.heap.objs.size ∉ _ := fun hm => Nat.lt_irrefl _ (hfp _ hm)
  refine wpAny_bind (wpAny_newObj_type ?_)
  rw [nm]
  refine wpAny_pure ⟨plainId_quiet F.plain_min_loop _, codeAny_min_loop_firstH W (s.heap.push { cls := .type "tuple", data := .seq #[a, b] }) hw (fun i j => PySem.W.dataLt ([x, y].getD i .none) ([x, y].getD j .none)) ?_ s₂.heap.objs.size hS (fresh_in hk) _ (show 0 < 2 by decide) (fun c o e => Heap.get?_push_of_some _ (hk c o e)) (W.frame 0 s₂ _ s₂.toks st (Nat.le_refl _) fun c _ o e => Heap.get?_push_of_some _ e) (Heap.get?_push_size _ rfl) fun v s' hP hm => ?_⟩
  · exact PySem.W.cmpIn_lt (A := A.in1) (s := { s with heap := s.heap.push { cls := .type "tuple", data := .seq #[a, b] } }) hR2 ha hu
  · obtain ⟨h', tk, rfl, hk'⟩ := PySem.W.moved_old e rfl (Moved.drop_new (tk := s₂.toks) hm (Nat.le_refl _))
    have q := h h' tk fun c o e => hk' c o (kp0 c o e)
    have ev : v = if PySem.W.dataLt y x then b else a := by
      cases z : PySem.W.dataLt y x with
      | true =>
        have e1 : argBest (fun i j => PySem.W.dataLt ([x, y].getD i .none) ([x, y].getD j .none)) 1 = 1 := if_pos z
        rw [show (#[a, b] : Array Value).size - 1 = 1 from rfl, e1] at hP
        exact (Option.some.inj hP).symm
      | false =>
        have e1 : argBest (fun i j => PySem.W.dataLt ([x, y].getD i .none) ([x, y].getD j .none)) 1 = 0 := if_neg (fun c => by
          have c : PySem.W.dataLt y x = true := c
          rw [z] at c
          cases c)
        rw [show (#[a, b] : Array Value).size - 1 = 1 from rfl, e1] at hP
        exact (Option.some.inj hP).symm
    rw [ev]
    exact q
end
/-- min(a, b) of two lists of ints -/
def rMin2 (K : PySem.W.Frag) : List V → Hp → VK → Prop := fun vs H Q => ∃ (x y : V) (a b : List Int), vs = [x, y] ∧ Dp K H x (dI a) ∧ Dp K H y (dI b) ∧ Q (if LtI b a then y else x) H
theorem cr_min2 {X : Cx} {K : PySem.W.Frag} (hK : X.K = K) (hc : X.calm = true) {k : Nat} (hr : Room k X.A) : CallR X (.builtin "min") (rMin2 K) := by
  subst hK
  intro pins s σ H vs us Q I r h
  obtain ⟨x, y, a, b, rfl, hx, hy, q⟩ := h
  obtain ⟨as, hR⟩ := Dp.readsAll I _ _ _ (.cons hx (.cons hy .nil)) r
  cases r with
  | cons r1 r2 =>
    cases r2 with
    | cons r2 r3 =>
      cases r3
      have hu := hr.units
      have hd1 := depthAll_dI [a, b]
      refine min_pair (I.ok.hd hc) hR (alikeAll_dI [a, b]) ?_ fun h' tk kp => ?_
      · have e : PyData.depthAll [dI a, dI b] ≤ 1 := hd1
        omega
      · have q : Q (if PySem.W.dataLt (dI b) (dI a) then y else x) H := q
        cases z : PySem.W.dataLt (dI b) (dI a) with
        | true =>
          rw [z] at q
          exact ⟨y, H, I.kept kp, r2, q⟩
        | false =>
          rw [z] at q
          exact ⟨x, H, I.kept kp, r1, q⟩
end Sd

namespace Sd
open PySem PySem.Spec PyProof.Rows L2

/-! ### turns, and all that are like -/
theorem ext_getD {a b : List Int} (hl : a.length = b.length) (h : ∀ j, j < a.length → a.getD j 0 = b.getD j 0) : a = b := by
  refine List.ext_getElem? fun j => ?_
  by_cases q : j < a.length
  · rw [at_getD q, at_getD (by omega), h j q]
  · rw [List.getElem?_eq_none (by omega), List.getElem?_eq_none (by omega)]
theorem rot_get {ns : List Int} {t : Int} {j : Nat} (h : j < ns.length) : (rot ns t).getD j 0 = ns.getD ((((j : Int) - t) % (ns.length : Int)).toNat) 0 := getD_at (rot_at h)
theorem mir_get {ns : List Int} {j : Nat} (h : j < ns.length) : (mir ns).getD j 0 = ns.getD (((-(j : Int)) % (ns.length : Int)).toNat) 0 := getD_at (mir_at h)
theorem rot_add (ns : List Int) (s t : Int) : rot (rot ns s) t = rot ns (s + t) := by
  refine ext_getD (by simp only [rot_len]) fun j hj => ?_
  simp only [rot_len] at hj
  have hm := mod_in (i := (j : Int) - t) (show 0 < ns.length by omega)
  rw [rot_get (by rw [rot_len]; exact hj), rot_len, rot_get (by omega), rot_get hj]
  rw [Int.toNat_of_nonneg hm.1, Int.emod_sub_emod]
  rw [show (j : Int) - t - s = (j : Int) - (s + t) by omega]
theorem rot_zero (ns : List Int) : rot ns 0 = ns := by
  refine ext_getD (rot_len _ _) fun j hj => ?_
  rw [rot_len] at hj
  rw [rot_get hj, Int.sub_zero, Int.emod_eq_of_lt (by omega) (by omega), Int.toNat_natCast]
theorem rot_full (ns : List Int) : rot ns (ns.length : Int) = ns := by
  rw [← rot_mod, Int.emod_self, rot_zero]
theorem mir_rot (ns : List Int) (t : Int) : mir (rot ns t) = rot (mir ns) (-t) := by
  refine ext_getD (by simp only [rot_len, mir_len]) fun j hj => ?_
  simp only [rot_len, mir_len] at hj
  have hm := mod_in (i := -(j : Int)) (show 0 < ns.length by omega)
  have hm2 := mod_in (i := (j : Int) - -t) (show 0 < ns.length by omega)
  rw [mir_get (by rw [rot_len]; exact hj), rot_len, rot_get (by omega), rot_get (by rw [mir_len]; exact hj), mir_len, mir_get (by omega)]
  rw [Int.toNat_of_nonneg hm.1, Int.toNat_of_nonneg hm2.1, Int.emod_sub_emod]
  have e : (-(((j : Int) - -t) % (ns.length : Int))) % (ns.length : Int) = (-((j : Int) - -t)) % (ns.length : Int) := by
    rw [← Int.zero_sub, ← Int.zero_sub ((j : Int) - -t), Int.sub_emod_emod]
  rw [e, show -((j : Int) - -t) = -(j : Int) - t by omega]
def turnsL (ns : List Int) : List (List Int) := (List.range ns.length).map fun (t : Nat) => rot ns (t : Int)
def bothL (ns : List Int) : List (List Int) := turnsL ns ++ turnsL (mir ns)
theorem turns_len (ns : List Int) : (turnsL ns).length = ns.length := by
  unfold turnsL
  rw [List.length_map, List.length_range]
theorem mem_turns {ns x : List Int} (h : 1 ≤ ns.length) : x ∈ turnsL ns ↔ ∃ t : Int, x = rot ns t := by
  unfold turnsL
  constructor
  · intro hx
    obtain ⟨t, _, rfl⟩ := List.mem_map.mp hx
    exact ⟨_, rfl⟩
  · intro ⟨t, ht⟩
    have hm := mod_in (i := t) (show 0 < ns.length by omega)
    refine List.mem_map.mpr ⟨(t % (ns.length : Int)).toNat, List.mem_range.mpr (by omega), ?_⟩
    rw [Int.toNat_of_nonneg hm.1, rot_mod, ht]
theorem mem_both {ns x : List Int} (h : 1 ≤ ns.length) : x ∈ bothL ns ↔ ∃ t : Int, x = rot ns t ∨ x = rot (mir ns) t := by
  unfold bothL
  rw [List.mem_append, mem_turns h, mem_turns (by rw [mir_len]; exact h)]
  constructor
  · rintro (⟨t, e⟩ | ⟨t, e⟩)
    · exact ⟨t, .inl e⟩
    · exact ⟨t, .inr e⟩
  · rintro ⟨t, e | e⟩
    · exact .inl ⟨t, e⟩
    · exact .inr ⟨t, e⟩
theorem both_len {ns x : List Int} (h : 1 ≤ ns.length) (hx : x ∈ bothL ns) : x.length = ns.length := by
  obtain ⟨t, rfl | rfl⟩ := (mem_both h).mp hx
  · exact rot_len _ _
  · rw [rot_len, mir_len]
theorem both_sub {ns ms x : List Int} (h : 1 ≤ ns.length) (hm : ms ∈ bothL ns) (hx : x ∈ bothL ms) : x ∈ bothL ns := by
  have hl := both_len h hm
  obtain ⟨s, e⟩ := (mem_both (by omega)).mp hx
  obtain ⟨t, rfl | rfl⟩ := (mem_both h).mp hm
  · rcases e with rfl | rfl
    · rw [rot_add]
      exact (mem_both h).mpr ⟨_, .inl rfl⟩
    · rw [mir_rot, rot_add]
      exact (mem_both h).mpr ⟨_, .inr rfl⟩
  · rcases e with rfl | rfl
    · rw [rot_add]
      exact (mem_both h).mpr ⟨_, .inr rfl⟩
    · rw [mir_rot, mir_mir, rot_add]
      exact (mem_both h).mpr ⟨_, .inl rfl⟩
theorem both_symm {ns ms : List Int} (h : 1 ≤ ns.length) (hm : ms ∈ bothL ns) : ns ∈ bothL ms := by
  have hl := both_len h hm
  obtain ⟨t, rfl | rfl⟩ := (mem_both h).mp hm
  · refine (mem_both (by omega)).mpr ⟨-t, .inl ?_⟩
    rw [rot_add, show t + -t = 0 by omega, rot_zero]
  · refine (mem_both (by omega)).mpr ⟨t, .inr ?_⟩
    rw [mir_rot, mir_mir, rot_add, show -t + t = 0 by omega, rot_zero]
theorem like_iff {ns ms m m' : List Int} (h : 1 ≤ ns.length) (h2 : 1 ≤ ms.length) (hm : LeastI (bothL ns) m) (hm' : LeastI (bothL ms) m') : m = m' ↔ ms ∈ bothL ns := by
  constructor
  · rintro rfl
    exact both_sub h hm.1 (both_symm h2 hm'.1)
  · intro e
    refine least_one hm (least_set hm' fun x => ⟨both_sub h e, both_sub h2 (both_symm h e)⟩)
theorem eqv_dI (a b : List Int) : PyData.eqv (dI a) (dI b) = decide (a = b) := by
  by_cases e : a = b
  · subst e
    rw [decide_eq_true rfl]
    exact PySem.W.eqv_refl_alike _ (alike_dI a a)
  · rw [decide_eq_false e]
    cases q : PyData.eqv (dI a) (dI b) with
    | false => rfl
    | true =>
      exfalso
      have z := (PySem.W.toks_eqv (dI a) (dI b) (alike_dI a b)).1 q
      unfold dI at z
      rw [PySem.W.keyToks, PySem.W.keyToks] at z
      exact e (toks_inj z)
theorem any_dI (S : List (List Int)) (m : List Int) : ((S.map dI).any fun z => PyData.eqv z (dI m)) = decide (m ∈ S) := by
  induction S with
  | nil => simp
  | cons a S ih =>
    rw [List.map_cons, List.any_cons, ih, eqv_dI]
    by_cases e : a = m
    · subst e
      simp
    · have e2 : ¬ m = a := fun z => e z.symm
      simp [e, e2]

/-! ### the turns at which one becomes the other -/
def hits (xs ys : List Int) (o : Int) : Nat → List Int
  | 0 => []
  | k + 1 => hits xs ys o k ++ (if rot xs (o + (k : Int)) = ys then [o + (k : Int)] else [])
theorem hits_yes {xs ys : List Int} {o : Int} {k : Nat} (h : rot xs (o + (k : Int)) = ys) : hits xs ys o (k + 1) = hits xs ys o k ++ [o + (k : Int)] := by
  rw [hits, if_pos h]
theorem hits_no {xs ys : List Int} {o : Int} {k : Nat} (h : ¬ rot xs (o + (k : Int)) = ys) : hits xs ys o (k + 1) = hits xs ys o k := by
  rw [hits, if_neg h, List.append_nil]
theorem hits_more (xs ys : List Int) (o : Int) (k : Nat) : ∀ m, ∃ r, hits xs ys o (k + m) = hits xs ys o k ++ r
  | 0 => ⟨[], by rw [List.append_nil]; rfl⟩
  | m + 1 => by
    obtain ⟨r, e⟩ := hits_more xs ys o k m
    refine ⟨r ++ (if rot xs (o + ((k + m : Nat) : Int)) = ys then [o + ((k + m : Nat) : Int)] else []), ?_⟩
    rw [← List.append_assoc, ← e]
    rfl
theorem hits_head {xs ys : List Int} {o : Int} {k n : Nat} (h0 : hits xs ys o k = []) (h : rot xs (o + (k : Int)) = ys) (hk : k < n) : ∃ r, hits xs ys o n = (o + (k : Int)) :: r := by
  obtain ⟨r, e⟩ := hits_more xs ys o (k + 1) (n - (k + 1))
  rw [show k + 1 + (n - (k + 1)) = n by omega, hits_yes h, h0] at e
  exact ⟨r, e⟩
theorem hits_shift (xs ys : List Int) (o : Int) : ∀ k, hits xs ys o k = (hits (rot xs o) ys 0 k).map (o + ·)
  | 0 => rfl
  | k + 1 => by
    have e : rot (rot xs o) (0 + (k : Int)) = rot xs (o + (k : Int)) := by rw [rot_add, show o + (0 + (k : Int)) = o + (k : Int) by omega]
    by_cases q : rot xs (o + (k : Int)) = ys
    · rw [hits_yes q, hits_yes (by rw [e]; exact q), hits_shift xs ys o k, List.map_append]
      simp
    · rw [hits_no q, hits_no (by rw [e]; exact q), hits_shift xs ys o k]
theorem hits_all {xs ys : List Int} {o : Int} : ∀ {k : Nat}, ∀ t ∈ hits xs ys o k, o ≤ t ∧ t < o + (k : Int)
  | 0, t, h => by cases h
  | k + 1, t, h => by
    rw [hits] at h
    rcases List.mem_append.mp h with h | h
    · have := hits_all t h
      omega
    · split at h
      · have := List.mem_singleton.mp h
        omega
      · cases h
theorem hits_len (xs ys : List Int) (o : Int) : ∀ k, (hits xs ys o k).length ≤ k
  | 0 => Nat.le_refl _
  | k + 1 => by
    have := hits_len xs ys o k
    rw [hits, List.length_append]
    split
    · simp only [List.length_singleton]; omega
    · simp only [List.length_nil]; omega
theorem hits_ab {xs ys : List Int} {o : Int} {k : Nat} (h0 : 0 ≤ o) (ho : o ≤ 10) (hk : k ≤ 1000) : Ab 100 (hits xs ys o k) := fun t ht => by
  have := hits_all t ht
  exact Nat.lt_of_lt_of_le (m := 1100) (by omega) (by decide)
/-- the period -/
def perL (ns : List Int) : List Int := hits ns ns 1 ns.length
theorem per_ex {ns : List Int} (h : 1 ≤ ns.length) : ∃ p r, perL ns = p :: r := by
  unfold perL
  cases e : hits ns ns 1 ns.length with
  | cons p r => exact ⟨p, r, rfl⟩
  | nil =>
    exfalso
    obtain ⟨k, hk⟩ : ∃ k, ns.length = k + 1 := ⟨ns.length - 1, by omega⟩
    rw [hk, hits_yes (by rw [show (1 : Int) + (k : Int) = ((k + 1 : Nat) : Int) by omega, ← hk]; exact rot_full ns)] at e
    have := congrArg List.length e
    simp at this

/-! ### rows of new lists -/
inductive Rows (H H' : Hp) : List V → List (List Int) → Prop
  | nil : Rows H H' [] []
  | cons {l : Addr} {m : List Int} {vs : List V} {S : List (List Int)} : H l = none → H' l = some (.lst (m.map V.int)) → Rows H H' vs S → Rows H H' (.ref l :: vs) (m :: S)
theorem Rows.up {H H1 H2 : Hp} {vs : List V} {S : List (List Int)} (h : Rows H H1 vs S) (s : Same H1 H2) : Rows H H2 vs S := by
  induction h with
  | nil => exact .nil
  | cons a b _ ih => exact .cons a (s _ _ b) ih
theorem Rows.down {H0 H H1 : Hp} {vs : List V} {S : List (List Int)} (h : Rows H H1 vs S) (s : Same H0 H) : Rows H0 H1 vs S := by
  induction h with
  | nil => exact .nil
  | cons a b _ ih => exact .cons (s.free a) b ih
theorem Rows.snoc {H H1 : Hp} {vs : List V} {S : List (List Int)} {l : Addr} {m : List Int} (h : Rows H H1 vs S) (a : H l = none) (b : H1 l = some (.lst (m.map V.int))) : Rows H H1 (vs ++ [.ref l]) (S ++ [m]) := by
  induction h with
  | nil => exact .cons a b .nil
  | cons c d _ ih => exact .cons c d ih
theorem Rows.app {H H1 : Hp} {vs ws : List V} {S T : List (List Int)} (h : Rows H H1 vs S) (k : Rows H H1 ws T) : Rows H H1 (vs ++ ws) (S ++ T) := by
  induction h with
  | nil => exact k
  | cons c d _ ih => exact .cons c d ih
theorem Rows.len {H H1 : Hp} {vs : List V} {S : List (List Int)} (h : Rows H H1 vs S) : vs.length = S.length := by
  induction h with
  | nil => rfl
  | cons _ _ _ ih => rw [List.length_cons, List.length_cons, ih]
theorem Rows.dp {K : PySem.W.Frag} {H H1 : Hp} {vs : List V} {S : List (List Int)} (h : Rows H H1 vs S) : DpAll K H1 vs (S.map dI) := by
  induction h with
  | nil => exact .nil
  | cons _ b _ ih => exact .cons (dp_ints (SqL.of b)) ih
theorem Rows.at {H H1 : Hp} {vs : List V} {S : List (List Int)} (h : Rows H H1 vs S) {i : Nat} {v : V} (hv : vs[i]? = some v) : ∃ l m, v = .ref l ∧ S[i]? = some m ∧ H l = none ∧ H1 l = some (.lst (m.map V.int)) := by
  induction h generalizing i with
  | nil => simp at hv
  | cons a b _ ih =>
    cases i with
    | zero =>
      have e := Option.some.inj (show some _ = some _ from hv)
      subst e
      exact ⟨_, _, rfl, rfl, a, b⟩
    | succ i => exact ih (i := i) (by simpa using hv)
theorem take_map_next {f : Nat → List Int} {n i : Nat} (h : i < n) : ((List.range n).map f).take i ++ [f i] = ((List.range n).map f).take (i + 1) := by
  rw [List.take_add_one, List.getElem?_map, List.getElem?_range h]
  rfl
theorem rows_over {H H1 : Hp} {vs : List V} {S : List (List Int)} {D : Addr} {o : HO} (h : Rows H H1 vs S) (k : ∀ l, V.ref l ∈ vs → l ≠ D) : Rows H (upd H1 D o) vs S := by
  induction h with
  | nil => exact .nil
  | cons a b _ ih => exact .cons a (by rw [upd_ne (k _ List.mem_cons_self)]; exact b) (ih fun l hl => k l (List.mem_cons_of_mem _ hl))
theorem Rows.ne {H H1 : Hp} {vs : List V} {S : List (List Int)} {D : Addr} {o : HO} (h : Rows H H1 vs S) (e : H1 D = some (.lst vs)) : ∀ l, V.ref l ∈ vs → l ≠ D := by
  intro l hl z
  subst z
  have : ∀ {ws : List V} {T : List (List Int)}, Rows H H1 ws T → V.ref l ∈ ws → ∃ m : List Int, H1 l = some (.lst (m.map V.int)) := by
    intro ws T h2
    induction h2 with
    | nil => intro z; cases z
    | cons a b _ ih =>
      intro z
      rcases List.mem_cons.mp z with z | z
      · cases z
        exact ⟨_, b⟩
      · exact ih z
  obtain ⟨m, hm⟩ := this h hl
  rw [e] at hm
  have hm : vs = m.map V.int := by
    have := Option.some.inj hm
    injection this
  rw [hm] at hl
  obtain ⟨i, _, z⟩ := List.mem_map.mp hl
  cases z
theorem Rim.of_both {ns m : List Int} (h : Rim ns) (hm : m ∈ bothL ns) : Rim m := by
  obtain ⟨t, rfl | rfl⟩ := (mem_both h.pos).mp hm
  · exact h.rot t
  · exact h.mir.rot t
theorem tank_free {T : Addr} {H H' : Hp} {c d : Int} {p : Addr} (u : But T H H') (k : Tank H T c) (k' : Tank H' T d) (h : H' p = none) : H p = none := by
  obtain ⟨o, e⟩ := k.some
  obtain ⟨o', e'⟩ := k'.some
  exact free_but u e h (by rw [e']; exact fun z => nomatch z)
/-- one of some new lists -/
def OneOf (H H' : Hp) (T : Addr) (n : Nat) (v : V) : Prop := ∃ (l : Addr) (ms : List Int), v = .ref l ∧ H l = none ∧ l ≠ T ∧ H' l = some (.lst (ms.map V.int)) ∧ Rim ms ∧ ms.length = n
theorem OneOf.but {H H1 H2 : Hp} {T : Addr} {n : Nat} {v : V} (h : OneOf H H1 T n v) (u : But T H1 H2) : OneOf H H2 T n v := by
  obtain ⟨l, ms, e, a, b, c, d, f⟩ := h
  exact ⟨l, ms, e, a, b, u _ _ c b, d, f⟩
theorem at_any {xs : List V} {i : Int} (h0 : 0 ≤ i) (h1 : i < xs.length) : ∃ v, v ∈ xs ∧ atI xs i = some v := by
  obtain ⟨j, rfl⟩ : ∃ j : Nat, i = (j : Int) := ⟨i.toNat, by omega⟩
  have h3 : j < xs.length := by omega
  exact ⟨xs[j], List.getElem_mem h3, atI_nat (List.getElem?_eq_getElem h3)⟩
theorem rows_step {H H1 H2 : Hp} {D l : Addr} {vs : List V} {S : List (List Int)} {i : Nat} {m : List Int} (hD : H D = none) (s1 : Same H H1) (hD1 : H1 D = some (.lst vs)) (hr1 : Rows H H1 vs (S.take i)) (s2 : Same H1 H2) (hl : H1 l = none) (hl2 : H2 l = some (.lst (m.map V.int))) (hi : S[i]? = some m) :
    Same H (upd H2 D (.lst (vs ++ [.ref l]))) ∧ Rows H (upd H2 D (.lst (vs ++ [.ref l]))) (vs ++ [.ref l]) (S.take (i + 1)) := by
  refine ⟨same_over (s1.trans s2) hD, ?_⟩
  have nl : l ≠ D := fun e => by
    rw [e, hD1] at hl
    cases hl
  have hr3 := hr1.up s2
  have hr4 := rows_over (o := .lst (vs ++ [.ref l])) hr3 (hr3.ne (o := .lst vs) (s2 _ _ hD1))
  have := hr4.snoc (s1.free hl) (m := m) (by rw [upd_ne nl]; exact hl2)
  rw [List.take_add_one, hi]
  exact this
theorem turns_at {ns : List Int} {i : Nat} (h : i < ns.length) : (turnsL ns)[i]? = some (rot ns (0 + (i : Int))) := by
  unfold turnsL
  rw [List.getElem?_map, List.getElem?_range h, Int.zero_add]
  rfl
theorem rows_fit {H H1 : Hp} {vs : List V} {S : List (List Int)} {i n : Nat} (h : Rows H H1 vs (S.take i)) (hn : S.length = n) (hk : n ≤ 100000) : vs.length < sizeLine := by
  have := h.len
  rw [List.length_take] at this
  exact sz40 (by omega)
/-- the answers, as data -/
def ansD (p hs : List Int) (m m2 : List Int) (x : Bool) : PyData := .list [headD p, headD hs, dI m, dI m2, .bool x]
theorem rp_bl (x : Bool) : RP (.bool x) := ⟨by simp only [PyData.showable], by simp only [PyData.hasDict], by simp only [PyData.canLay0], by simp only [PyData.depth]; omega⟩
theorem depth_head : ∀ l : List Int, (headD l).depth ≤ 1
  | [] => by simp only [headD, PyData.depth]; omega
  | _ :: _ => by simp only [headD, PyData.depth]; omega
theorem shown_head {l : List Int} (h : Ab 100 l) : (headD l).shown.length ≤ 100000 := by
  cases l with
  | nil => decide +kernel
  | cons x r => exact Nat.le_trans (shown_int (Nat.lt_of_lt_of_le (h x List.mem_cons_self) (pow_up (by decide)))) (by decide)
theorem ansD_rp {p hs m m2 : List Int} {x : Bool} (h1 : Ab 100 p) (h2 : Ab 100 hs) (h3 : Rim m) (h4 : Rim m2) : RP (ansD p hs m m2 x) ∧ (ansD p hs m m2 x).shown.length ≤ sizeLine := by
  have d3 := dp_ints_depth h3.abs
  have d4 := dp_ints_depth h4.abs
  refine ⟨((RPs.cons (rp_head h1) (depth_head p) (RPs.cons (rp_head h2) (depth_head hs) (RPs.cons h3.rp d3 (RPs.cons h4.rp d4 (RPs.cons (rp_bl x) (by simp only [PyData.depth]; omega) RPs.nil))))).list (by omega)).1, ?_⟩
  have e := shown_list (B := 100000) (ds := [headD p, headD hs, dI m, dI m2, .bool x]) fun d hd => by
    simp only [List.mem_cons, List.not_mem_nil, or_false] at hd
    rcases hd with rfl | rfl | rfl | rfl | rfl
    · exact shown_head h1
    · exact shown_head h2
    · have := shown_ints h3.abs
      have := h3.le
      omega
    · have := shown_ints h4.abs
      have := h4.le
      omega
    · cases x <;> decide +kernel
  exact fit_le (Nat.le_trans e (by show (100000 + 2) * 5 + 3 ≤ 16000000; decide))
theorem ansD_dp {K : PySem.W.Frag} {H : Hp} {l a b : Addr} {p hs m m2 : List Int} {x : Bool} (h : SqL K H l [headV p, headV hs, .ref a, .ref b, .bl x]) (ha : SqL K H a (m.map V.int)) (hb : SqL K H b (m2.map V.int)) : Dp K H (.ref l) (ansD p hs m m2 x) :=
  .lst h (.cons (dp_head p) (.cons (dp_head hs) (.cons (dp_ints ha) (.cons (dp_ints hb) (.cons (.bl x) .nil)))))
theorem atI_cons {v : V} {vs : List V} : atI (v :: vs) 0 = some v := atI_nat (j := 0) rfl
theorem perL_ab {ns : List Int} (h : ns.length ≤ 40) : Ab 100 (perL ns) := hits_ab (by decide) (by decide) (by omega)
theorem inD {X : Cx} {K : PySem.W.Frag} (h : X.K = K) {k : Nat} (hr : Room k X.A) : OpR X (compareOp .In) (rInD K) := h ▸ op_inD (by have := hr.un; omega)
end Sd

namespace Sd
open PySem PySem.Spec PyProof.Rows L2

/-! ### lights of turned and of mirrored discs -/
def cutAt (l : List Int) (b : Int) : Nat := ((0 - b) % (l.length : Int)).toNat
theorem on_rot {l : List Int} (b : Int) (h : 1 ≤ l.length) : l.drop (cutAt l b) ++ l.take (cutAt l b) = rot l b := by
  have hm := mod_in (i := 0 - b) (show 0 < l.length by omega)
  have hc : ((cutAt l b : Nat) : Int) = (0 - b) % (l.length : Int) := Int.toNat_of_nonneg hm.1
  generalize cutAt l b = c at hc
  have hcl : c < l.length := by omega
  refine ext_getD ?_ fun j hj => ?_
  · rw [List.length_append, List.length_drop, List.length_take, rot_len]
    omega
  · rw [List.length_append, List.length_drop, List.length_take] at hj
    have hj : j < l.length := by omega
    rw [rot_get hj]
    have e : ((j : Int) - b) % (l.length : Int) = ((c : Int) + j) % (l.length : Int) := by
      rw [hc, Int.emod_add_emod]
      exact congrArg (· % (l.length : Int)) (by omega)
    rw [e]
    rw [List.getD_eq_getElem?_getD, List.getD_eq_getElem?_getD]
    by_cases q : j < l.length - c
    · rw [List.getElem?_append_left (by rw [List.length_drop]; exact q), List.getElem?_drop, Int.emod_eq_of_lt (by omega) (by omega)]
      rw [show ((c : Int) + (j : Int)).toNat = c + j by omega]
    · rw [List.getElem?_append_right (by rw [List.length_drop]; omega), List.length_drop, List.getElem?_take_of_lt (by omega)]
      rw [show ((c : Int) + (j : Int)) = ((j - (l.length - c) : Nat) : Int) + (l.length : Int) by omega, Int.add_emod_right, Int.emod_eq_of_lt (by omega) (by omega), Int.toNat_natCast]
theorem sum_rot (l : List Int) (b : Int) : (rot l b).sum = l.sum := by
  by_cases h : 1 ≤ l.length
  · rw [← on_rot b h, List.sum_append, Int.add_comm, ← List.sum_append, List.take_append_drop]
  · have : l = [] := List.length_eq_zero_iff.mp (by omega)
    subst this
    rfl
theorem mir_cut {l : List Int} (h : 1 ≤ l.length) : l.take 1 ++ (l.drop 1).reverse = mir l := by
  refine ext_getD ?_ fun j hj => ?_
  · rw [List.length_append, List.length_reverse, List.length_drop, List.length_take, mir_len]
    omega
  · rw [List.length_append, List.length_reverse, List.length_drop, List.length_take] at hj
    have hj : j < l.length := by omega
    rw [mir_get hj, List.getD_eq_getElem?_getD, List.getD_eq_getElem?_getD]
    by_cases q : j = 0
    · subst q
      rw [List.getElem?_append_left (by rw [List.length_take]; omega), List.getElem?_take_of_lt (by omega)]
      rw [show (-((0 : Nat) : Int)) % (l.length : Int) = 0 by simp]
      rfl
    · rw [List.getElem?_append_right (by rw [List.length_take]; omega), List.length_take, List.getElem?_reverse (by rw [List.length_drop]; omega), List.length_drop, List.getElem?_drop]
      have e : (-(j : Int)) % (l.length : Int) = (l.length : Int) - j := by
        rw [← Int.add_emod_right, Int.emod_eq_of_lt (by omega) (by omega)]
        omega
      rw [e]
      rw [show 1 + (l.length - 1 - 1 - (j - min 1 l.length)) = ((l.length : Int) - (j : Int)).toNat by omega]
theorem sum_mir (l : List Int) : (mir l).sum = l.sum := by
  by_cases h : 1 ≤ l.length
  · rw [← mir_cut h, List.sum_append, List.sum_reverse, ← List.sum_append, List.take_append_drop]
  · have : l = [] := List.length_eq_zero_iff.mp (by omega)
    subst this
    rfl
theorem prods_get {a b : List Int} {j : Nat} (h1 : j < a.length) (h2 : j < b.length) : (prods a b).getD j 0 = a.getD j 0 * b.getD j 0 := getD_at (prods_at (at_getD h1) (at_getD h2))
theorem prods_rot {a b : List Int} (hl : a.length = b.length) (s : Int) : prods (rot a s) (rot b s) = rot (prods a b) s := by
  have lp : (prods a b).length = a.length := by rw [prods_len]; omega
  refine ext_getD (by rw [prods_len, rot_len, rot_len, rot_len, lp]; omega) fun j hj => ?_
  rw [prods_len, rot_len, rot_len] at hj
  have hm := mod_in (i := (j : Int) - s) (show 0 < a.length by omega)
  rw [prods_get (by rw [rot_len]; omega) (by rw [rot_len]; omega), rot_get (by omega), rot_get (by omega), rot_get (by omega), lp, ← hl, prods_get (by omega) (by omega)]
theorem prods_mir {a b : List Int} (hl : a.length = b.length) : prods (mir a) (mir b) = mir (prods a b) := by
  have lp : (prods a b).length = a.length := by rw [prods_len]; omega
  refine ext_getD (by rw [prods_len, mir_len, mir_len, mir_len, lp]; omega) fun j hj => ?_
  rw [prods_len, mir_len, mir_len] at hj
  have hm := mod_in (i := -(j : Int)) (show 0 < a.length by omega)
  rw [prods_get (by rw [mir_len]; omega) (by rw [mir_len]; omega), mir_get (by omega), mir_get (by omega), mir_get (by omega), lp, ← hl, prods_get (by omega) (by omega)]
theorem prods_comm (a b : List Int) : prods a b = prods b a := by
  unfold prods
  exact List.zipWith_comm_of_comm Int.mul_comm
theorem light_rot2 (ns ms : List Int) (b t : Int) : lightV ns (rot ms b) t = lightV ns ms (t + b) := by
  unfold lightV
  rw [rot_add, Int.add_comm]
theorem light_rot1 {ns ms : List Int} (hl : ns.length = ms.length) (b t : Int) : lightV (rot ns b) ms t = lightV ns ms (t - b) := by
  unfold lightV
  rw [show rot ms t = rot (rot ms (t - b)) b by rw [rot_add, show t - b + b = t by omega], prods_rot (by rw [rot_len]; exact hl), sum_rot]
theorem light_mir {ns ms : List Int} (hl : ns.length = ms.length) (t : Int) : lightV (mir ns) (mir ms) t = lightV ns ms (-t) := by
  unfold lightV
  rw [show rot (mir ms) t = mir (rot ms (-t)) by rw [mir_rot, Int.neg_neg], prods_mir (by rw [rot_len]; exact hl), sum_mir]
theorem light_swap {ns ms : List Int} (hl : ns.length = ms.length) (t : Int) : lightV ms ns t = lightV ns ms (-t) := by
  have e := light_rot1 hl t 0
  rw [show (0 : Int) - t = -t by omega] at e
  rw [← e]
  unfold lightV
  rw [rot_zero, prods_comm]
theorem lights_get {ns ms : List Int} {i : Nat} (h : i < ns.length) : (lightsV ns ms).getD i 0 = lightV ns ms (i : Int) := getD_at (lightsV_at h)
theorem lights_getM {ns ms : List Int} (hl : ns.length = ms.length) (h1 : 1 ≤ ns.length) (t : Int) : (lightsV ns ms).getD ((t % (ns.length : Int)).toNat) 0 = lightV ns ms t := by
  have hm := mod_in (i := t) (show 0 < ns.length by omega)
  rw [lights_get (by omega), Int.toNat_of_nonneg hm.1, hl, lightV_mod]
theorem lights_rotG {ns ms as bs : List Int} (hl : ns.length = ms.length) (ha : as.length = ns.length) (b : Int) (h : ∀ t, lightV as bs t = lightV ns ms (t - b)) : lightsV as bs = rot (lightsV ns ms) b := by
  refine ext_getD (by rw [rot_len, lightsV_len, lightsV_len, ha]) fun j hj => ?_
  rw [lightsV_len] at hj
  rw [lights_get hj, rot_get (by rw [lightsV_len]; omega), lightsV_len, lights_getM hl (by omega), h]
theorem lights_mirG {ns ms as bs : List Int} (hl : ns.length = ms.length) (ha : as.length = ns.length) (h : ∀ t, lightV as bs t = lightV ns ms (-t)) : lightsV as bs = mir (lightsV ns ms) := by
  refine ext_getD (by rw [mir_len, lightsV_len, lightsV_len, ha]) fun j hj => ?_
  rw [lightsV_len] at hj
  rw [lights_get hj, mir_get (by rw [lightsV_len]; omega), lightsV_len, lights_getM hl (by omega), h]
theorem lights_rot2 {ns ms : List Int} (hl : ns.length = ms.length) (b : Int) : lightsV ns (rot ms b) = rot (lightsV ns ms) (0 - b) :=
  lights_rotG hl rfl _ fun t => by rw [light_rot2, show t - (0 - b) = t + b by omega]
theorem lights_rot1 {ns ms : List Int} (hl : ns.length = ms.length) (b : Int) : lightsV (rot ns b) ms = rot (lightsV ns ms) b :=
  lights_rotG hl (rot_len _ _) _ fun t => light_rot1 hl b t
theorem lights_both {ns ms : List Int} (hl : ns.length = ms.length) (b : Int) : lightsV (rot ns b) (rot ms b) = lightsV ns ms := by
  have := lights_rotG (as := rot ns b) (bs := rot ms b) hl (rot_len _ _) 0 fun t => by rw [light_rot2, light_rot1 hl, show t + b - b = t - 0 by omega]
  rw [this, rot_zero]
theorem lights_mir {ns ms : List Int} (hl : ns.length = ms.length) : lightsV (mir ns) (mir ms) = mir (lightsV ns ms) := lights_mirG hl (mir_len _) fun t => light_mir hl t
theorem lights_swap {ns ms : List Int} (hl : ns.length = ms.length) : lightsV ms ns = mir (lightsV ns ms) := lights_mirG hl hl.symm fun t => light_swap hl t
theorem steps_rot2 (ns ms : List Int) (b f st : Int) (k : Nat) : stepsV ns (rot ms b) f st k = stepsV ns ms (f + b) st k := by
  unfold stepsV
  refine List.map_congr_left fun i _ => ?_
  rw [light_rot2, show f + st * (i : Int) + b = f + b + st * (i : Int) by omega]
theorem far_rot2 {ns ms : List Int} (hl : ns.length = ms.length) (b f st N : Int) : farV ns (rot ms b) f st N = farV ns ms ((f + b) % (ns.length : Int)) st N := by
  unfold farV
  rw [steps_rot2, hl, stepsV_mod]

/-! ### the period -/
theorem hits_congr {xs ys xs' ys' : List Int} {o : Int} (h : ∀ t, rot xs t = ys ↔ rot xs' t = ys') : ∀ k, hits xs ys o k = hits xs' ys' o k
  | 0 => rfl
  | k + 1 => by
    by_cases q : rot xs (o + (k : Int)) = ys
    · rw [hits_yes q, hits_yes ((h _).mp q), hits_congr h k]
    · rw [hits_no q, hits_no (fun z => q ((h _).mpr z)), hits_congr h k]
theorem hits_first {xs ys : List Int} {o p : Int} {r : List Int} : ∀ {k : Nat}, hits xs ys o k = p :: r → rot xs p = ys ∧ o ≤ p ∧ p < o + (k : Int) ∧ ∀ t, o ≤ t → t < p → ¬ rot xs t = ys
  | 0, h => by cases h
  | k + 1, h => by
    by_cases q : rot xs (o + (k : Int)) = ys
    · rw [hits_yes q] at h
      cases e : hits xs ys o k with
      | nil =>
        rw [e] at h
        have hp := (List.cons.inj h).1
        subst hp
        refine ⟨q, by omega, by omega, fun t h1 h2 z => ?_⟩
        have : ∀ {k : Nat} {t : Int}, o ≤ t → t < o + (k : Int) → rot xs t = ys → hits xs ys o k ≠ [] := by
            intro k
            induction k with
            | zero => intro t a b _; omega
            | succ k ih =>
              intro t a b z e
              by_cases c : t = o + (k : Int)
              · subst c
                rw [hits_yes z] at e
                have := congrArg List.length e
                simp at this
              · refine ih a (by omega) z ?_
                rw [hits] at e
                exact (List.append_eq_nil_iff.mp e).1
        exact this h1 h2 z e
      | cons p' r' =>
        rw [e] at h
        have hp : p' = p := (List.cons.inj h).1
        subst hp
        obtain ⟨a, b, c, d⟩ := hits_first (k := k) e
        exact ⟨a, b, by omega, d⟩
    · rw [hits_no q] at h
      obtain ⟨a, b, c, d⟩ := hits_first (k := k) h
      exact ⟨a, b, by omega, d⟩
theorem hits_ex {xs ys : List Int} {o t : Int} : ∀ {k : Nat}, o ≤ t → t < o + (k : Int) → rot xs t = ys → ∃ p r, hits xs ys o k = p :: r
  | 0, a, b, _ => by omega
  | k + 1, a, b, z => by
    by_cases c : t = o + (k : Int)
    · subst c
      rw [hits_yes z]
      cases hits xs ys o k with
      | nil => exact ⟨_, _, rfl⟩
      | cons p r => exact ⟨_, _, rfl⟩
    · obtain ⟨p, r, e⟩ := hits_ex (k := k) a (by omega) z
      rw [hits, e]
      exact ⟨_, _, rfl⟩
theorem rot_inj {ns : List Int} {s t : Int} (h : rot ns s = rot ns t) : rot ns (s - t) = ns := by
  have e := congrArg (fun l => rot l (0 - t)) h
  simp only [rot_add] at e
  rw [show t + (0 - t) = 0 by omega, rot_zero, show s + (0 - t) = s - t by omega] at e
  exact e
/-- what the period is -/
structure Per (ns : List Int) (p : Int) : Prop where
  fix : rot ns p = ns
  pos : 1 ≤ p
  le : p ≤ ns.length
  low : ∀ t, 1 ≤ t → t < p → ¬ rot ns t = ns
theorem per_of {ns : List Int} {p : Int} {r : List Int} (h : perL ns = p :: r) : Per ns p := by
  unfold perL at h
  obtain ⟨a, b, c, d⟩ := hits_first h
  exact ⟨a, b, by omega, d⟩
theorem Per.mul {ns : List Int} {p : Int} (h : Per ns p) : ∀ q : Nat, rot ns (p * (q : Int)) = ns
  | 0 => by rw [show p * ((0 : Nat) : Int) = 0 by simp, rot_zero]
  | q + 1 => by
    rw [show p * ((q + 1 : Nat) : Int) = p * (q : Int) + p by rw [Int.natCast_succ, Int.mul_add, Int.mul_one], ← rot_add, h.mul q, h.fix]
theorem Per.mulZ {ns : List Int} {p : Int} (h : Per ns p) (q : Int) : rot ns (p * q) = ns := by
  rcases Int.eq_nat_or_neg q with ⟨k, e | e⟩
  · rw [e]
    exact h.mul k
  · have e2 := rot_inj (ns := ns) (s := 0) (t := p * (k : Int)) (by rw [rot_zero, h.mul k])
    rw [show (0 : Int) - p * (k : Int) = p * q by rw [e, Int.mul_neg]; omega] at e2
    exact e2
theorem Per.mod {ns : List Int} {p : Int} (h : Per ns p) (t : Int) : rot ns (t % p) = rot ns t := by
  have e := Int.mul_ediv_add_emod t p
  have e2 : rot (rot ns (p * (t / p))) (t % p) = rot ns t := by rw [rot_add, e]
  rw [h.mulZ] at e2
  exact e2
theorem Per.zero {ns : List Int} {p : Int} (h : Per ns p) {t : Int} (e : rot ns t = ns) : t % p = 0 := by
  have hp := h.pos
  have a := Int.emod_nonneg t (show p ≠ 0 by omega)
  have b := Int.emod_lt_of_pos t (show 0 < p by omega)
  rw [← h.mod] at e
  by_cases c : 1 ≤ t % p
  · exact absurd e (h.low _ c b)
  · omega
theorem Per.dvd {ns : List Int} {p : Int} (h : Per ns p) : (ns.length : Int) % p = 0 := h.zero (rot_full ns)
/-- the least turn from one to the other lies below the period -/
theorem Per.first {ns ms : List Int} {p q : Int} {r : List Int} {k : Nat} (h : Per ns p) (e : hits ns ms 0 k = q :: r) : 0 ≤ q ∧ q < p ∧ rot ns q = ms := by
  obtain ⟨a, b, _, d⟩ := hits_first e
  have hp := h.pos
  have m0 := Int.emod_nonneg q (show p ≠ 0 by omega)
  have m1 := Int.emod_lt_of_pos q (show 0 < p by omega)
  refine ⟨b, ?_, a⟩
  by_cases c : q < p
  · exact c
  · exact absurd (by rw [h.mod]; exact a) (d (q % p) m0 (by omega))
theorem Per.between {ns : List Int} {p q b : Int} {r : List Int} {k : Nat} (h : Per ns p) (e : hits ns (rot ns b) 0 k = q :: r) : q = b % p := by
  obtain ⟨q0, q1, q2⟩ := h.first e
  have z := h.zero (rot_inj q2)
  have e2 : q % p = b % p := Int.emod_eq_emod_iff_emod_sub_eq_zero.mpr z
  rw [Int.emod_eq_of_lt q0 q1] at e2
  exact e2
theorem per_rot {ns : List Int} (b : Int) : perL (rot ns b) = perL ns := by
  unfold perL
  rw [rot_len]
  refine hits_congr (fun t => ?_) _
  rw [rot_add]
  constructor
  · intro h
    have := rot_inj h
    rw [show b + t - b = t by omega] at this
    exact this
  · intro h
    rw [show b + t = t + b by omega, ← rot_add, h]
theorem per_mir {ns : List Int} : perL (mir ns) = perL ns := by
  unfold perL
  rw [mir_len]
  refine hits_congr (fun t => ?_) _
  have key : ∀ {xs : List Int} {t : Int}, rot xs t = xs → rot (mir xs) t = mir xs := fun {xs t} h => by
    have e := congrArg mir h
    rw [mir_rot] at e
    have e2 := rot_inj (ns := mir xs) (s := 0) (t := -t) (by rw [rot_zero, e])
    rw [show (0 : Int) - -t = t by omega] at e2
    exact e2
  constructor
  · intro h
    have := key h
    rw [mir_mir] at this
    exact this
  · exact key

/-! ### sorted lists -/
theorem sorted_eq : ∀ {a b : List Int}, a.Perm b → a.Pairwise (· ≤ ·) → b.Pairwise (· ≤ ·) → a = b
  | [], b, p, _, _ => (List.nil_perm.mp p).symm
  | x :: a, b, p, ha, hb => by
    cases b with
    | nil => exact absurd p.length_eq (by simp)
    | cons y b =>
      have h1 := List.pairwise_cons.mp ha
      have h2 := List.pairwise_cons.mp hb
      have e : x = y := by
        rcases List.mem_cons.mp (p.mem_iff.mp List.mem_cons_self) with e | e
        · exact e
        · rcases List.mem_cons.mp (p.mem_iff.mpr List.mem_cons_self) with e' | e'
          · exact e'.symm
          · have := h1.1 y e'
            have := h2.1 x e
            omega
      subst e
      rw [sorted_eq p.cons_inv h1.2 h2.2]
theorem perm_mem : ∀ {a b : List Int}, a.Nodup → b.Nodup → (∀ x, x ∈ a ↔ x ∈ b) → a.Perm b
  | [], b, _, _, h => by
    cases b with
    | nil => exact .nil
    | cons y b => exact absurd ((h y).mpr List.mem_cons_self) (List.not_mem_nil)
  | x :: a, b, ha, hb, h => by
    have h1 := List.nodup_cons.mp ha
    have hx : x ∈ b := (h x).mp List.mem_cons_self
    have p := List.perm_cons_erase hx
    refine List.Perm.trans (List.Perm.cons x (perm_mem h1.2 (hb.erase x) fun y => ?_)) p.symm
    rw [hb.mem_erase_iff]
    constructor
    · intro hy
      exact ⟨fun e => h1.1 (by rw [← e]; exact hy), (h y).mp (List.mem_cons_of_mem _ hy)⟩
    · rintro ⟨n, hy⟩
      rcases List.mem_cons.mp ((h y).mpr hy) with e | e
      · exact absurd e n
      · exact e
theorem mem_places {p : Int → Bool} {ns : List Int} {k : Nat} {x : Int} : x ∈ places p ns k ↔ ∃ i : Nat, x = (i : Int) ∧ i < k ∧ p (ns.getD i 0) = true := by
  unfold places
  constructor
  · intro h
    obtain ⟨i, hi, rfl⟩ := List.mem_map.mp h
    have := List.mem_filter.mp hi
    exact ⟨i, rfl, List.mem_range.mp this.1, this.2⟩
  · rintro ⟨i, rfl, h1, h2⟩
    exact List.mem_map.mpr ⟨i, List.mem_filter.mpr ⟨List.mem_range.mpr h1, h2⟩, rfl⟩
theorem places_sorted (p : Int → Bool) (ns : List Int) (k : Nat) : (places p ns k).Pairwise (· < ·) := by
  unfold places
  rw [List.pairwise_map]
  refine List.Pairwise.imp (fun {a b} h => by show (a : Int) < (b : Int); omega) (List.Pairwise.filter _ List.pairwise_lt_range)
theorem nodup_lt {l : List Int} (h : l.Pairwise (· < ·)) : l.Nodup := List.Pairwise.imp (fun {a b} h e => by omega) h
/-- the brightest turns of the turned one -/
theorem brights_rot {ns ms : List Int} (hl : ns.length = ms.length) (h1 : 1 ≤ ns.length) (b m : Int) {s : List Int}
    (hp : s.Perm ((places (fun x => decide (x = m)) (lightsV ns ms) ns.length).map fun one => (one - b) % (ns.length : Int))) (hs : s.Pairwise (· ≤ ·)) :
    places (fun x => decide (x = m)) (lightsV ns (rot ms b)) ns.length = s := by
  refine sorted_eq (List.Perm.trans (perm_mem (nodup_lt (places_sorted _ _ _)) ?_ fun x => ?_) hp.symm) (List.Pairwise.imp (fun {a b} h => by omega) (places_sorted _ _ _)) hs
  · rw [List.Nodup, List.pairwise_map]
    refine List.Pairwise.imp_of_mem (fun {x y} hx hy hxy e => ?_) (places_sorted _ _ _)
    obtain ⟨i, rfl, hi, _⟩ := mem_places.mp hx
    obtain ⟨j, rfl, hj, _⟩ := mem_places.mp hy
    have e2 := Int.emod_eq_emod_iff_emod_sub_eq_zero.mp e
    rw [show (i : Int) - b - ((j : Int) - b) = (i : Int) - j by omega] at e2
    have e3 := Int.emod_eq_emod_iff_emod_sub_eq_zero.mpr e2
    rw [Int.emod_eq_of_lt (by omega) (by omega), Int.emod_eq_of_lt (by omega) (by omega)] at e3
    omega
  · rw [mem_places, List.mem_map]
    constructor
    · rintro ⟨i, rfl, hi, hq⟩
      have hm := mod_in (i := (i : Int) + b) (show 0 < ns.length by omega)
      refine ⟨((i : Int) + b) % (ns.length : Int), mem_places.mpr ⟨(((i : Int) + b) % (ns.length : Int)).toNat, by omega, by omega, ?_⟩, ?_⟩
      · rw [lights_getM hl h1]
        rw [lights_get hi, light_rot2] at hq
        exact hq
      · rw [Int.emod_sub_emod, show (i : Int) + b - b = i by omega, Int.emod_eq_of_lt (by omega) (by omega)]
    · rintro ⟨x', hx, rfl⟩
      obtain ⟨i, rfl, hi, hq⟩ := mem_places.mp hx
      have hm := mod_in (i := (i : Int) - b) (show 0 < ns.length by omega)
      refine ⟨(((i : Int) - b) % (ns.length : Int)).toNat, by omega, by omega, ?_⟩
      rw [lights_get (by omega), Int.toNat_of_nonneg hm.1, light_rot2]
      rw [lights_get hi] at hq
      rw [← lightV_mod, ← hl, Int.emod_add_emod, hl, lightV_mod, show (i : Int) - b + b = i by omega]
      exact hq
end Sd

namespace Sd
open PySem PySem.Spec PyProof.Rows L2

/-! ### x <= y of lists of ints; x in a tuple of such; sorted; x in a list of ints; xs[:0:-1] -/
def rLeI (K : PySem.W.Frag) : R2 := fun x y H Q => ∃ a b, Dp K H x (dI a) ∧ Dp K H y (dI b) ∧ Q (.bl (!LtI b a)) H
theorem op_leI {X : Cx} {K : PySem.W.Frag} (hK : X.K = K) {k : Nat} (hr : Room k X.A) : OpR X (compareOp .LtE) (rLeI K) := by
  subst hK
  intro pins s σ H x y v u Q I rx ry h
  obtain ⟨a, b, hx, hy, q⟩ := h
  obtain ⟨as, r1⟩ := Dp.reads I _ x v hx rx
  obtain ⟨bs, r2⟩ := Dp.reads I _ y u hy ry
  have hu := hr.un
  have h1 := depth_dI a
  refine PySem.W.le_data r1 r2 (alike_dI a b) (by unfold dI; exact fun z => nomatch z) ?_ ⟨.bl _, H, I, rfl, q⟩
  have := Nat.min_le_left (dI a).depth (dI b).depth
  omega
theorem lay_ints : ∀ a : List Int, PyData.canLayAll0 (a.map PyData.int) = true
  | [] => by simp only [List.map_nil, PyData.canLayAll0]
  | x :: a => by simp only [List.map_cons, PyData.canLayAll0, PyData.canLay0, lay_ints a, Bool.and_self]
theorem lay_dI (a : List Int) : (dI a).canLay0 = true := by
  unfold dI
  simp only [PyData.canLay0, lay_ints]
theorem lay_dIs : ∀ S : List (List Int), PyData.canLayAll0 (S.map dI) = true
  | [] => by simp only [List.map_nil, PyData.canLayAll0]
  | x :: a => by simp only [List.map_cons, PyData.canLayAll0, lay_dI, lay_dIs a, Bool.and_self]
def rInT (K : PySem.W.Frag) : R2 := fun x y H Q => ∃ (m : List Int) (S : List (List Int)), Dp K H x (dI m) ∧ Dp K H y (.tuple (S.map dI)) ∧ Q (.bl (decide (m ∈ S))) H
theorem op_inT {X : Cx} {K : PySem.W.Frag} (hK : X.K = K) {k : Nat} (hr : Room k X.A) : OpR X (compareOp .In) (rInT K) := by
  subst hK
  intro pins s σ H x y v u Q I rx ry h
  obtain ⟨m, S, hx, hy, q⟩ := h
  obtain ⟨as, r1⟩ := Dp.reads I _ x v hx rx
  obtain ⟨bs, r2⟩ := Dp.reads I _ y u hy ry
  have hu := hr.un
  have h1 := depthAll_dI S
  refine SeqAt.in_tuple_reads r2 r1 (lay_dIs S) (lay_dI m) ?_ ?_
  · have := Nat.min_le_left (PyData.depthAll (S.map dI)) (dI m).depth
    omega
  · rw [any_dI]
    exact ⟨.bl _, H, I, rfl, q⟩
theorem sortedL {X : Cx} {K : PySem.W.Frag} (h : X.K = K) : CallR X (.builtin "sorted") (rSorted K) := h ▸ cr_sorted
theorem inL {X : Cx} {K : PySem.W.Frag} (h : X.K = K) : OpR X (compareOp .In) (rIn K false) := h ▸ op_in_seq
theorem flat_ints (l : List Int) : (l.map V.int).all flatV = true := by
  rw [List.all_eq_true]
  intro x hx
  obtain ⟨i, _, rfl⟩ := List.mem_map.mp hx
  rfl
theorem inV_int (x : Int) (l : List Int) : inV (.int x) (l.map V.int) = decide (x ∈ l) := by
  unfold inV
  induction l with
  | nil => rfl
  | cons y l ih =>
    rw [List.map_cons, List.any_cons, ih]
    have e : eqV (.int y) (.int x) = decide (x = y) := by
      show (y == x) = decide (x = y)
      by_cases c : x = y
      · subst c
        simp
      · have c2 : ¬ y = x := fun z => c z.symm
        simp [c, c2]
    rw [e]
    by_cases c : x = y
    · simp [c]
    · simp [c]
theorem back_pick (items : Array Value) (h : 1 ≤ items.size) : slicePick items none (some 0) (some (-1)) = (items.toList.drop 1).reverse.toArray := by
  obtain ⟨m, hm⟩ : ∃ m, items.size = m + 1 := ⟨items.size - 1, by omega⟩
  have hb : sliceBounds none (some 0) (some (-1)) items.size = ((items.size : Int) - 1, 0, -1) := by
    simp only [sliceBounds, Option.getD_some]
    refine Prod.ext rfl (Prod.ext ?_ rfl)
    show max (-1) (min (if (0 : Int) < 0 then _ else 0) ((items.size : Int) - 1)) = 0
    rw [if_neg (by omega)]
    omega
  have hr : sliceRange ((items.size : Int) - 1) 0 (-1) = (List.range m).map fun k => items.size - 1 - k := by
    unfold sliceRange
    have h1 : ¬ ((-1 : Int) > 0) := by decide
    rw [if_neg h1]
    have e : (if ((items.size : Int) - 1) > 0 then ((items.size : Int) - 1 - 0 - -1 - 1) / (- -1) else 0) = (m : Int) := by
      rw [show (- -1 : Int) = 1 by decide, Int.ediv_one]
      split <;> omega
    rw [e]
    show (List.range ((m : Int)).toNat).map (fun (k : Nat) => ((items.size : Int) - 1 + -1 * (k : Int)).toNat) = _
    rw [Int.toNat_natCast]
    refine List.map_congr_left fun k hk => ?_
    have := List.mem_range.mp hk
    show ((items.size : Int) - 1 + -1 * (k : Int)).toNat = _
    omega
  have full : ((List.range (m + 1)).map fun k => items.size - 1 - k).filterMap (items[·]?) = items.toList.reverse := by
    rw [← hm, PySem.W.krv_range, List.filterMap_reverse, PySem.W.krv_all]
  rw [List.range_succ, List.map_append, List.filterMap_append] at full
  unfold slicePick
  rw [hb]
  show ((sliceRange ((items.size : Int) - 1) 0 (-1)).filterMap (items[·]?)).toArray = _
  rw [hr]
  refine congrArg List.toArray ?_
  cases hl : items.toList with
  | nil =>
    have := congrArg List.length hl
    rw [Array.length_toList, hm] at this
    exact absurd this (by simp)
  | cons x r =>
    have h0 : items[(0 : Nat)]? = some x := by
      rw [← Array.getElem?_toList, hl]
      rfl
    rw [hl, List.reverse_cons] at full
    have e1 : ([m].map fun k => items.size - 1 - k).filterMap (items[·]?) = [x] := by
      show [items.size - 1 - m].filterMap (items[·]?) = [x]
      rw [show items.size - 1 - m = 0 by omega]
      rw [List.filterMap_cons, h0]
      rfl
    rw [e1] at full
    exact List.append_cancel_right full
def tBack (K : PySem.W.Frag) (te : TE) : TE := fun σ H Q => te σ H fun x H1 => ∃ a xs, x = .ref a ∧ SqL K H1 a xs ∧ 1 ≤ xs.length ∧ ∀ p, H1 p = none → Q (.ref p) (upd H1 p (.lst (xs.drop 1).reverse))
theorem pe_back {X : Cx} {K : PySem.W.Frag} (hK : X.K = K) {e : Expr} {te : TE} {k k2 : Nat} {p1 p2 p3 p4 pos : Pos} (he : PE X e te) :
    PE X (.Subscript e (.Slice none (some (.Constant (.int 0) k2 p4)) (some (.UnaryOp .USub (.Constant (.int 1) k p1) p2)) p3) pos) (tBack K te) := by
  subst hK
  have hst : PO X (some (.UnaryOp .USub (.Constant (.int 1) k p1) p2)) (tPart (tUn (rU fun i => .int (-i)) (tC (.int 1)))) := po_some (pe_un un_neg pe_int)
  have hup : PO X (some (.Constant (.int 0) k2 p4)) (tPart (tC (.int 0))) := po_some pe_int
  refine ⟨fun pins s σ H Q I h => Subscript_ (thn (he.run pins s σ H _ I h) fun v s1 ⟨x, H1, I1, r1, a, xs, ex, hx, h1, q⟩ => ?_)⟩
  subst ex
  cases r1
  refine wpAny_Slice (thn (po_none.run pins s1 σ H1 (fun o G => o = none ∧ G = H1) I1 ⟨rfl, rfl⟩) fun vl s2 ⟨l, H2, I2, pl, el, e2⟩ => thn (hup.run pins s2 σ H2 (fun o G => o = some 0 ∧ G = H2) I2 ⟨0, rfl, rfl, rfl⟩) fun vu s3 ⟨u, H3, I3, pu, eu, e3⟩ =>
    thn (hst.run pins s3 σ H3 (fun o G => o = some (-1) ∧ G = H3) I3 ⟨1, rfl, -1, rfl, rfl, rfl⟩) fun vs s4 ⟨o, H4, I4, ps, eo, e4⟩ => ?_)
  subst el e2 eu e3 eo e4
  have I5 : Inv X pins σ H4 { s4 with heap := s4.heap.push { cls := .type "slice", data := .fields #[vl, vu, vs] } } := I4.kept (t' := s4.toks) fun b ob z => Heap.get?_push_of_some _ z
  obtain ⟨its, r, ht, hz⟩ := I5.list hx
  have hlen := r.length
  show wpAny (model X.prog X.w) X.A (subscriptTail e (.Slice none (some (.Constant (.int 0) k2 p4)) (some (.UnaryOp .USub (.Constant (.int 1) k p1) p2)) p3) (.ref a) (.ref s4.heap.objs.size)) (EP X pins σ Q) X.xe _
  refine tail_any (ops := [.ref a, .ref s4.heap.objs.size]) ht.isList.typeIs PySem.slot_list_getitem.lookup (wpAny_getItem_list_slice ht.isList (Heap.IsSliceOf.new _ vl vu vs) pl pu ps (by decide) ?_ (by rw [List.size_toArray]; omega)) (by with_unfolding_all rfl)
  rw [back_pick _ (by rw [List.size_toArray]; omega)]
  refine ⟨.ref _, _, I5.laid (t' := s4.toks) (o := .lst (xs.drop 1).reverse) (fun b ob z => Heap.get?_push_of_some _ z) (Nat.le_refl _) ⟨?_, _, 0, (r.drop 1).reverse, Heap.get?_push_size _ rfl⟩, rfl, q _ (I5.hok.fresh (Nat.le_refl _))⟩
  rw [List.length_reverse, List.length_drop]
  omega
end Sd

namespace Sd
open PySem PySem.Spec PyProof.Rows L2

/-! ### data of any kind, with empty dicts -/
mutual
inductive Dq (H : Hp) : V → PyData → Prop
  | non : Dq H .non .none
  | bl (b : Bool) : Dq H (.bl b) (.bool b)
  | int (i : Int) : Dq H (.int i) (.int i)
  | str (x : Str) : Dq H (.str x) (.str x)
  | lst {a : Addr} {xs : List V} {ds : List PyData} : H a = some (.lst xs) → DqAll H xs ds → Dq H (.ref a) (.list ds)
  | tup {a : Addr} {xs : List V} {ds : List PyData} : H a = some (.tup xs) → DqAll H xs ds → Dq H (.ref a) (.tuple ds)
  | emp {a : Addr} : H a = some (.dK []) → Dq H (.ref a) (.dict [])
inductive DqAll (H : Hp) : List V → List PyData → Prop
  | nil : DqAll H [] []
  | cons {v : V} {vs : List V} {d : PyData} {ds : List PyData} : Dq H v d → DqAll H vs ds → DqAll H (v :: vs) (d :: ds)
end
mutual
theorem Dq.same {H H' : Hp} (s : Same H H') : ∀ {v : V} {d : PyData}, Dq H v d → Dq H' v d
  | _, _, .non => .non
  | _, _, .bl b => .bl b
  | _, _, .int i => .int i
  | _, _, .str x => .str x
  | _, _, .lst h1 h2 => .lst (s _ _ h1) (DqAll.same s h2)
  | _, _, .tup h1 h2 => .tup (s _ _ h1) (DqAll.same s h2)
  | _, _, .emp h => .emp (s _ _ h)
theorem DqAll.same {H H' : Hp} (s : Same H H') : ∀ {vs : List V} {ds : List PyData}, DqAll H vs ds → DqAll H' vs ds
  | _, _, .nil => .nil
  | _, _, .cons h1 h2 => .cons (Dq.same s h1) (DqAll.same s h2)
end
section
variable {X : Cx} {pins : List (Addr × Obj)} {σ : L2.St} {H : Hp} {s : Shared}
theorem emp_reads (I : Inv X pins σ H s) {a : Addr} (h : H a = some (.dK [])) : Reads s.heap (.ref a) (.dict []) (a :: [] ++ []) ∧ sysModules ∉ (a :: [] ++ [] : List Addr) ∧ s.TypeIs (.ref a) "dict" := by
  obtain ⟨_, hsys, vs, kv, o, es, ep, e, ex, ed, _, pr, _⟩ := (show ObjOk X.prog X.w H s.heap a (.dK []) from I.hok a _ h)
  cases kv
  have he : es.toList = [] := by
    cases hl : es.toList with
    | nil => rfl
    | cons x l =>
      rw [hl] at pr
      cases pr
  refine ⟨.dict e ex.1 ed ?_ ?_, ?_, ⟨o, e, ex.1⟩⟩
  · rw [he]
    exact .nil
  · rw [he]
    exact .nil
  · intro z
    simp only [List.append_nil, List.mem_cons, List.not_mem_nil, or_false] at z
    rw [← z] at hsys
    exact absurd hsys (by decide)
mutual
theorem reprK_q (I : Inv X pins σ H s) : ∀ (d : PyData) (v : V) (u : Value), Dq H v d → RelV v u → d.showable = true → d.shown.length ≤ sizeLine →
    ∃ as bs, Reads s.heap u d as ∧ ReadAtMost s.heap d.depth bs ∧ ReprK X.prog X.w bs s.heap d.depth u d.shown
  | .none, _, u, q, r, hs, hz => by
    cases q
    cases r
    obtain ⟨bs, h1, h2⟩ := ReprK.of_reads (prog := X.prog) (w := X.w) (Reads.none (h := s.heap)) hs (fun z => by simp only [PyData.hasDict] at z; cases z) hz
    exact ⟨_, bs, .none, h1, h2⟩
  | .bool b, _, u, q, r, hs, hz => by
    cases q
    cases r
    obtain ⟨bs, h1, h2⟩ := ReprK.of_reads (prog := X.prog) (w := X.w) (Reads.bool (h := s.heap) b) hs (fun z => by simp only [PyData.hasDict] at z; cases z) hz
    exact ⟨_, bs, .bool b, h1, h2⟩
  | .int i, _, u, q, r, hs, hz => by
    cases q
    obtain ⟨t, rfl⟩ := r
    obtain ⟨bs, h1, h2⟩ := ReprK.of_reads (prog := X.prog) (w := X.w) (Reads.int (h := s.heap) i t) hs (fun z => by simp only [PyData.hasDict] at z; cases z) hz
    exact ⟨_, bs, .int i t, h1, h2⟩
  | .str x, _, u, q, r, hs, hz => by
    cases q
    obtain ⟨t, rfl⟩ := r
    obtain ⟨bs, h1, h2⟩ := ReprK.of_reads (prog := X.prog) (w := X.w) (Reads.str (h := s.heap) x t) hs (fun z => by simp only [PyData.hasDict] at z; cases z) hz
    exact ⟨_, bs, .str x t, h1, h2⟩
  | .dict kvs, _, u, q, r, hs, hz => by
    cases q with
    | emp h =>
      cases r
      obtain ⟨rd, ns, _⟩ := emp_reads I h
      obtain ⟨bs, h1, h2⟩ := ReprK.of_reads (prog := X.prog) (w := X.w) rd hs (fun _ => ns) hz
      exact ⟨_, bs, rd, h1, h2⟩
  | .list ds, _, u, q, r, hs, hz => by
    cases q with
    | lst h hq =>
      cases r
      obtain ⟨_, its, n, rv, e⟩ := (show ObjOk X.prog X.w H s.heap _ (.lst _) from I.hok _ _ h)
      have hz2 : (listText (PyData.shownAll ds)).length ≤ sizeLine := by simpa only [PyData.shown] using hz
      obtain ⟨as, bs, ra, hb, hk⟩ := reprAllK_q I ds _ its hq rv (by simpa [PyData.showable] using hs) fun t ht => Nat.le_trans (listText_mem_le ht) hz2
      have rd : Reads s.heap (.ref _) (.list ds) _ := .list e rfl rfl ra
      have hna := not_mem_of_deeper rd (by simp only [PyData.depth]; omega) hb
      refine ⟨_, _, rd, ReadAtMost.cons rd (by simp only [PyData.depth]; omega) hb, ?_⟩
      simp only [PyData.depth, PyData.shown]
      cases its with
      | nil =>
        cases ra
        simp only [PyData.shownAll, listText_nil]
        exact ReprK.listEmpty e rfl rfl
      | cons y l => exact ReprK.list e rfl rfl hna (by simpa using hk.length_eq) fun i y e => hk.item i y (by simpa using e)
  | .tuple ds, _, u, q, r, hs, hz => by
    cases q with
    | tup h hq =>
      cases r
      obtain ⟨_, its, rv, o, e, hc, n, hd⟩ := (show ObjOk X.prog X.w H s.heap _ (.tup _) from I.hok _ _ h)
      have hz2 : (tupleText (PyData.shownAll ds)).length ≤ sizeLine := by simpa only [PyData.shown] using hz
      obtain ⟨as, bs, ra, hb, hk⟩ := reprAllK_q I ds _ its hq rv (by simpa [PyData.showable] using hs) fun t ht => Nat.le_trans (tupleText_mem_le ht) hz2
      have rd : Reads s.heap (.ref _) (.tuple ds) _ := .tuple e hc hd ra
      have hna := not_mem_of_deeper rd (by simp only [PyData.depth]; omega) hb
      refine ⟨_, _, rd, ReadAtMost.cons rd (by simp only [PyData.depth]; omega) hb, ?_⟩
      simp only [PyData.depth, PyData.shown]
      exact ReprK.tuple e hc hd hna hk
theorem reprAllK_q (I : Inv X pins σ H s) : ∀ (ds : List PyData) (vs : List V) (us : List Value), DqAll H vs ds → Vals vs us → PyData.showableAll ds = true → (∀ t ∈ PyData.shownAll ds, t.length ≤ sizeLine) →
    ∃ as bs, ReadsAll s.heap us ds as ∧ ReadAtMost s.heap (PyData.depthAll ds) bs ∧ ReprAllK X.prog X.w bs s.heap (PyData.depthAll ds) us (PyData.shownAll ds)
  | [], _, us, q, r, _, _ => by
    cases q
    cases r
    exact ⟨[], [], .nil, (fun _ h => nomatch h), by simp only [PyData.shownAll]; exact .nil⟩
  | d :: ds, _, us, q, r, hs, hz => by
    cases q with
    | cons q1 q2 =>
      cases r with
      | cons r1 r2 =>
        have hs2 : d.showable = true ∧ PyData.showableAll ds = true := by simpa [PyData.showableAll] using hs
        obtain ⟨a1, b1, x1, y1, k1⟩ := reprK_q I d _ _ q1 r1 hs2.1 (hz _ (by simp only [PyData.shownAll]; exact List.mem_cons_self))
        obtain ⟨a2, b2, x2, y2, k2⟩ := reprAllK_q I ds _ _ q2 r2 hs2.2 fun t ht => hz t (by simp only [PyData.shownAll]; exact List.mem_cons_of_mem _ ht)
        refine ⟨_, b1 ++ b2, .cons x1 x2, (y1.mono ?_).append (y2.mono ?_), ?_⟩
        · simp only [PyData.depthAll]
          omega
        · simp only [PyData.depthAll]
          omega
        · simp only [PyData.depthAll, PyData.shownAll]
          exact .cons ((k1.more fun b hb => List.mem_append_left _ hb).level_le (by omega)) (k2.more_le (fun b hb => List.mem_append_right _ hb) (by omega))
end
/-- repr of any such thing -/
def rReprQ : List V → Hp → VK → Prop := fun xs H Q => ∃ (x : V) (d : PyData), xs = [x] ∧ Dq H x d ∧ d.showable = true ∧ d.depth ≤ 32 ∧ d.shown.length ≤ sizeLine ∧ Q (.str d.shown) H
theorem reprQ {X : Cx} (hA : X.A.guards = some []) {k : Nat} (hr : Room k X.A) : CallR X (.builtin "repr") rReprQ := by
  intro pins s σ H xs us Q I r h
  obtain ⟨x, d, rfl, hd, h1, h3, h4, q⟩ := h
  have hu := hr.units
  have flat : ∀ {d : PyData}, Dp X.K H x d → d.showable = true → d.hasDict = false → d.depth ≤ 32 → d.shown.length ≤ sizeLine → Q (.str d.shown) H → wpAny (model X.prog X.w) X.A (call (.builtin "repr") us) (EP X pins σ Q) X.xe s := fun a b c e f g =>
    reprV rfl hA hr pins s σ H _ us Q I r ⟨x, _, rfl, a, b, c, e, f, g⟩
  cases hd with
  | non => exact flat .non h1 rfl h3 h4 q
  | bl b => exact flat (.bl b) h1 (by simp only [PyData.hasDict]) h3 h4 q
  | int i => exact flat (.int i) h1 (by simp only [PyData.hasDict]) h3 h4 q
  | str y => exact flat (.str y) h1 (by simp only [PyData.hasDict]) h3 h4 q
  | emp ha =>
    cases r with
    | cons r1 r2 =>
      cases r2
      cases r1
      obtain ⟨rd, ns, _⟩ := emp_reads I ha
      exact repr_of_reads' rd h1 (fun _ => ns) hA (by omega) (fun _ _ e => e) (fun h' u tk kp => ⟨.str (PyData.shown (.dict [])), H, I.kept (t' := tk) kp, ⟨u, rfl⟩, q⟩) h4
  | @lst a xs ds ha hq =>
    cases r with
    | cons r1 r2 =>
      cases r2
      cases r1
      obtain ⟨_, its, n, rv, e⟩ := (show ObjOk X.prog X.w H s.heap a (.lst xs) from I.hok a _ ha)
      have hz2 : (listText (PyData.shownAll ds)).length ≤ sizeLine := by simpa only [PyData.shown] using h4
      obtain ⟨as, bs, ra, hb, hk⟩ := reprAllK_q I ds _ its hq rv (by simpa [PyData.showable] using h1) fun t ht => Nat.le_trans (listText_mem_le ht) hz2
      have rd : Reads s.heap (.ref a) (.list ds) _ := .list e rfl rfl ra
      have hna := not_mem_of_deeper rd (by simp only [PyData.depth]; omega) hb
      have hdp : PyData.depthAll ds + 1 ≤ 32 := by simpa only [PyData.depth] using h3
      simp only [PyData.shown] at q
      refine call_repr_slot (by omega) ⟨_, e, rfl⟩ F.slot_list_repr.toG ?_
      cases its with
      | nil =>
        cases ra
        simp only [PyData.shownAll, listText_nil] at q
        exact call_list_repr_empty ⟨_, e, rfl⟩ e rfl ⟨_, _, rfl, .str "[]", H, I.tok _, ⟨_, rfl⟩, q⟩
      | cons y l =>
        exact call_list_reprK e rfl rfl hna (by simpa using hk.length_eq) (fun i y e => hk.item i y (by simpa using e)) hA (fun b _ => Clear.nil b) (by show X.A.units + 1 + _ < cLine; omega) (fun _ _ e => e)
          (fun h' u tk kp => ⟨_, _, rfl, .str (listText (PyData.shownAll ds)), H, I.kept (t' := tk) kp, ⟨u, rfl⟩, q⟩) hz2
  | @tup a xs ds ha hq =>
    cases r with
    | cons r1 r2 =>
      cases r2
      cases r1
      obtain ⟨_, its, rv, o, e, hc, n, hd⟩ := (show ObjOk X.prog X.w H s.heap a (.tup xs) from I.hok a _ ha)
      have hz2 : (tupleText (PyData.shownAll ds)).length ≤ sizeLine := by simpa only [PyData.shown] using h4
      obtain ⟨as, bs, ra, hb, hk⟩ := reprAllK_q I ds _ its hq rv (by simpa [PyData.showable] using h1) fun t ht => Nat.le_trans (tupleText_mem_le ht) hz2
      have rd : Reads s.heap (.ref a) (.tuple ds) _ := .tuple e hc hd ra
      have hna := not_mem_of_deeper rd (by simp only [PyData.depth]; omega) hb
      have hdp : PyData.depthAll ds + 1 ≤ 32 := by simpa only [PyData.depth] using h3
      simp only [PyData.shown] at q
      refine call_repr_slot (by omega) ⟨_, e, hc⟩ F.slot_tuple_repr ?_
      exact call_tuple_reprK e hc hd hna hk hA (fun b _ => Clear.nil b) (by show X.A.units + 1 + _ < cLine; omega) (fun _ _ e => e)
          (fun h' u tk kp => ⟨_, _, rfl, .str (tupleText (PyData.shownAll ds)), H, I.kept (t' := tk) kp, ⟨u, rfl⟩, q⟩) hz2
end
end Sd

namespace Sd
open PySem PySem.Spec PyProof.Rows L2

/-! ### what isinstance says of data -/
def tyQ : PyData → String
  | .none => "NoneType"
  | .bool _ => "bool"
  | .int _ => "int"
  | .str _ => "str"
  | .list _ => "list"
  | .tuple _ => "tuple"
  | .dict _ => "dict"
def intQ : PyData → Bool
  | .int _ => true
  | .bool _ => true
  | _ => false
def boolQ : PyData → Bool
  | .bool _ => true
  | _ => false
def listQ : PyData → Bool
  | .list _ => true
  | _ => false
theorem kit_intQ {K : PySem.W.Frag} (d : PyData) : PySem.W.kitOne K (.type (tyQ d)) (.type "int") = some (intQ d) := by
  cases d with
  | none => exact kit_ty (show kitB "NoneType" "int" = some false by decide +kernel)
  | bool _ => exact kit_ty (show kitB "bool" "int" = some true by decide +kernel)
  | int _ => exact kit_ty (show kitB "int" "int" = some true by decide +kernel)
  | str _ => exact kit_ty (show kitB "str" "int" = some false by decide +kernel)
  | list _ => exact kit_ty (show kitB "list" "int" = some false by decide +kernel)
  | tuple _ => exact kit_ty (show kitB "tuple" "int" = some false by decide +kernel)
  | dict _ => exact kit_ty (show kitB "dict" "int" = some false by decide +kernel)
theorem kit_boolQ {K : PySem.W.Frag} (d : PyData) : PySem.W.kitOne K (.type (tyQ d)) (.type "bool") = some (boolQ d) := by
  cases d with
  | none => exact kit_ty (show kitB "NoneType" "bool" = some false by decide +kernel)
  | bool _ => exact kit_ty (show kitB "bool" "bool" = some true by decide +kernel)
  | int _ => exact kit_ty (show kitB "int" "bool" = some false by decide +kernel)
  | str _ => exact kit_ty (show kitB "str" "bool" = some false by decide +kernel)
  | list _ => exact kit_ty (show kitB "list" "bool" = some false by decide +kernel)
  | tuple _ => exact kit_ty (show kitB "tuple" "bool" = some false by decide +kernel)
  | dict _ => exact kit_ty (show kitB "dict" "bool" = some false by decide +kernel)
theorem kit_listQ {K : PySem.W.Frag} (d : PyData) : PySem.W.kitOne K (.type (tyQ d)) (.type "list") = some (listQ d) := by
  cases d with
  | none => exact kit_ty (show kitB "NoneType" "list" = some false by decide +kernel)
  | bool _ => exact kit_ty (show kitB "bool" "list" = some false by decide +kernel)
  | int _ => exact kit_ty (show kitB "int" "list" = some false by decide +kernel)
  | str _ => exact kit_ty (show kitB "str" "list" = some false by decide +kernel)
  | list _ => exact kit_ty (show kitB "list" "list" = some true by decide +kernel)
  | tuple _ => exact kit_ty (show kitB "tuple" "list" = some false by decide +kernel)
  | dict _ => exact kit_ty (show kitB "dict" "list" = some false by decide +kernel)
theorem ty_q {K : PySem.W.Frag} {H : Hp} {v : V} {d : PyData} (q : Dq H v d) : TyX K H v (.type (tyQ d)) := by
  cases q with
  | non => exact .base .non
  | bl b => exact .base (.bl b)
  | int i => exact .base (.int i)
  | str x => exact .base (.str x)
  | lst h _ => exact .base (.lst h)
  | tup h _ => exact .base (.tup h)
  | emp h => exact .base (.dK h)
/-- an item that a slot of a disc can have -/
def okS (top : Int) : PyData → Bool
  | .int i => decide (0 ≤ i) && decide (i ≤ top)
  | _ => false
/-- a disc with items up to top -/
def discQ (top : Int) : PyData → Bool
  | .list ds => decide (1 ≤ ds.length) && decide (ds.length ≤ 40) && ds.all (okS top)
  | _ => false
def slotsQ : PyData → Bool
  | .list ds => decide (1 ≤ ds.length) && decide (ds.length ≤ 40)
  | _ => false
theorem DqAll.length {H : Hp} : ∀ {xs : List V} {ds : List PyData}, DqAll H xs ds → xs.length = ds.length
  | _, _, .nil => rfl
  | _, _, .cons _ h => congrArg Nat.succ (DqAll.length h)
theorem DqAll.at {H : Hp} : ∀ {xs : List V} {ds : List PyData} {i : Nat} {x : V}, DqAll H xs ds → xs[i]? = some x → ∃ d, ds[i]? = some d ∧ Dq H x d
  | _, _, _, _, .nil, e => by simp at e
  | _, _, 0, _, .cons h _, e => by
    simp at e
    subst e
    exact ⟨_, rfl, h⟩
  | _, _, i + 1, x, .cons _ h, e => by
    obtain ⟨d, h1, h2⟩ := DqAll.at (i := i) (x := x) h (by simpa using e)
    exact ⟨d, by simpa using h1, h2⟩
theorem DqAll.ints {H : Hp} {top : Int} : ∀ {xs : List V} {ds : List PyData}, DqAll H xs ds → ds.all (okS top) = true → ∃ ns : List Int, xs = ns.map V.int ∧ ns.length = ds.length ∧ ds = ns.map PyData.int ∧ ∀ n ∈ ns, 0 ≤ n ∧ n ≤ top
  | _, _, .nil, _ => ⟨[], rfl, rfl, rfl, fun n hn => (List.not_mem_nil hn).elim⟩
  | _, _, .cons (d := d) h hs, e => by
    rw [List.all_cons, Bool.and_eq_true] at e
    obtain ⟨ns, h1, h2, h3, h4⟩ := DqAll.ints hs e.2
    cases h with
    | int i =>
      have e1 := (Bool.and_eq_true _ _).mp e.1
      refine ⟨i :: ns, by rw [h1]; rfl, congrArg Nat.succ h2, by rw [h3]; rfl, fun n hn => ?_⟩
      rcases List.mem_cons.mp hn with z | z
      · rw [z]
        exact ⟨of_decide_eq_true e1.1, of_decide_eq_true e1.2⟩
      · exact h4 n z
    | non => exact absurd e.1 (by show ¬ false = true; decide)
    | bl b => exact absurd e.1 (by show ¬ false = true; decide)
    | str x => exact absurd e.1 (by show ¬ false = true; decide)
    | lst _ _ => exact absurd e.1 (by show ¬ false = true; decide)
    | tup _ _ => exact absurd e.1 (by show ¬ false = true; decide)
    | emp _ => exact absurd e.1 (by show ¬ false = true; decide)
theorem ints_ok {top : Int} : ∀ {ns : List Int}, (ns.map PyData.int).all (okS top) = true ↔ ∀ n ∈ ns, 0 ≤ n ∧ n ≤ top
  | [] => by simp
  | n :: ns => by
    have ih := ints_ok (top := top) (ns := ns)
    rw [List.map_cons, List.all_cons, Bool.and_eq_true, ih]
    constructor
    · intro h m hm
      have e1 := (Bool.and_eq_true _ _).mp h.1
      rcases List.mem_cons.mp hm with z | z
      · rw [z]
        exact ⟨of_decide_eq_true e1.1, of_decide_eq_true e1.2⟩
      · exact h.2 m z
    · intro h
      have h1 := h n List.mem_cons_self
      exact ⟨(Bool.and_eq_true _ _).mpr ⟨decide_eq_true h1.1, decide_eq_true h1.2⟩, fun m hm => h m (List.mem_cons_of_mem _ hm)⟩
/-- what holds of all items up to i, one more -/
theorem all_next {p : PyData → Bool} {ds : List PyData} {i : Nat} {d : PyData} (e : ds[i]? = some d) (h : (ds.take i).all p = true) : (ds.take (i + 1)).all p = p d := by
  rw [List.take_add_one, e, List.all_append, h]
  simp
theorem all_no {p : PyData → Bool} {ds : List PyData} {i : Nat} {d : PyData} (e : ds[i]? = some d) (h : p d = false) : ds.all p = false := by
  cases z : ds.all p with
  | false => rfl
  | true =>
    rw [List.all_eq_true.mp z d (List.mem_of_getElem? e)] at h
    cases h

/-! ### things beside a tank -/
def mask (t : Addr) (H : Hp) : Hp := fun b => if b = t then none else H b
theorem mask_ne {t b : Addr} {H : Hp} (h : b ≠ t) : mask t H b = H b := if_neg h
theorem mask_same (t : Addr) (H : Hp) : Same (mask t H) H := fun b o e => by
  unfold mask at e
  split at e
  · cases e
  · exact e
theorem mask_but {t : Addr} {H H' : Hp} (u : But t H H') : Same (mask t H) (mask t H') := fun b o e => by
  unfold mask at e ⊢
  split at e
  · cases e
  · rename_i n
    rw [if_neg n]
    exact u b o e n
/-- an item; a thing -/
def El (t : Addr) (H : Hp) (v : V) : Prop := ∃ d, Dq (mask t H) v d ∧ d.showable = true ∧ d.depth ≤ 1 ∧ d.shown.length ≤ 1100
def Th (t : Addr) (H : Hp) (v : V) : Prop := ∃ d, Dq (mask t H) v d ∧ d.showable = true ∧ d.depth ≤ 3 ∧ d.shown.length ≤ 300000
theorem El.but {t : Addr} {H H' : Hp} {v : V} (h : El t H v) (u : But t H H') : El t H' v := let ⟨d, q, r⟩ := h; ⟨d, q.same (mask_but u), r⟩
theorem Th.but {t : Addr} {H H' : Hp} {v : V} (h : Th t H v) (u : But t H H') : Th t H' v := let ⟨d, q, r⟩ := h; ⟨d, q.same (mask_but u), r⟩
theorem El.th {t : Addr} {H : Hp} {v : V} (h : El t H v) : Th t H v := let ⟨d, q, r1, r2, r3⟩ := h; ⟨d, q, r1, by omega, by omega⟩
theorem el_non {t : Addr} {H : Hp} : El t H .non := ⟨.none, .non, rfl, by decide, by decide +kernel⟩
theorem el_bl {t : Addr} {H : Hp} (b : Bool) : El t H (.bl b) := ⟨.bool b, .bl b, by simp only [PyData.showable], by simp only [PyData.depth]; omega, by cases b <;> decide +kernel⟩
theorem el_int {t : Addr} {H : Hp} {i : Int} (h : i.natAbs < 2 ^ 1000) : El t H (.int i) := ⟨.int i, .int i, (rp_int h).sh, by simp only [PyData.depth]; omega, by have := shown_int h; omega⟩
theorem el_emp {t : Addr} {H : Hp} {a : Addr} (h : H a = some (.dK [])) (n : a ≠ t) : El t H (.ref a) := ⟨.dict [], .emp (by rw [mask_ne n]; exact h), by decide, by decide, by decide +kernel⟩
/-- items all told -/
theorem els {t : Addr} {H : Hp} : ∀ {xs : List V}, (∀ x ∈ xs, El t H x) → ∃ ds, DqAll (mask t H) xs ds ∧ PyData.showableAll ds = true ∧ PyData.depthAll ds ≤ 1 ∧ ∀ d ∈ ds, d.shown.length ≤ 1100
  | [], _ => ⟨[], .nil, by simp only [PyData.showableAll], by simp only [PyData.depthAll]; omega, fun d hd => (List.not_mem_nil hd).elim⟩
  | x :: xs, h => by
    obtain ⟨d, q, r1, r2, r3⟩ := h x List.mem_cons_self
    obtain ⟨ds, p1, p2, p3, p4⟩ := els (xs := xs) fun y hy => h y (List.mem_cons_of_mem _ hy)
    refine ⟨d :: ds, .cons q p1, by simp only [PyData.showableAll, r1, p2, Bool.and_self], by simp only [PyData.depthAll]; omega, fun e he => ?_⟩
    rcases List.mem_cons.mp he with z | z
    · rw [z]
      exact r3
    · exact p4 e z
theorem th_list {t : Addr} {H : Hp} {p : Addr} {xs : List V} (h : H p = some (.lst xs)) (n : p ≠ t) (hl : xs.length ≤ 200) (hx : ∀ x ∈ xs, El t H x) : Th t H (.ref p) := by
  obtain ⟨ds, p1, p2, p3, p4⟩ := els hx
  have e := p1.length
  refine ⟨.list ds, .lst (by rw [mask_ne n]; exact h) p1, by simp only [PyData.showable, p2], by simp only [PyData.depth]; omega, ?_⟩
  have := shown_list p4
  omega
theorem shown_tuple {B : Nat} {ds : List PyData} (h : ∀ d ∈ ds, d.shown.length ≤ B) : (PyData.tuple ds).shown.length ≤ (B + 2) * ds.length + 3 := by
  simp only [PyData.shown]
  have e3 : (((if (PyData.shownAll ds).length == 1 then ",)" else ")" : String) : Str)).length ≤ 2 := by split <;> decide +kernel
  have e1 : ((("(" : String) : Str)).length = 1 := rfl
  unfold tupleText
  rw [strLen_append, strLen_append, e1]
  have h2 : piled (PyData.shownAll ds) ≤ (B + 2) * ds.length := by
    unfold piled
    have := sum_bound (B := B + 2) (l := (PyData.shownAll ds).map fun t => t.length + 2) fun x hx => by
      obtain ⟨s, hs, rfl⟩ := List.mem_map.mp hx
      rw [shownAll_map] at hs
      obtain ⟨d, hd, rfl⟩ := List.mem_map.mp hs
      have := h d hd
      omega
    rw [List.length_map, shownAll_map, List.length_map] at this
    rw [shownAll_map] at *
    exact this
  by_cases z : PyData.shownAll ds = []
  · rw [z] at e3 ⊢
    have : (Str.join ", " []).length = 0 := by decide +kernel
    omega
  · have := join_length_add (PyData.shownAll ds) z
    omega
theorem th_tuple {t : Addr} {H : Hp} {p : Addr} {xs : List V} (h : H p = some (.tup xs)) (n : p ≠ t) (hl : xs.length ≤ 200) (hx : ∀ x ∈ xs, El t H x) : Th t H (.ref p) := by
  obtain ⟨ds, p1, p2, p3, p4⟩ := els hx
  have e := p1.length
  refine ⟨.tuple ds, .tup (by rw [mask_ne n]; exact h) p1, by simp only [PyData.showable, p2], by simp only [PyData.depth]; omega, ?_⟩
  have := shown_tuple p4
  omega
/-- [thing] -/
theorem th_one {t : Addr} {H : Hp} {p b : Addr} {ns : List Int} (h : H p = some (.lst [.ref b])) (n : p ≠ t) (hb : H b = some (.lst (ns.map V.int))) (nb : b ≠ t) (hl : ns.length ≤ 40) (hx : ∀ n ∈ ns, n.natAbs < 2 ^ 1000) : Th t H (.ref p) := by
  obtain ⟨ds, p1, p2, p3, p4⟩ := els (t := t) (H := H) (xs := ns.map V.int) fun x hxx => by
    obtain ⟨m, hm, rfl⟩ := List.mem_map.mp hxx
    exact el_int (hx m hm)
  have e := p1.length
  rw [List.length_map] at e
  have z := shown_list p4
  refine ⟨.list [.list ds], .lst (by rw [mask_ne n]; exact h) (.cons (.lst (by rw [mask_ne nb]; exact hb) p1) .nil), by simp only [PyData.showable, PyData.showableAll, p2, Bool.and_self], by simp only [PyData.depth, PyData.depthAll]; omega, ?_⟩
  have z2 := shown_list (B := 1102 * 40 + 3) (ds := [.list ds]) fun d hd => by
    rw [List.mem_singleton.mp hd]
    omega
  exact Nat.le_trans z2 (by show (1102 * 40 + 3 + 2) * 1 + 3 ≤ 300000; decide)
/-- [1], (1,) as items -/
theorem el_list1 {t : Addr} {H : Hp} {p : Addr} (h : H p = some (.lst [.int 1])) (n : p ≠ t) : El t H (.ref p) := ⟨.list [.int 1], .lst (by rw [mask_ne n]; exact h) (.cons (.int 1) .nil), by decide, by decide, by decide +kernel⟩
theorem el_list0 {t : Addr} {H : Hp} {p : Addr} (h : H p = some (.lst [])) (n : p ≠ t) : El t H (.ref p) := ⟨.list [], .lst (by rw [mask_ne n]; exact h) .nil, by decide, by decide, by decide +kernel⟩
theorem el_tup1 {t : Addr} {H : Hp} {p : Addr} (h : H p = some (.tup [.int 1])) (n : p ≠ t) : El t H (.ref p) := ⟨.tuple [.int 1], .tup (by rw [mask_ne n]; exact h) (.cons (.int 1) .nil), by decide, by decide, by decide +kernel⟩
theorem el_tup0 {t : Addr} {H : Hp} {p : Addr} (h : H p = some (.tup [])) (n : p ≠ t) : El t H (.ref p) := ⟨.tuple [], .tup (by rw [mask_ne n]; exact h) .nil, by decide, by decide, by decide +kernel⟩
theorem el_ints {t : Addr} {H : Hp} {ns : List Int} (h : ∀ n ∈ ns, n.natAbs < 2 ^ 1000) : ∀ x ∈ ns.map V.int, El t H x := fun x hx => by
  obtain ⟨m, hm, rfl⟩ := List.mem_map.mp hx
  exact el_int (h m hm)
theorem _root_.L2.Same.seqT {K : PySem.W.Frag} {H H' : Hp} {a : Addr} {xs : List V} (s : Same H H') (h : H a = some (.tup xs)) : SqT K H' a xs := SqT.of (s _ _ h)
end Sd

namespace Sd
open PySem PySem.Spec PyProof.Rows L2

/-! ### polynomials, lowest power first -/
/-- f times low taken away from l at s, s + 1 .. s + j - 1 -/
def subI (low : List Int) (f : Int) (s : Nat) : Nat → List Int → List Int
  | 0, l => l
  | j + 1, l => (subI low f s j l).set (s + j) ((subI low f s j l).getD (s + j) 0 - f * low.getD j 0)
/-- so many steps of the division, from the top: quotient behind, rest in front -/
def divN (low : List Int) : Nat → List Int → List Int
  | 0, l => l
  | k + 1, l => divN low k (subI low (l.getD (low.length - 1 + k) 0) k (low.length - 1) l)
def divL (low l : List Int) : List Int := divN low (l.length - (low.length - 1)) l
def quo (low l : List Int) : List Int := (divL low l).drop (low.length - 1)
def rst (low l : List Int) : List Int := (divL low l).take (low.length - 1)
theorem subI_len (low : List Int) (f : Int) (s : Nat) : ∀ (j : Nat) (l : List Int), (subI low f s j l).length = l.length
  | 0, _ => rfl
  | j + 1, l => by
    rw [subI, List.length_set, subI_len low f s j l]
theorem divN_len (low : List Int) : ∀ (k : Nat) (l : List Int), (divN low k l).length = l.length
  | 0, _ => rfl
  | k + 1, l => by
    rw [divN, divN_len low k, subI_len]
theorem divL_len (low l : List Int) : (divL low l).length = l.length := divN_len _ _ _
theorem quo_len (low l : List Int) : (quo low l).length = l.length - (low.length - 1) := by
  unfold quo
  rw [List.length_drop, divL_len]
theorem rst_len (low l : List Int) : (rst low l).length = min (low.length - 1) l.length := by
  unfold rst
  rw [List.length_take, divL_len]
/-- what lies behind stays -/
theorem subI_get (low : List Int) (f : Int) (s : Nat) : ∀ (j : Nat) (l : List Int) (i : Nat), s + j ≤ i → (subI low f s j l)[i]? = l[i]?
  | 0, _, _, _ => rfl
  | j + 1, l, i, h => by
    rw [subI, List.getElem?_set_ne (by omega)]
    exact subI_get low f s j l i (by omega)
theorem subI_drop (low : List Int) (f : Int) (s j : Nat) (l : List Int) {i : Nat} (h : s + j ≤ i) : (subI low f s j l).drop i = l.drop i := by
  refine List.ext_getElem? fun k => ?_
  rw [List.getElem?_drop, List.getElem?_drop, subI_get low f s j l (i + k) (by omega)]
/-- the table of C(1) to C(40) -/
def cycT : List (List Int) := [[], [-1, 1], [1, 1], [1, 1, 1], [1, 0, 1], [1, 1, 1, 1, 1], [1, -1, 1], [1, 1, 1, 1, 1, 1, 1], [1, 0, 0, 0, 1], [1, 0, 0, 1, 0, 0, 1], [1, -1, 1, -1, 1], [1, 1, 1, 1, 1, 1, 1, 1, 1, 1, 1], [1, 0, -1, 0, 1], [1, 1, 1, 1, 1, 1, 1, 1, 1, 1, 1, 1, 1], [1, -1, 1, -1, 1, -1, 1], [1, -1, 0, 1, -1, 1, 0, -1, 1], [1, 0, 0, 0, 0, 0, 0, 0, 1], [1, 1, 1, 1, 1, 1, 1, 1, 1, 1, 1, 1, 1, 1, 1, 1, 1], [1, 0, 0, -1, 0, 0, 1], [1, 1, 1, 1, 1, 1, 1, 1, 1, 1, 1, 1, 1, 1, 1, 1, 1, 1, 1], [1, 0, -1, 0, 1, 0, -1, 0, 1], [1, -1, 0, 1, -1, 0, 1, 0, -1, 1, 0, -1, 1], [1, -1, 1, -1, 1, -1, 1, -1, 1, -1, 1], [1, 1, 1, 1, 1, 1, 1, 1, 1, 1, 1, 1, 1, 1, 1, 1, 1, 1, 1, 1, 1, 1, 1], [1, 0, 0, 0, -1, 0, 0, 0, 1], [1, 0, 0, 0, 0, 1, 0, 0, 0, 0, 1, 0, 0, 0, 0, 1, 0, 0, 0, 0, 1], [1, -1, 1, -1, 1, -1, 1, -1, 1, -1, 1, -1, 1], [1, 0, 0, 0, 0, 0, 0, 0, 0, 1, 0, 0, 0, 0, 0, 0, 0, 0, 1], [1, 0, -1, 0, 1, 0, -1, 0, 1, 0, -1, 0, 1], [1, 1, 1, 1, 1, 1, 1, 1, 1, 1, 1, 1, 1, 1, 1, 1, 1, 1, 1, 1, 1, 1, 1, 1, 1, 1, 1, 1, 1], [1, 1, 0, -1, -1, -1, 0, 1, 1], [1, 1, 1, 1, 1, 1, 1, 1, 1, 1, 1, 1, 1, 1, 1, 1, 1, 1, 1, 1, 1, 1, 1, 1, 1, 1, 1, 1, 1, 1, 1], [1, 0, 0, 0, 0, 0, 0, 0, 0, 0, 0, 0, 0, 0, 0, 0, 1], [1, -1, 0, 1, -1, 0, 1, -1, 0, 1, -1, 1, 0, -1, 1, 0, -1, 1, 0, -1, 1], [1, -1, 1, -1, 1, -1, 1, -1, 1, -1, 1, -1, 1, -1, 1, -1, 1], [1, -1, 0, 0, 0, 1, -1, 1, -1, 0, 1, -1, 1, -1, 1, 0, -1, 1, -1, 1, 0, 0, 0, -1, 1], [1, 0, 0, 0, 0, 0, -1, 0, 0, 0, 0, 0, 1], [1, 1, 1, 1, 1, 1, 1, 1, 1, 1, 1, 1, 1, 1, 1, 1, 1, 1, 1, 1, 1, 1, 1, 1, 1, 1, 1, 1, 1, 1, 1, 1, 1, 1, 1, 1, 1], [1, -1, 1, -1, 1, -1, 1, -1, 1, -1, 1, -1, 1, -1, 1, -1, 1, -1, 1], [1, -1, 0, 1, -1, 0, 1, -1, 0, 1, -1, 0, 1, 0, -1, 1, 0, -1, 1, 0, -1, 1, 0, -1, 1], [1, 0, 0, 0, -1, 0, 0, 0, 1, 0, 0, 0, -1, 0, 0, 0, 1]]
def cyc (p : Nat) : List Int := cycT.getD p []
/-- low coefficients are 1, 0 or -1 -/
def Unt (l : List Int) : Prop := ∀ x ∈ l, -1 ≤ x ∧ x ≤ 1
theorem cyc_all : ∀ p, p < 41 → 1 ≤ p → (2 ≤ (cyc p).length ∧ (cyc p).length ≤ p + 1 ∧ (cyc p).all (fun x => decide (-1 ≤ x ∧ x ≤ 1)) = true) := by decide +kernel
theorem cyc_len {p : Nat} (h1 : 1 ≤ p) (h : p ≤ 40) : 2 ≤ (cyc p).length ∧ (cyc p).length ≤ p + 1 := ⟨(cyc_all p (by omega) h1).1, (cyc_all p (by omega) h1).2.1⟩
theorem cyc_unt {p : Nat} (h1 : 1 ≤ p) (h : p ≤ 40) : Unt (cyc p) := fun x hx => of_decide_eq_true (List.all_eq_true.mp (cyc_all p (by omega) h1).2.2 x hx)
/-- x ** p - 1 -/
def xn1 (p : Nat) : List Int := [-1] ++ List.replicate (p - 1) 0 ++ [1]
theorem xn1_len {p : Nat} (h : 1 ≤ p) : (xn1 p).length = p + 1 := by
  unfold xn1
  rw [List.length_append, List.length_append, List.length_replicate]
  show 1 + (p - 1) + 1 = p + 1
  omega
/-- x ** p - 1 without C(1), C(2) .. C(k) -/
def rootF (p : Nat) : Nat → List Int
  | 0 => xn1 p
  | k + 1 => if p % (k + 1) = 0 then quo (cyc (k + 1)) (rootF p k) else rootF p k
theorem root_all : ∀ p, p < 41 → 1 ≤ p → rootF p (p - 1) = cyc p := by decide +kernel
theorem root_cyc {p : Nat} (h1 : 1 ≤ p) (h : p ≤ 40) : rootF p (p - 1) = cyc p := root_all p (by omega) h1
theorem rootF_len (p : Nat) (h : 1 ≤ p) : ∀ k, (rootF p k).length ≤ p + 1
  | 0 => by rw [rootF, xn1_len h]; exact Nat.le_refl _
  | k + 1 => by
    have := rootF_len p h k
    rw [rootF]
    split
    · rw [quo_len]; omega
    · exact this
/-- the divisors of n up to k -/
def divs (n : Nat) : Nat → List Nat
  | 0 => []
  | k + 1 => if n % (k + 1) = 0 then divs n k ++ [k + 1] else divs n k
theorem divs_mem {n : Nat} : ∀ {k d : Nat}, d ∈ divs n k ↔ 1 ≤ d ∧ d ≤ k ∧ n % d = 0
  | 0, d => by
    rw [divs]
    exact ⟨fun h => (List.not_mem_nil h).elim, fun h => by omega⟩
  | k + 1, d => by
    rw [divs]
    by_cases c : n % (k + 1) = 0
    · rw [if_pos c, List.mem_append, divs_mem (k := k), List.mem_singleton]
      constructor
      · rintro (⟨a, b, e⟩ | rfl)
        · exact ⟨a, by omega, e⟩
        · exact ⟨by omega, Nat.le_refl _, c⟩
      · rintro ⟨a, b, e⟩
        by_cases z : d = k + 1
        · exact .inr z
        · exact .inl ⟨a, by omega, e⟩
    · rw [if_neg c, divs_mem (k := k)]
      constructor
      · rintro ⟨a, b, e⟩
        exact ⟨a, by omega, e⟩
      · rintro ⟨a, b, e⟩
        refine ⟨a, ?_, e⟩
        have : d ≠ k + 1 := fun z => c (by rw [← z]; exact e)
        omega
theorem divs_len {n : Nat} : ∀ k, (divs n k).length ≤ k
  | 0 => Nat.le_refl _
  | k + 1 => by
    have := divs_len (n := n) k
    rw [divs]
    split
    · rw [List.length_append]
      show _ + 1 ≤ _
      omega
    · omega
/-- x ** p - 1 without all C(d), d of a list that divides p -/
def foldQ (p : Nat) (ds : List Nat) : List Int := ds.foldl (fun a d => if p % d = 0 then quo (cyc d) a else a) (xn1 p)
theorem foldQ_snoc (p : Nat) (ds : List Nat) (d : Nat) : foldQ p (ds ++ [d]) = if p % d = 0 then quo (cyc d) (foldQ p ds) else foldQ p ds := by
  unfold foldQ
  rw [List.foldl_append]
  rfl
theorem foldQ_divs {n p : Nat} (hp : n % p = 0) : ∀ k, foldQ p (divs n k) = rootF p k
  | 0 => rfl
  | k + 1 => by
    rw [divs, rootF]
    by_cases c : n % (k + 1) = 0
    · rw [if_pos c, foldQ_snoc, foldQ_divs hp k]
    · rw [if_neg c, foldQ_divs hp k, if_neg]
      intro z
      exact c (Nat.mod_eq_zero_of_dvd (Nat.dvd_trans (Nat.dvd_of_mod_eq_zero z) (Nat.dvd_of_mod_eq_zero hp)))
theorem foldQ_len {p : Nat} (h : 1 ≤ p) : ∀ ds : List Nat, ∀ a : List Int, a.length ≤ p + 1 → (ds.foldl (fun a d => if p % d = 0 then quo (cyc d) a else a) a).length ≤ p + 1
  | [], a, ha => ha
  | d :: ds, a, ha => by
    rw [List.foldl_cons]
    refine foldQ_len h ds _ ?_
    split
    · rw [quo_len]; omega
    · exact ha
/-- the blind divisors -/
def blB (ns : List Int) (d : Nat) : Bool := (rst (cyc d) ns).all fun x => decide (x = 0)
def blindN (ns : List Int) (k : Nat) : List Nat := (divs ns.length k).filter (blB ns)
def blindL (ns : List Int) : List Nat := blindN ns ns.length
/-- the product of C(d) for all that are not blind -/
def hidQ (ns : List Int) : List Int := (blindL ns).foldl (fun a d => quo (cyc d) a) (xn1 ns.length)
def degS (ds : List Nat) : Nat := (ds.map fun d => (cyc d).length - 1).sum
theorem deg_all : ∀ n, n < 41 → 1 ≤ n → degS (divs n n) = n := by decide +kernel
theorem degS_filter (p : Nat → Bool) : ∀ ds : List Nat, degS (ds.filter p) ≤ degS ds
  | [] => Nat.le_refl _
  | d :: ds => by
    have := degS_filter p ds
    rw [List.filter_cons]
    split
    · unfold degS at *
      rw [List.map_cons, List.sum_cons, List.map_cons, List.sum_cons]
      omega
    · unfold degS at *
      rw [List.map_cons, List.sum_cons]
      omega
theorem fold_len : ∀ (ds : List Nat) (a : List Int), degS ds ≤ a.length → (ds.foldl (fun a d => quo (cyc d) a) a).length = a.length - degS ds
  | [], a, _ => rfl
  | d :: ds, a, h => by
    unfold degS at h
    rw [List.map_cons, List.sum_cons] at h
    rw [List.foldl_cons, fold_len ds _ (by rw [quo_len]; unfold degS; omega), quo_len]
    unfold degS
    rw [List.map_cons, List.sum_cons]
    omega
theorem blind_deg {ns : List Int} (h1 : 1 ≤ ns.length) (h : ns.length ≤ 40) : degS (blindL ns) ≤ ns.length := by
  have := degS_filter (blB ns) (divs ns.length ns.length)
  rw [deg_all ns.length (by omega) h1] at this
  exact this
theorem hidQ_len {ns : List Int} (h1 : 1 ≤ ns.length) (h : ns.length ≤ 40) : (hidQ ns).length = ns.length + 1 - degS (blindL ns) := by
  have := blind_deg h1 h
  unfold hidQ
  rw [fold_len _ _ (by rw [xn1_len h1]; omega), xn1_len h1]
theorem blind_mem {ns : List Int} {d : Nat} (h : d ∈ blindL ns) : 1 ≤ d ∧ d ≤ ns.length ∧ ns.length % d = 0 := divs_mem.mp (List.mem_filter.mp h).1
theorem degS_pos {ns : List Int} (h : ns.length ≤ 40) : degS (blindL ns) = 0 ↔ blindL ns = [] := by
  constructor
  · intro z
    cases e : blindL ns with
    | nil => rfl
    | cons d ds =>
      exfalso
      have hd := blind_mem (ns := ns) (d := d) (by rw [e]; exact List.mem_cons_self)
      have := (cyc_len hd.1 (by omega)).1
      rw [e] at z
      unfold degS at z
      rw [List.map_cons, List.sum_cons] at z
      omega
  · intro z
    rw [z]
    rfl
theorem divs_sorted {n : Nat} : ∀ {k i d e : Nat}, (divs n k)[i]? = some d → e ∈ (divs n k).take i → e < d
  | 0, _, _, _, h, _ => by
    rw [divs] at h
    cases h
  | k + 1, i, d, e, h, he => by
    rw [divs] at h he
    by_cases c : n % (k + 1) = 0
    · rw [if_pos c] at h he
      by_cases z : i < (divs n k).length
      · rw [List.getElem?_append_left z] at h
        rw [List.take_append_of_le_length (Nat.le_of_lt z)] at he
        exact divs_sorted h he
      · have hi : i = (divs n k).length := by
          have := (List.getElem?_eq_some_iff.mp h).1
          rw [List.length_append] at this
          have t : i < (divs n k).length + 1 := this
          omega
        subst hi
        rw [List.getElem?_append_right (Nat.le_refl _), Nat.sub_self] at h
        have hd : k + 1 = d := Option.some.inj h
        rw [List.take_left] at he
        have := (divs_mem.mp he).2.1
        omega
    · rw [if_neg c] at h he
      exact divs_sorted h he
theorem divs_lt {n k i d e : Nat} (h : (divs n k)[i]? = some d) (he : e ∈ (divs n k).take i) : e < d := divs_sorted h he
theorem degI : ∀ {ds : List Nat}, (∀ d ∈ ds, 1 ≤ d ∧ d ≤ 40) → (ds.map fun d => ((cyc d).length : Int) - 1).sum = (degS ds : Int)
  | [], _ => rfl
  | d :: ds, h => by
    have hd := h d List.mem_cons_self
    have hl := (cyc_len hd.1 hd.2).1
    rw [List.map_cons, List.sum_cons, degI fun x hx => h x (List.mem_cons_of_mem _ hx)]
    unfold degS
    rw [List.map_cons, List.sum_cons]
    omega
end Sd

namespace Sd
open PySem PySem.Spec PyProof.Rows L2

/-! ### rules: any of a list of ints, xs[i] -= .., a dict that is locked and left so, a dict comprehension over its items -/
section
variable {X : Cx}
theorem truth_ints {K : PySem.W.Frag} {prog : Program} {w : World} {A : Around} {ns : List Int} {its : List Value} (r : Vals (ns.map V.int) its) :
    TruthOf prog w A (fun i v => its.toArray[i]? = some v) (fun i => (ns.map fun n => decide (n ≠ 0)).getD i false) := fun i v s Q E hv hq => by
  have hv' : its[i]? = some v := by simpa using hv
  have hl := r.length
  rw [List.length_map] at hl
  have hi : i < ns.length := by
    rw [hl]
    exact (List.getElem?_eq_some_iff.mp hv').1
  obtain ⟨w1, e1, r1⟩ := r.get (i := i) (x := .int ns[i]) (by rw [List.getElem?_map, List.getElem?_eq_getElem hi]; rfl)
  rw [hv'] at e1
  cases e1
  obtain ⟨t, rfl⟩ := r1
  have hg : (ns.map fun n => decide (n ≠ 0)).getD i false = decide (ns[i] ≠ 0) := by
    rw [List.getD_eq_getElem?_getD, List.getElem?_map, List.getElem?_eq_getElem hi]
    rfl
  have hq' : Q ((ns.map fun n => decide (n ≠ 0)).getD i false) s := hq
  rw [hg] at hq'
  refine PySem.P.truthy_int ?_
  have e : (ns[i] != 0) = decide (ns[i] ≠ 0) := by
    by_cases c : ns[i] = 0
    · rw [c]; rfl
    · rw [decide_eq_true c]
      exact bne_iff_ne.mpr c
  first
    | exact hq'
    | (rw [e]; exact hq')
def rAnyI (K : PySem.W.Frag) : List V → Hp → VK → Prop := fun vs H Q => ∃ (a : Addr) (ns : List Int), vs = [V.ref a] ∧ SqL K H a (ns.map V.int) ∧ Q (.bl (!ns.all fun x => decide (x = 0))) H
theorem any_not_all : ∀ ns : List Int, (ns.map fun n => decide (n ≠ 0)).any id = !ns.all fun x => decide (x = 0)
  | [] => rfl
  | n :: ns => by
    rw [List.map_cons, List.any_cons, List.all_cons, any_not_all ns, Bool.not_and]
    congr 1
    by_cases c : n = 0
    · rw [decide_eq_true c]; subst c; rfl
    · rw [decide_eq_false c]
      exact decide_eq_true c
theorem cr_anyI {K : PySem.W.Frag} (hK : X.K = K) (hc : X.calm = true) : CallR X (.builtin "any") (rAnyI K) := by
  subst hK
  intro pins s σ H vs us Q I r h
  obtain ⟨a, ns, rfl, hs, q⟩ := h
  obtain ⟨its, rv, hl, _⟩ := I.list hs
  rw [Vals.ref1 r]
  refine call_any_walk (iter_any hl.isList fun s₂ e2 st hne => ?_)
  subst e2
  refine ⟨_, _, _, _, _, _, _, rfl, Walks.list (A := X.A.in1) (I.ok.hd hc) _ a hne its.toArray, st, truth_ints (K := X.K) rv, fun h' tk hk => ?_⟩
  refine ⟨.bl _, H, I.kept fun b o eo => hk b o (fun hmem => ?_) (Heap.get?_push_of_some _ eo), ?_, q⟩
  · rcases List.mem_cons.mp hmem with e1 | hmem
    · exact absurd (e1 ▸ Heap.lt_size eo) (Nat.lt_irrefl _)
    · cases hmem
  · show Value.bool _ = Value.bool _
    have e := any_range (ns.map fun n => decide (n ≠ 0))
    rw [← any_not_all, ← e, List.size_toArray, ← rv.length, List.length_map, List.length_map]
/-- xs[i], read by an augmented assignment -/
def rGetL (K : PySem.W.Frag) : V → V → Hp → VK → Prop := fun o i H Q => ∃ (p : Addr) (xs : List V) (k : Int) (z : V), o = .ref p ∧ i = .int k ∧ SqL K H p xs ∧ 0 ≤ k ∧ xs[k.toNat]? = some z ∧ Q z H
theorem get_listP {K : PySem.W.Frag} (hK : X.K = K) : PGet X (rGetL K) := by
  subst hK
  intro pins s σ H o i ov iv Q I ro ri h
  obtain ⟨p, xs, k, z, rfl, rfl, hq, h0, he, q⟩ := h
  cases ro
  obtain ⟨t, rfl⟩ := ri
  obtain ⟨its, r, pl, hz⟩ := I.list hq
  obtain ⟨w, ew, rw'⟩ := r.get he
  have hlt : k.toNat < its.length := (List.getElem?_eq_some_iff.mp ew).1
  have hn := line63
  have hl := r.length
  exact wpAny_getItem_list pl.isList h0 (by omega) (by simpa using ew) ⟨z, H, I, rw', q⟩
/-- the dict that an expression gives is locked from then on -/
def tLk (td : TE) : TE := fun σ H Q => td σ H fun x H1 => ∃ d kvs, x = .ref d ∧ H1 d = some (.dK kvs) ∧ ∀ od, Q x (upd H1 d (.frz od (.dK kvs)))
theorem pe_lk {e : Expr} {td : TE} (h : PE X e td) : PE X e (tLk td) := by
  refine ⟨fun pins s σ H Q I hw => ?_⟩
  refine thn (h.run pins s σ H _ I hw) fun v s1 ⟨x, H1, I1, r, d, kvs, ex, hd, q⟩ => ?_
  obtain ⟨od, I2⟩ := I1.lock hd trivial
  exact ⟨x, _, I2, r, q od⟩
theorem ixT {K : PySem.W.Frag} (h : X.K = K) : IxR X (rIxT K) := h ▸ ix_tup
theorem dc_it {J : It} {n : Nat} {G : Hp → Prop} {Y : Nat → Hp → V → Hp → Prop} (w : Walk J n G Y) {g : TG} {tt : TT} {tk tv : TE} {vs : List Nat} {σ : L2.St} {H1 : Hp} {D : Addr} {Qd : Hp → Prop} (Pv : Nat → Hp → Prop) (h0 : Pv 0 (upd H1 D (.dK []))) (hG : ∀ i H, i ≤ n → Pv i H → G H)
    (hs : ∀ i x H H', i < n → Pv i H → Y i H x H' → g x (wipe σ vs) H' fun σ2 H2 => wipe σ2 vs = wipe σ vs ∧ tt σ2 H2 fun b H3 =>
      if b = true then tk σ2 H3 fun y H4 => tv σ2 H4 fun z H5 => ∃ kvs k, y = kV k ∧ H5 D = some (.dK kvs) ∧ kvs.length < sizeLine ∧ Pv (i + 1) (upd H5 D (.dK (putK kvs k z))) else Pv (i + 1) H3) (hd : ∀ H, Pv n H → Qd H) :
    ∃ W : Nat → Nat → Hp → Prop, (∃ m, W 0 m (upd H1 D (.dK []))) ∧ ∀ i m H, W i m H →
      (J.stop i H ∧ Qd H) ∨ (J.go i H ∧ ∃ Nx : Hp → Prop, (∀ H', Nx H' → ∃ m', m' < m ∧ W (i + 1) m' H') ∧ ∀ x H', J.yld i H x H' → g x (wipe σ vs) H' fun σ2 H2 => wipe σ2 vs = wipe σ vs ∧ tt σ2 H2 fun b H3 =>
        if b = true then tk σ2 H3 fun y H4 => tv σ2 H4 fun z H5 => ∃ kvs k, y = kV k ∧ H5 D = some (.dK kvs) ∧ kvs.length < sizeLine ∧ Nx (upd H5 D (.dK (putK kvs k z))) else Nx H3) := by
  refine ⟨fun i m H => m = n - i ∧ i ≤ n ∧ Pv i H, ⟨n, by simp, Nat.zero_le _, h0⟩, ?_⟩
  rintro i m H ⟨rfl, hi, p⟩
  have q := hG i H hi p
  by_cases hlt : i < n
  · exact .inr ⟨w.goes i H hlt q, Pv (i + 1), fun H' p' => ⟨n - (i + 1), by omega, rfl, hlt, p'⟩, fun x H' y => hs i x H H' hlt p (w.yields i H x H' hlt q y)⟩
  · have e : i = n := by omega
    subst e
    exact .inl ⟨w.stops H q, hd H p⟩
end
/-! ### dicts from divisors to lists -/
inductive Tabl (H : Hp) : List (Key × V) → List Nat → Prop
  | nil : Tabl H [] []
  | cons {d : Nat} {r : Addr} {kvs : List (Key × V)} {ds : List Nat} : H r = some (.lst ((cyc d).map V.int)) → Tabl H kvs ds → Tabl H ((.inl (d : Int), .ref r) :: kvs) (d :: ds)
theorem Tabl.same {H H' : Hp} (s : Same H H') : ∀ {kvs : List (Key × V)} {ds : List Nat}, Tabl H kvs ds → Tabl H' kvs ds
  | _, _, .nil => .nil
  | _, _, .cons h t => .cons (s _ _ h) (t.same s)
theorem Tabl.but {H H' : Hp} {T : Addr} (hT : ∀ xs, H T ≠ some (.lst xs)) (s : But T H H') : ∀ {kvs : List (Key × V)} {ds : List Nat}, Tabl H kvs ds → Tabl H' kvs ds
  | _, _, .nil => .nil
  | _, _, .cons h t => .cons (s _ _ h (fun e => hT _ (by rw [← e]; exact h))) (t.but hT s)
theorem Tabl.len {H : Hp} : ∀ {kvs : List (Key × V)} {ds : List Nat}, Tabl H kvs ds → kvs.length = ds.length
  | _, _, .nil => rfl
  | _, _, .cons _ t => by rw [List.length_cons, List.length_cons, t.len]
theorem Tabl.at {H : Hp} : ∀ {kvs : List (Key × V)} {ds : List Nat} {i : Nat}, Tabl H kvs ds → i < ds.length → ∃ d r, ds[i]? = some d ∧ kvs[i]? = some (.inl (d : Int), .ref r) ∧ H r = some (.lst ((cyc d).map V.int))
  | _, _, i, .nil, h => absurd h (Nat.not_lt_zero _)
  | _, _, 0, .cons h t, _ => ⟨_, _, rfl, rfl, h⟩
  | _, _, i + 1, .cons h t, l => t.at (i := i) (Nat.lt_of_succ_lt_succ l)
theorem Tabl.snoc {H : Hp} {d : Nat} {r : Addr} (h : H r = some (.lst ((cyc d).map V.int))) : ∀ {kvs : List (Key × V)} {ds : List Nat}, Tabl H kvs ds → Tabl H (kvs ++ [(.inl (d : Int), .ref r)]) (ds ++ [d])
  | _, _, .nil => .cons h .nil
  | _, _, .cons h1 t => .cons h1 (t.snoc h)
theorem Tabl.put {H : Hp} {d : Nat} : ∀ {kvs : List (Key × V)} {ds : List Nat}, Tabl H kvs ds → (∀ e ∈ ds, e < d) → (kvs.any fun kv => decide (kv.1 = (.inl (d : Int) : Key))) = false
  | _, _, .nil, _ => rfl
  | _, _, @Tabl.cons _ e r kvs ds _ t, h => by
    rw [List.any_cons, t.put fun x hx => h x (List.mem_cons_of_mem _ hx), Bool.or_false]
    refine decide_eq_false fun z => ?_
    have h1 := h e List.mem_cons_self
    have h2 : (e : Int) = (d : Int) := Sum.inl.inj z
    omega
theorem Tabl.putK {H : Hp} {d : Nat} {v : V} {kvs : List (Key × V)} {ds : List Nat} (t : Tabl H kvs ds) (h : ∀ e ∈ ds, e < d) : putK kvs (.inl (d : Int)) v = kvs ++ [(.inl (d : Int), v)] := by
  unfold L2.putK
  rw [if_neg (by rw [t.put h]; exact Bool.false_ne_true)]
theorem eqv_dI0 (a : List Int) : PyData.eqv (dI a) (dI []) = a.isEmpty := by cases a <;> rfl
end Sd

namespace Sd
open PySem PySem.Spec PyProof.Rows L2

/-! ### things without dicts within, beside a tank -/
def NDk : PyData → Prop
  | .list ds => PyData.hasDictAll ds = false ∧ PyData.canLayAll0 ds = true
  | _ => True
def E9 (t : Addr) (H : Hp) (v : V) : Prop := ∃ d, Dq (mask t H) v d ∧ d.showable = true ∧ d.depth ≤ 1 ∧ d.shown.length ≤ 1100 ∧ d.hasDict = false ∧ d.canLay0 = true
def T9 (t : Addr) (H : Hp) (v : V) : Prop := ∃ d, Dq (mask t H) v d ∧ d.showable = true ∧ d.depth ≤ 3 ∧ d.shown.length ≤ 300000 ∧ NDk d
theorem E9.but {t : Addr} {H H' : Hp} {v : V} (h : E9 t H v) (u : But t H H') : E9 t H' v := let ⟨d, q, r⟩ := h; ⟨d, q.same (mask_but u), r⟩
theorem T9.but {t : Addr} {H H' : Hp} {v : V} (h : T9 t H v) (u : But t H H') : T9 t H' v := let ⟨d, q, r⟩ := h; ⟨d, q.same (mask_but u), r⟩
theorem ndk_of {d : PyData} (h : d.hasDict = false ∧ d.canLay0 = true) : NDk d := by
  cases d <;> first | trivial | (obtain ⟨h1, h2⟩ := h; simp only [PyData.hasDict] at h1; simp only [PyData.canLay0] at h2; exact ⟨h1, h2⟩)
theorem E9.th {t : Addr} {H : Hp} {v : V} (h : E9 t H v) : T9 t H v := let ⟨d, q, r1, r2, r3, r4⟩ := h; ⟨d, q, r1, by omega, by omega, ndk_of r4⟩
theorem e9_non {t : Addr} {H : Hp} : E9 t H .non := ⟨.none, .non, rfl, by decide, by decide +kernel, by decide, by decide⟩
theorem e9_bl {t : Addr} {H : Hp} (b : Bool) : E9 t H (.bl b) := ⟨.bool b, .bl b, by simp only [PyData.showable], by simp only [PyData.depth]; omega, by cases b <;> decide +kernel, by simp only [PyData.hasDict], by simp only [PyData.canLay0]⟩
theorem e9_int {t : Addr} {H : Hp} {i : Int} (h : i.natAbs < 2 ^ 1000) : E9 t H (.int i) := ⟨.int i, .int i, (rp_int h).sh, by simp only [PyData.depth]; omega, by have := shown_int h; omega, by simp only [PyData.hasDict], by simp only [PyData.canLay0]⟩
theorem e9_str0 {t : Addr} {H : Hp} : E9 t H (.str "0") := ⟨.str "0", .str "0", by simp only [PyData.showable], by simp only [PyData.depth]; omega, by decide +kernel, by simp only [PyData.hasDict], by decide +kernel⟩
theorem t9_emp {t : Addr} {H : Hp} {a : Addr} (h : H a = some (.dK [])) (n : a ≠ t) : T9 t H (.ref a) := ⟨.dict [], .emp (by rw [mask_ne n]; exact h), by decide, by decide, by decide +kernel, trivial⟩
theorem e9s {t : Addr} {H : Hp} : ∀ {xs : List V}, (∀ x ∈ xs, E9 t H x) → ∃ ds, DqAll (mask t H) xs ds ∧ PyData.showableAll ds = true ∧ PyData.depthAll ds ≤ 1 ∧ (∀ d ∈ ds, d.shown.length ≤ 1100) ∧ PyData.hasDictAll ds = false ∧ PyData.canLayAll0 ds = true
  | [], _ => ⟨[], .nil, by simp only [PyData.showableAll], by simp only [PyData.depthAll]; omega, fun d hd => (List.not_mem_nil hd).elim, by simp only [PyData.hasDictAll], by simp only [PyData.canLayAll0]⟩
  | x :: xs, h => by
    obtain ⟨d, q, r1, r2, r3, r4, r5⟩ := h x List.mem_cons_self
    obtain ⟨ds, p1, p2, p3, p4, p5, p6⟩ := e9s (xs := xs) fun y hy => h y (List.mem_cons_of_mem _ hy)
    refine ⟨d :: ds, .cons q p1, by simp only [PyData.showableAll, r1, p2, Bool.and_self], by simp only [PyData.depthAll]; omega, fun e he => ?_, by simp only [PyData.hasDictAll, r4, p5, Bool.or_self], by simp only [PyData.canLayAll0, r5, p6, Bool.and_self]⟩
    rcases List.mem_cons.mp he with z | z
    · rw [z]
      exact r3
    · exact p4 e z
theorem t9_list {t : Addr} {H : Hp} {p : Addr} {xs : List V} (h : H p = some (.lst xs)) (n : p ≠ t) (hl : xs.length ≤ 200) (hx : ∀ x ∈ xs, E9 t H x) : T9 t H (.ref p) := by
  obtain ⟨ds, p1, p2, p3, p4, p5⟩ := e9s hx
  have e := p1.length
  refine ⟨.list ds, .lst (by rw [mask_ne n]; exact h) p1, by simp only [PyData.showable, p2], by simp only [PyData.depth]; omega, ?_, p5⟩
  have := shown_list p4
  omega
theorem t9_tuple {t : Addr} {H : Hp} {p : Addr} {xs : List V} (h : H p = some (.tup xs)) (n : p ≠ t) (hl : xs.length ≤ 200) (hx : ∀ x ∈ xs, E9 t H x) : T9 t H (.ref p) := by
  obtain ⟨ds, p1, p2, p3, p4, p5⟩ := e9s hx
  have e := p1.length
  refine ⟨.tuple ds, .tup (by rw [mask_ne n]; exact h) p1, by simp only [PyData.showable, p2], by simp only [PyData.depth]; omega, ?_, trivial⟩
  have := shown_tuple p4
  omega
theorem e9_ints {t : Addr} {H : Hp} {ns : List Int} (h : ∀ n ∈ ns, n.natAbs < 2 ^ 1000) : ∀ x ∈ ns.map V.int, E9 t H x := fun x hx => by
  obtain ⟨m, hm, rfl⟩ := List.mem_map.mp hx
  exact e9_int (h m hm)
theorem t9_ints {t : Addr} {H : Hp} {p : Addr} {ns : List Int} (h : H p = some (.lst (ns.map V.int))) (n : p ≠ t) (hl : ns.length ≤ 200) (hx : ∀ n ∈ ns, n.natAbs < 2 ^ 1000) : T9 t H (.ref p) :=
  t9_list h n (by rw [List.length_map]; exact hl) (e9_ints hx)
theorem t9_rep {t : Addr} {H : Hp} {p : Addr} {k : Nat} {v : Int} (h : H p = some (.lst (List.replicate k [V.int v]).flatten)) (n : p ≠ t) (hl : k ≤ 200) (hv : v.natAbs < 2 ^ 1000) : T9 t H (.ref p) := by
  rw [rep_one] at h
  exact t9_ints h n (by rw [List.length_replicate]; exact hl) fun m hm => by rw [(List.mem_replicate.mp hm).2]; exact hv
theorem rep_any (v : V) : ∀ k : Nat, (List.replicate k [v]).flatten = List.replicate k v
  | 0 => rfl
  | k + 1 => by
    rw [List.replicate_succ, List.replicate_succ, List.flatten_cons, rep_any v k]
    rfl
/-- [ints] -/
theorem t9_one {t : Addr} {H : Hp} {p b : Addr} {ns : List Int} (h : H p = some (.lst [.ref b])) (n : p ≠ t) (hb : H b = some (.lst (ns.map V.int))) (nb : b ≠ t) (hl : ns.length ≤ 40) (hx : ∀ n ∈ ns, n.natAbs < 2 ^ 1000) : T9 t H (.ref p) := by
  obtain ⟨ds, p1, p2, p3, p4, p5, p6⟩ := e9s (t := t) (H := H) (xs := ns.map V.int) fun x hxx => by
    obtain ⟨m, hm, rfl⟩ := List.mem_map.mp hxx
    exact e9_int (hx m hm)
  have e := p1.length
  rw [List.length_map] at e
  have z := shown_list p4
  refine ⟨.list [.list ds], .lst (by rw [mask_ne n]; exact h) (.cons (.lst (by rw [mask_ne nb]; exact hb) p1) .nil), by simp only [PyData.showable, PyData.showableAll, p2, Bool.and_self], by simp only [PyData.depth, PyData.depthAll]; omega, ?_, by show PyData.hasDictAll [.list ds] = false ∧ PyData.canLayAll0 [.list ds] = true; simp only [PyData.hasDictAll, PyData.hasDict, p5, Bool.or_self, PyData.canLayAll0, PyData.canLay0, p6, Bool.and_self, and_self]⟩
  have z2 := shown_list (B := 1102 * 40 + 3) (ds := [.list ds]) fun d hd => by
    rw [List.mem_singleton.mp hd]
    omega
  exact Nat.le_trans z2 (by show (1102 * 40 + 3 + 2) * 1 + 3 ≤ 300000; decide)
/-- [0], (0,) as items -/
theorem e9_list0 {t : Addr} {H : Hp} {p : Addr} (h : H p = some (.lst [.int 0])) (n : p ≠ t) : E9 t H (.ref p) := ⟨.list [.int 0], .lst (by rw [mask_ne n]; exact h) (.cons (.int 0) .nil), by decide, by decide, by decide +kernel, by decide, by decide⟩
theorem e9_tup0 {t : Addr} {H : Hp} {p : Addr} (h : H p = some (.tup [.int 0])) (n : p ≠ t) : E9 t H (.ref p) := ⟨.tuple [.int 0], .tup (by rw [mask_ne n]; exact h) (.cons (.int 0) .nil), by decide, by decide, by decide +kernel, by decide, by decide⟩
/-! ### two that change -/
def But2 (t f : Addr) (H H' : Hp) : Prop := ∀ b o, H b = some o → b ≠ t → b ≠ f → H' b = some o
theorem but2_mask {t f : Addr} {H H' : Hp} (u : But2 t f H H') : But t (mask f H) (mask f H') := fun b o e n => by
  unfold mask at e ⊢
  split at e
  · cases e
  · rename_i nf
    rw [if_neg nf]
    exact u b o e n nf
theorem but_mask {t f : Addr} {H H' : Hp} (u : But t H H') : But t (mask f H) (mask f H') := but2_mask fun b o e n _ => u b o e n
theorem mask_in {t f : Addr} {H H' : Hp} (u : But t H H') (h : H f = none) : But t H (mask f H') := fun b o e n => by
  have : b ≠ f := ne_of_none e h
  rw [mask_ne this]
  exact u b o e n
theorem T9.out {t f : Addr} {H : Hp} {v : V} (h : T9 t (mask f H) v) : T9 t H v := h.but (But.of (mask_same f H))
theorem cut_takeV (xs : List V) (s : Int) (h0 : 0 ≤ s) : cutV xs none (some s) = xs.take s.toNat := by
  obtain ⟨k, rfl⟩ : ∃ k : Nat, s = (k : Int) := ⟨s.toNat, by omega⟩
  unfold cutV
  rw [HT.sIx_none, HT.sIx_nat, Int.toNat_natCast, List.drop_zero, Nat.sub_zero]
  rcases Nat.le_total k xs.length with z | z
  · rw [Nat.min_eq_left z]
  · rw [Nat.min_eq_right z, List.take_of_length_le (Nat.le_refl _), List.take_of_length_le z]
theorem cut_memV {xs : List V} {lo hi : Option Int} {x : V} (h : x ∈ cutV xs lo hi) : x ∈ xs := List.mem_of_mem_drop (List.mem_of_mem_take h)
/-! ### from told data to what is compared -/
mutual
theorem Dq.dp {K : PySem.W.Frag} {H : Hp} : ∀ {v : V} {d : PyData}, Dq H v d → d.hasDict = false → Dp K H v d
  | _, _, .non, _ => .non
  | _, _, .bl b, _ => .bl b
  | _, _, .int i, _ => .int i
  | _, _, .str x, _ => .str x
  | _, _, .lst h1 h2, n => .lst (SqL.of h1) (DqAll.dp h2 (by simp only [PyData.hasDict] at n; exact n))
  | _, _, .tup h1 h2, n => .tup (SqT.of h1) (DqAll.dp h2 (by simp only [PyData.hasDict] at n; exact n))
  | _, _, .emp _, n => by
    simp only [PyData.hasDict] at n
    cases n
theorem DqAll.dp {K : PySem.W.Frag} {H : Hp} : ∀ {vs : List V} {ds : List PyData}, DqAll H vs ds → PyData.hasDictAll ds = false → DpAll K H vs ds
  | _, _, .nil, _ => .nil
  | _, _, .cons h1 h2, n => by
    simp only [PyData.hasDictAll, Bool.or_eq_false_iff] at n
    exact .cons (Dq.dp h1 n.1) (DqAll.dp h2 n.2)
end
theorem eqv_nil (ds : List PyData) : PyData.eqv (.list ds) (.list []) = ds.isEmpty := by cases ds <;> rfl
/-! ### bounds -/
theorem subI_ab {b : Nat} {low : List Int} {f : Int} {s : Nat} (hU : Unt low) (hf : f.natAbs < 2 ^ b) : ∀ (j : Nat) {l : List Int}, Ab b l → Ab (b + 1) (subI low f s j l)
  | 0, l, h => h.mono (Nat.le_succ b)
  | j + 1, l, h => fun n hn => by
    rw [subI] at hn
    rcases List.mem_or_eq_of_mem_set hn with z | z
    · exact subI_ab hU hf j h n z
    · have h1 : ((subI low f s j l).getD (s + j) 0).natAbs < 2 ^ b := by
        rw [List.getD_eq_getElem?_getD, subI_get low f s j l (s + j) (Nat.le_refl _)]
        cases e : l[s + j]? with
        | none => exact Nat.pos_of_ne_zero (by have := Nat.one_le_two_pow (n := b); omega)
        | some x => exact h x (List.mem_of_getElem? e)
      have h2 : (f * low.getD j 0).natAbs < 2 ^ b := by
        rw [List.getD_eq_getElem?_getD]
        cases e : low[j]? with
        | none =>
          show (f * 0).natAbs < 2 ^ b
          rw [Int.mul_zero]
          exact Nat.lt_of_le_of_lt (Nat.zero_le _) hf
        | some x =>
          have hx := hU x (List.mem_of_getElem? e)
          have : x = -1 ∨ x = 0 ∨ x = 1 := by omega
          show (f * x).natAbs < 2 ^ b
          rcases this with rfl | rfl | rfl <;> omega
      rw [Nat.pow_succ]
      omega
theorem divN_ab {low : List Int} (hU : Unt low) : ∀ (k b : Nat) {l : List Int}, Ab b l → Ab (b + k) (divN low k l)
  | 0, _, _, h => h
  | k + 1, b, l, h => by
    rw [divN]
    have hf : (l.getD (low.length - 1 + k) 0).natAbs < 2 ^ b := by
      rw [List.getD_eq_getElem?_getD]
      cases e : l[low.length - 1 + k]? with
      | none => exact Nat.pos_of_ne_zero (by have := Nat.one_le_two_pow (n := b); omega)
      | some x => exact h x (List.mem_of_getElem? e)
    have := divN_ab hU k (b + 1) (subI_ab hU hf (low.length - 1) (s := k) h)
    rw [show b + (k + 1) = b + 1 + k by omega]
    exact this
theorem quo_ab {low l : List Int} (hU : Unt low) {b : Nat} (h : Ab b l) : Ab (b + l.length) (quo low l) := fun n hn => by
  have := divN_ab hU (l.length - (low.length - 1)) b h n (List.mem_of_mem_drop hn)
  exact Nat.lt_of_lt_of_le this (pow_up (by omega))
theorem divs_few : ∀ n, n < 41 → (divs n n).length ≤ 9 := by decide +kernel
theorem foldq_ab {n : Nat} : ∀ (ds : List Nat) (a : List Int) (b : Nat), (∀ d ∈ ds, 1 ≤ d ∧ d ≤ 40) → a.length ≤ n + 1 → Ab b a → Ab (b + (n + 1) * ds.length) (ds.foldl (fun a d => quo (cyc d) a) a)
  | [], a, b, _, _, h => h
  | d :: ds, a, b, hd, hl, h => by
    have h1 := hd d List.mem_cons_self
    rw [List.foldl_cons]
    have h2 := quo_ab (cyc_unt h1.1 h1.2) h
    have := foldq_ab (n := n) ds (quo (cyc d) a) (b + (n + 1)) (fun x hx => hd x (List.mem_cons_of_mem _ hx)) (by rw [quo_len]; omega) (h2.mono (by omega))
    rw [List.length_cons, Nat.mul_succ]
    rw [show b + ((n + 1) * ds.length + (n + 1)) = b + (n + 1) + (n + 1) * ds.length by omega]
    exact this
theorem xn1_ab (n : Nat) : Ab 1 (xn1 n) := fun x hx => by
  unfold xn1 at hx
  rcases List.mem_append.mp hx with h | h
  · rcases List.mem_append.mp h with h | h
    · rw [List.mem_singleton.mp h]
      decide
    · rw [(List.mem_replicate.mp h).2]
      decide
  · rw [List.mem_singleton.mp h]
    decide
theorem hidQ_ab {ns : List Int} (l1 : 1 ≤ ns.length) (h : ns.length ≤ 40) : Ab 400 (hidQ ns) := by
  have h1 := foldq_ab (n := ns.length) (blindL ns) (xn1 ns.length) 1 (fun d hd => by have := blind_mem hd; omega) (by rw [xn1_len l1]; exact Nat.le_refl _) (xn1_ab _)
  have h2 : (blindL ns).length ≤ 9 := Nat.le_trans (List.length_filter_le _ _) (divs_few _ (by omega))
  have h3 : (ns.length + 1) * (blindL ns).length ≤ 41 * 9 := Nat.mul_le_mul (by omega) h2
  exact Ab.mono h1 (by omega)
end Sd

namespace Sd
open PySem PySem.Spec PyProof.Rows L2

/-! ### polynomials that act on sequences -/
abbrev Sq := Int → Int
def act : List Int → Sq → Sq
  | [], _, _ => 0
  | a :: p, s, i => a * s i + act p s (i + 1)
theorem act_congr {s t : Sq} : ∀ {p : List Int} {i i' : Int}, (∀ j : Nat, j < p.length → s (i + j) = t (i' + j)) → act p s i = act p t i'
  | [], _, _, _ => rfl
  | a :: p, i, i', h => by
    have h0 := h 0 (Nat.succ_pos _)
    have e0 : s i = t i' := by
      have : s (i + ((0 : Nat) : Int)) = t (i' + ((0 : Nat) : Int)) := h0
      rw [show i + ((0 : Nat) : Int) = i by omega, show i' + ((0 : Nat) : Int) = i' by omega] at this
      exact this
    have ih := act_congr (s := s) (t := t) (p := p) (i := i + 1) (i' := i' + 1) fun j hj => by
      have := h (j + 1) (Nat.succ_lt_succ hj)
      rw [show i + ((j + 1 : Nat) : Int) = i + 1 + (j : Int) by omega, show i' + ((j + 1 : Nat) : Int) = i' + 1 + (j : Int) by omega] at this
      exact this
    rw [act, act, e0, ih]
theorem act_shift (p : List Int) (s : Sq) (c i : Int) : act p (fun k => s (k + c)) i = act p s (i + c) :=
  act_congr fun j _ => by show s (i + j + c) = s (i + c + j); rw [show i + (j : Int) + c = i + c + j by omega]
theorem act_add : ∀ (p : List Int) (s t : Sq) (i : Int), act p (fun k => s k + t k) i = act p s i + act p t i
  | [], _, _, _ => rfl
  | a :: p, s, t, i => by
    rw [act, act, act, act_add p s t, Int.mul_add]
    omega
theorem act_mul : ∀ (p : List Int) (c : Int) (s : Sq) (i : Int), act p (fun k => c * s k) i = c * act p s i
  | [], c, _, _ => (Int.mul_zero c).symm
  | a :: p, c, s, i => by
    rw [act, act, act_mul p c s, Int.mul_add, ← Int.mul_assoc, ← Int.mul_assoc, Int.mul_comm a c]
theorem act_zero (p : List Int) (i : Int) : act p (fun _ => 0) i = 0 := by
  have := act_mul p 0 (fun _ => 0) i
  exact (by simpa using this)
theorem act_null {p : List Int} {s : Sq} (h : ∀ i, s i = 0) (i : Int) : act p s i = 0 := by
  rw [show s = fun _ => 0 from funext h]
  exact act_zero p i
theorem act_comm : ∀ (p q : List Int) (s : Sq) (i : Int), act p (act q s) i = act q (act p s) i
  | [], q, s, i => by
    have e : act [] s = fun _ => 0 := rfl
    rw [e, act_zero]
    rfl
  | a :: p, q, s, i => by
    have e : act (a :: p) s = fun k => a * s k + act p s (k + 1) := rfl
    rw [e, act_add q (fun k => a * s k) (fun k => act p s (k + 1)), act_mul, act_shift, ← act_comm p q s (i + 1)]
    rfl
theorem act_append : ∀ (p q : List Int) (s : Sq) (i : Int), act (p ++ q) s i = act p s i + act q s (i + p.length)
  | [], q, s, i => by
    show act q s i = 0 + act q s (i + ((0 : Nat) : Int))
    rw [Int.zero_add, show i + ((0 : Nat) : Int) = i by omega]
  | a :: p, q, s, i => by
    rw [List.cons_append, act, act, act_append p q s, List.length_cons, show i + 1 + (p.length : Int) = i + ((p.length + 1 : Nat) : Int) by omega]
    omega
theorem act_zeros (s : Sq) : ∀ (k : Nat) (i : Int), act (List.replicate k 0) s i = 0
  | 0, _ => rfl
  | k + 1, i => by
    rw [List.replicate_succ, act, act_zeros s k, Int.zero_mul, Int.zero_add]
theorem act_set : ∀ (p : List Int) (m : Nat) (v : Int) (s : Sq) (i : Int), m < p.length → act (p.set m v) s i = act p s i + (v - p.getD m 0) * s (i + m)
  | [], _, _, _, _, h => absurd h (Nat.not_lt_zero _)
  | a :: p, 0, v, s, i, _ => by
    show v * s i + act p s (i + 1) = a * s i + act p s (i + 1) + (v - a) * s (i + ((0 : Nat) : Int))
    rw [show i + ((0 : Nat) : Int) = i by omega, Int.sub_mul]
    omega
  | a :: p, m + 1, v, s, i, h => by
    have ih := act_set p m v s (i + 1) (Nat.lt_of_succ_lt_succ h)
    show a * s i + act (p.set m v) s (i + 1) = a * s i + act p s (i + 1) + (v - p.getD m 0) * s (i + ((m + 1 : Nat) : Int))
    rw [ih, show i + 1 + (m : Int) = i + ((m + 1 : Nat) : Int) by omega]
    omega
/-! ### division -/
theorem subI_take {low : List Int} {f : Int} {s n : Nat} : ∀ (j : Nat) (l : List Int), s + j ≤ n → n ≤ l.length → (subI low f s j l).take n = subI low f s j (l.take n)
  | 0, _, _, _ => rfl
  | j + 1, l, h, hn => by
    rw [subI, subI, List.take_set, subI_take j l (by omega) hn]
    congr 2
    rw [← subI_take j l (by omega) hn, List.getD_eq_getElem?_getD, List.getD_eq_getElem?_getD, List.getElem?_take_of_lt (by omega)]
theorem act_subI {low : List Int} {f : Int} {k : Nat} (s : Sq) (i : Int) : ∀ (j : Nat) (l : List Int), j ≤ low.length → k + j ≤ l.length → act (subI low f k j l) s i = act l s i - f * act (low.take j) s (i + k)
  | 0, l, _, _ => by
    show act l s i = act l s i - f * 0
    rw [Int.mul_zero, Int.sub_zero]
  | j + 1, l, h, hl => by
    obtain ⟨c, hc⟩ : ∃ c, low[j]? = some c := ⟨_, List.getElem?_eq_getElem (by omega)⟩
    rw [subI, act_set _ _ _ _ _ (by rw [subI_len]; omega), act_subI s i j l (by omega) (by omega), List.take_add_one, hc, getD_at hc]
    show _ = act l s i - f * act (low.take j ++ [c]) s (i + k)
    rw [act_append, List.length_take, show min j low.length = j by omega]
    show _ = act l s i - f * (act (low.take j) s (i + k) + (c * s (i + k + j) + 0))
    rw [show i + (k : Int) + (j : Int) = i + ((k + j : Nat) : Int) by omega, Int.mul_add, Int.add_zero, ← Int.mul_assoc]
    have : ((subI low f k j l).getD (k + j) 0 - f * c - (subI low f k j l).getD (k + j) 0) * s (i + ((k + j : Nat) : Int)) = -(f * c * s (i + ((k + j : Nat) : Int))) := by
      rw [show (subI low f k j l).getD (k + j) 0 - f * c - (subI low f k j l).getD (k + j) 0 = -(f * c) by omega, Int.neg_mul]
    rw [this]
    omega
theorem divN_get (low : List Int) : ∀ (k : Nat) (l : List Int) (i : Nat), low.length - 1 + k ≤ i → (divN low k l)[i]? = l[i]?
  | 0, _, _, _ => rfl
  | k + 1, l, i, h => by
    rw [divN, divN_get low k _ i (by omega), subI_get low _ _ _ l i (by omega)]
/-- the highest coefficient is 1 -/
def Mon (low : List Int) : Prop := ∃ p, low = p ++ [1]
theorem Mon.len {low : List Int} (h : Mon low) : low.take (low.length - 1) ++ [1] = low := by
  obtain ⟨p, rfl⟩ := h
  rw [List.length_append]
  show (p ++ [1]).take (p.length + 1 - 1) ++ [1] = p ++ [1]
  rw [Nat.add_sub_cancel, List.take_left]
theorem act_divN {low : List Int} (hM : Mon low) (s : Sq) (i : Int) : ∀ (k : Nat) (l : List Int), low.length - 1 + k ≤ l.length →
    act (l.take (low.length - 1 + k)) s i = act ((divN low k l).take (low.length - 1)) s i + act (((divN low k l).drop (low.length - 1)).take k) (act low s) i
  | 0, l, _ => by
    show act (l.take (low.length - 1)) s i = act (l.take (low.length - 1)) s i + act ((l.drop (low.length - 1)).take 0) (act low s) i
    rw [List.take_zero]
    show _ = _ + 0
    rw [Int.add_zero]
  | k + 1, l, hl => by
    have hl1 : 1 ≤ low.length := by
      obtain ⟨p, rfl⟩ := hM
      rw [List.length_append]
      show 1 ≤ p.length + 1
      omega
    obtain ⟨f, hf⟩ : ∃ f, l[low.length - 1 + k]? = some f := ⟨_, List.getElem?_eq_getElem (by omega)⟩
    have hf' : l.getD (low.length - 1 + k) 0 = f := getD_at hf
    have ih := act_divN hM s i k (subI low f k (low.length - 1) l) (by rw [subI_len]; omega)
    have e1 : l.take (low.length - 1 + (k + 1)) = l.take (low.length - 1 + k) ++ [f] := by
      rw [← Nat.add_assoc, List.take_add_one, hf]
      rfl
    have hlt : (l.take (low.length - 1 + k)).length = low.length - 1 + k := by rw [List.length_take]; omega
    rw [subI_take (n := low.length - 1 + k) _ _ (by omega) (by omega), act_subI s i (low.length - 1) _ (by omega) (by omega)] at ih
    rw [divN, hf']
    have hg : (divN low k (subI low f k (low.length - 1) l))[low.length - 1 + k]? = some f := by
      rw [divN_get low k _ _ (Nat.le_refl _), subI_get low f k _ l _ (by omega)]
      exact hf
    have e2 : ((divN low k (subI low f k (low.length - 1) l)).drop (low.length - 1)).take (k + 1) = ((divN low k (subI low f k (low.length - 1) l)).drop (low.length - 1)).take k ++ [f] := by
      rw [List.take_add_one, List.getElem?_drop, hg]
      rfl
    have hlk : (((divN low k (subI low f k (low.length - 1) l)).drop (low.length - 1)).take k).length = k := by
      rw [List.length_take, List.length_drop, divN_len, subI_len]
      omega
    have em : act low s (i + k) = act (low.take (low.length - 1)) s (i + k) + s (i + k + (low.length - 1 : Nat)) := by
      have := act_append (low.take (low.length - 1)) [1] s (i + k)
      rw [hM.len, List.length_take, show min (low.length - 1) low.length = low.length - 1 by omega] at this
      rw [this]
      show _ + (1 * s _ + 0) = _
      rw [Int.one_mul, Int.add_zero]
    rw [e1, act_append, hlt, e2, act_append, hlk]
    show act (l.take (low.length - 1 + k)) s i + (f * s (i + ((low.length - 1 + k : Nat) : Int)) + 0) = _ + (_ + (f * act low s (i + k) + 0))
    rw [em, Int.mul_add, show i + ((low.length - 1 + k : Nat) : Int) = i + (k : Int) + ((low.length - 1 : Nat) : Int) by omega]
    omega
theorem act_div {low : List Int} (hM : Mon low) (l : List Int) (s : Sq) (i : Int) : act l s i = act (rst low l) s i + act (quo low l) (act low s) i := by
  by_cases c : low.length - 1 ≤ l.length
  · have := act_divN hM s i (l.length - (low.length - 1)) l (by omega)
    rw [List.take_of_length_le (by omega)] at this
    rw [this]
    unfold rst quo divL
    rw [List.take_of_length_le (i := l.length - (low.length - 1)) (by rw [List.length_drop, divN_len]; exact Nat.le_refl _)]
  · unfold rst quo divL
    rw [show l.length - (low.length - 1) = 0 by omega]
    show act l s i = act (l.take (low.length - 1)) s i + act (l.drop (low.length - 1)) (act low s) i
    rw [List.take_of_length_le (by omega), List.drop_of_length_le (by omega)]
    show _ = _ + 0
    rw [Int.add_zero]
theorem act_all0 {p : List Int} (h : (p.all fun x => decide (x = 0)) = true) (s : Sq) (i : Int) : act p s i = 0 := by
  have e : p = List.replicate p.length 0 := List.eq_replicate_iff.mpr ⟨rfl, fun b hb => of_decide_eq_true (List.all_eq_true.mp h b hb)⟩
  rw [e]
  exact act_zeros s _ i
theorem act_exact {low l : List Int} (hM : Mon low) (h : ((rst low l).all fun x => decide (x = 0)) = true) (s : Sq) (i : Int) : act l s i = act (quo low l) (act low s) i := by
  rw [act_div hM, act_all0 h, Int.zero_add]
end Sd

namespace Sd
open PySem PySem.Spec PyProof.Rows L2

/-! ### facts of C(1) to C(40) -/
theorem cyc_mon0 : ∀ p, p < 41 → 1 ≤ p → (cyc p).getLast? = some 1 := by decide +kernel
theorem cyc_mon {p : Nat} (h1 : 1 ≤ p) (h : p ≤ 40) : Mon (cyc p) := by
  have := cyc_mon0 p (by omega) h1
  obtain ⟨q, hq⟩ := List.getLast?_eq_some_iff.mp this
  exact ⟨q, hq⟩
def all0 (l : List Int) : Bool := l.all fun x => decide (x = 0)
theorem cyc_xn0 : ∀ p, p < 41 → 1 ≤ p → all0 (rst (cyc p) (xn1 p)) = true := by decide +kernel
def phi (g : Nat) : Nat → List Int
  | 0 => [1]
  | k + 1 => (1 :: List.replicate (g - 1) 0) ++ phi g k
theorem cyc_phi0 : ∀ d, d < 41 → ∀ g, g < d → 1 ≤ g → d % g = 0 → all0 (rst (cyc d) (phi g (d / g - 1))) = true := by decide +kernel
def chain : List Nat → List Int → Bool
  | [], a => decide (a = [1])
  | d :: ds, a => all0 (rst (cyc d) a) && chain ds (quo (cyc d) a)
theorem chain0 : ∀ n, n < 41 → 1 ≤ n → chain (divs n n) (xn1 n) = true := by decide +kernel
end Sd

namespace Sd
open PySem PySem.Spec PyProof.Rows L2

/-! ### many act one behind the other -/
def acts : List Nat → Sq → Sq
  | [], s => s
  | d :: ds, s => acts ds (act (cyc d) s)
theorem acts_congr {s t : Sq} (h : ∀ i, s i = t i) (ds : List Nat) (i : Int) : acts ds s i = acts ds t i := by rw [show s = t from funext h]
theorem acts_act : ∀ (ds : List Nat) (p : List Int) (s : Sq) (i : Int), acts ds (act p s) i = act p (acts ds s) i
  | [], _, _, _ => rfl
  | d :: ds, p, s, i => by
    rw [acts, acts, acts_congr (t := act p (act (cyc d) s)) (fun k => act_comm (cyc d) p s k), acts_act ds p]
theorem acts_null {s : Sq} (h : ∀ i, s i = 0) : ∀ (ds : List Nat) (i : Int), acts ds s i = 0
  | [], i => h i
  | d :: ds, i => acts_null (s := act (cyc d) s) (act_null h) ds i
theorem acts_filter (p : Nat → Bool) : ∀ (ds : List Nat) (s : Sq) (i : Int), acts ds s i = acts (ds.filter p) (acts (ds.filter fun d => !p d) s) i
  | [], _, _ => rfl
  | d :: ds, s, i => by
    rw [acts, acts_filter p ds, List.filter_cons, List.filter_cons]
    cases h : p d with
    | true =>
      rw [if_pos rfl, if_neg (by decide), acts]
      exact acts_congr (fun k => acts_act _ _ _ _) _ _
    | false =>
      rw [if_neg (by decide), if_pos (by decide), acts]
theorem xn1_act {n : Nat} (h : 1 ≤ n) (s : Sq) (i : Int) : act (xn1 n) s i = s (i + n) - s i := by
  unfold xn1
  rw [act_append, act_append, act_zeros, List.length_append, List.length_replicate]
  show -1 * s i + 0 + 0 + (1 * s (i + ((1 + (n - 1) : Nat) : Int)) + 0) = _
  rw [show ((1 + (n - 1) : Nat) : Int) = (n : Int) by omega, Int.one_mul]
  omega
theorem chain_act : ∀ {ds : List Nat} {a : List Int}, (∀ d ∈ ds, 1 ≤ d ∧ d ≤ 40) → chain ds a = true → ∀ (s : Sq) (i : Int), act a s i = acts ds s i
  | [], a, _, h, s, i => by
    have e : a = [1] := of_decide_eq_true h
    rw [e]
    show 1 * s i + 0 = s i
    omega
  | d :: ds, a, hd, h, s, i => by
    have h' := (Bool.and_eq_true _ _).mp h
    have h1 := hd d List.mem_cons_self
    rw [act_exact (cyc_mon h1.1 h1.2) h'.1, chain_act (fun x hx => hd x (List.mem_cons_of_mem _ hx)) h'.2]
    rfl
theorem all_act {n : Nat} (h1 : 1 ≤ n) (h : n ≤ 40) (s : Sq) (i : Int) : acts (divs n n) s i = s (i + n) - s i := by
  rw [← chain_act (a := xn1 n) (fun d hd => by have := divs_mem.mp hd; omega) (chain0 n (by omega) h1), xn1_act h1]
/-! ### what two different ones both kill is 0 -/
def PerS (w : Sq) (d : Nat) : Prop := ∀ i, w (i + d) = w i
theorem PerS.mul {w : Sq} {d : Nat} (h : PerS w d) : ∀ (k : Nat) (i : Int), w (i + ((k * d : Nat) : Int)) = w i
  | 0, i => by rw [Nat.zero_mul, show i + ((0 : Nat) : Int) = i by omega]
  | k + 1, i => by
    rw [Nat.succ_mul, show i + ((k * d + d : Nat) : Int) = i + ((k * d : Nat) : Int) + (d : Int) by omega, h, h.mul k]
theorem PerS.mod {w : Sq} {d e : Nat} (hd : PerS w d) (he : PerS w e) : PerS w (e % d) := fun i => by
  have h1 := hd.mul (e / d) (i + ((e % d : Nat) : Int))
  have h2 : i + ((e % d : Nat) : Int) + ((e / d * d : Nat) : Int) = i + (e : Int) := by
    have := Nat.mod_add_div e d
    rw [Nat.mul_comm] at this
    omega
  rw [h2, he] at h1
  exact h1.symm
theorem PerS.gcd {w : Sq} (d e : Nat) : PerS w d → PerS w e → PerS w (Nat.gcd d e) := by
  induction d, e using Nat.gcd.induction with
  | H0 e => intro _ he; rw [Nat.gcd_zero_left]; exact he
  | H1 d e _ ih => intro hd he; rw [Nat.gcd_rec]; exact ih (hd.mod he) hd
theorem phi_act {w : Sq} {g : Nat} (h1 : 1 ≤ g) (h : PerS w g) : ∀ (k : Nat) (i : Int), act (phi g k) w i = ((k : Int) + 1) * w i
  | 0, i => by
    show 1 * w i + 0 = ((0 : Nat) + 1 : Int) * w i
    rw [show (((0 : Nat) : Int) + 1) = 1 by omega, Int.add_zero]
  | k + 1, i => by
    rw [phi, act_append, List.length_cons, List.length_replicate, phi_act h1 h k]
    rw [show i + ((g - 1 + 1 : Nat) : Int) = i + (g : Int) by omega, h i]
    show 1 * w i + act (List.replicate (g - 1) 0) w (i + 1) + ((k : Int) + 1) * w i = (((k + 1 : Nat) : Int) + 1) * w i
    rw [act_zeros, show (((k + 1 : Nat) : Int) + 1) = 1 + ((k : Int) + 1) by omega, Int.add_mul 1]
    omega
theorem cyc_per {w : Sq} {d : Nat} (h1 : 1 ≤ d) (h : d ≤ 40) (hw : ∀ i, act (cyc d) w i = 0) : PerS w d := fun i => by
  have e := act_exact (cyc_mon h1 h) (cyc_xn0 d (by omega) h1) w i
  rw [act_null hw, xn1_act h1] at e
  omega
theorem cyc_low {w : Sq} {d g : Nat} (h : d ≤ 40) (hg : g < d) (hg1 : 1 ≤ g) (hz : d % g = 0) (hw : ∀ i, act (cyc d) w i = 0) (hp : PerS w g) (i : Int) : w i = 0 := by
  have e := act_exact (cyc_mon (by omega) h) (cyc_phi0 d (by omega) g hg hg1 hz) w i
  rw [act_null hw, phi_act hg1 hp] at e
  have : 0 < d / g := Nat.div_pos (by omega) hg1
  rcases Int.mul_eq_zero.mp e with z | z
  · omega
  · exact z
theorem two_kill {w : Sq} {d e : Nat} (d1 : 1 ≤ d) (d40 : d ≤ 40) (e1 : 1 ≤ e) (e40 : e ≤ 40) (ne : d ≠ e) (hd : ∀ i, act (cyc d) w i = 0) (he : ∀ i, act (cyc e) w i = 0) (i : Int) : w i = 0 := by
  have hg := PerS.gcd d e (cyc_per d1 d40 hd) (cyc_per e1 e40 he)
  have g1 : 1 ≤ Nat.gcd d e := Nat.gcd_pos_of_pos_left e d1
  have gd := Nat.gcd_dvd_left d e
  have ge := Nat.gcd_dvd_right d e
  by_cases c : Nat.gcd d e < d
  · exact cyc_low d40 c g1 (Nat.mod_eq_zero_of_dvd gd) hd hg i
  · have hd' : Nat.gcd d e = d := Nat.le_antisymm (Nat.le_of_dvd d1 gd) (by omega)
    rw [hd'] at ge hg
    have : d ≤ e := Nat.le_of_dvd e1 ge
    exact cyc_low e40 (by omega) d1 (Nat.mod_eq_zero_of_dvd ge) he hg i
theorem peel {d : Nat} (d1 : 1 ≤ d) (d40 : d ≤ 40) : ∀ {T : List Nat} {w : Sq}, (∀ e ∈ T, e ≠ d ∧ 1 ≤ e ∧ e ≤ 40) → (∀ i, act (cyc d) w i = 0) → (∀ i, acts T w i = 0) → ∀ i, w i = 0
  | [], _, _, _, h, i => h i
  | e :: T, w, ht, hd, h, i => by
    obtain ⟨h1, h2, h3⟩ := ht e List.mem_cons_self
    have hw1 : ∀ k, act (cyc e) w k = 0 := peel d1 d40 (T := T) (w := act (cyc e) w) (fun x hx => ht x (List.mem_cons_of_mem _ hx)) (fun k => by rw [act_comm, act_null hd]) h
    exact two_kill d1 d40 h2 h3 (fun z => h1 z.symm) hd hw1 i
theorem divs_one {n : Nat} : ∀ {k d : Nat}, d ∈ divs n k → (divs n k).filter (fun e => decide (e = d)) = [d]
  | 0, d, h => by
    rw [divs] at h
    exact (List.not_mem_nil h).elim
  | k + 1, d, h => by
    rw [divs] at h ⊢
    by_cases c : n % (k + 1) = 0
    · rw [if_pos c] at h ⊢
      rw [List.filter_append]
      by_cases z : d = k + 1
      · subst z
        have e1 : (divs n k).filter (fun e => decide (e = k + 1)) = [] := List.filter_eq_nil_iff.mpr fun a ha => by
          have := (divs_mem.mp ha).2.1
          intro y
          have := of_decide_eq_true y
          omega
        rw [e1, List.filter_cons, if_pos (decide_eq_true rfl), List.filter_nil, List.nil_append]
      · have hm : d ∈ divs n k := by
          rcases List.mem_append.mp h with y | y
          · exact y
          · exact absurd (List.mem_singleton.mp y) z
        rw [divs_one hm, List.filter_cons, if_neg (by intro y; exact z (of_decide_eq_true y).symm), List.filter_nil, List.append_nil]
    · rw [if_neg c] at h ⊢
      exact divs_one h
/-- each of some kills what the others leave: the rest kill it -/
theorem kill {n : Nat} (n1 : 1 ≤ n) (n40 : n ≤ 40) {u : Sq} (hp : PerS u n) : ∀ (T : List Nat), (∀ d ∈ T, d ∈ divs n n ∧ ∀ i, acts ((divs n n).filter fun e => decide (e ≠ d)) u i = 0) → ∀ i, acts ((divs n n).filter fun e => decide (e ∉ T)) u i = 0
  | [], _, i => by
    have e : (divs n n).filter (fun e => decide (e ∉ ([] : List Nat))) = divs n n := List.filter_eq_self.mpr fun a _ => decide_eq_true (List.not_mem_nil)
    rw [e, all_act n1 n40, hp]
    omega
  | d :: T, h, i => by
    have hT := kill n1 n40 hp T fun x hx => h x (List.mem_cons_of_mem _ hx)
    obtain ⟨hd, hk⟩ := h d List.mem_cons_self
    have hd40 := divs_mem.mp hd
    by_cases c : d ∈ T
    · have e : (divs n n).filter (fun e => decide (e ∉ d :: T)) = (divs n n).filter (fun e => decide (e ∉ T)) := List.filter_congr fun a _ => decide_eq_decide.mpr ⟨fun y z => y (List.mem_cons_of_mem _ z), fun y z => by
        rcases List.mem_cons.mp z with w | w
        · subst w; exact y c
        · exact y w⟩
      rw [e]
      exact hT i
    · refine peel (d := d) hd40.1 (by omega) (T := (divs n n).filter fun e => decide (e ∈ T)) (w := acts ((divs n n).filter fun e => decide (e ∉ d :: T)) u) (fun e he => ?_) (fun k => ?_) (fun k => ?_) i
      · have h1 := List.mem_filter.mp he
        have h2 := of_decide_eq_true h1.2
        have h3 := divs_mem.mp h1.1
        exact ⟨fun z => c (by rw [← z]; exact h2), h3.1, by omega⟩
      · have h1 := acts_filter (fun e => decide (e ≠ d)) ((divs n n).filter fun e => decide (e ∉ T)) u k
        rw [hT k, List.filter_filter, List.filter_filter] at h1
        have e1 : (divs n n).filter (fun a => decide (a ≠ d) && decide (a ∉ T)) = (divs n n).filter fun e => decide (e ∉ d :: T) := List.filter_congr fun a _ => by
          rw [← Bool.decide_and]
          exact decide_eq_decide.mpr ⟨fun y z => by rcases List.mem_cons.mp z with w | w; exact y.1 w; exact y.2 w, fun y => ⟨fun z => y (by rw [z]; exact List.mem_cons_self), fun z => y (List.mem_cons_of_mem _ z)⟩⟩
        have e2 : (divs n n).filter (fun a => (!decide (a ≠ d)) && decide (a ∉ T)) = [d] := by
          rw [← divs_one hd]
          refine List.filter_congr fun a _ => ?_
          by_cases y : a = d
          · subst y
            rw [decide_eq_false (fun z => z rfl), decide_eq_true c, decide_eq_true rfl]
            rfl
          · rw [decide_eq_true y, decide_eq_false y]
            rfl
        rw [e1, e2] at h1
        have h2 : acts ((divs n n).filter fun e => decide (e ∉ d :: T)) (acts [d] u) k = act (cyc d) (acts ((divs n n).filter fun e => decide (e ∉ d :: T)) u) k := acts_act _ _ _ _
        rw [← h2]
        exact h1.symm
      · have h1 := acts_filter (fun e => decide (e ∈ T)) ((divs n n).filter fun e => decide (e ≠ d)) u k
        rw [hk k, List.filter_filter, List.filter_filter] at h1
        have e1 : (divs n n).filter (fun a => decide (a ∈ T) && decide (a ≠ d)) = (divs n n).filter fun e => decide (e ∈ T) := List.filter_congr fun a _ => by
          rw [← Bool.decide_and]
          exact decide_eq_decide.mpr ⟨fun y => y.1, fun y => ⟨y, fun z => c (by rw [← z]; exact y)⟩⟩
        have e2 : (divs n n).filter (fun a => (!decide (a ∈ T)) && decide (a ≠ d)) = (divs n n).filter fun e => decide (e ∉ d :: T) := List.filter_congr fun a _ => by
          rw [← decide_not, ← Bool.decide_and]
          exact decide_eq_decide.mpr ⟨fun y z => by rcases List.mem_cons.mp z with w | w; exact y.2 w; exact y.1 w, fun y => ⟨fun z => y (List.mem_cons_of_mem _ z), fun z => y (by rw [z]; exact List.mem_cons_self)⟩⟩
        rw [e1, e2] at h1
        exact h1.symm
/-! ### the disc as a sequence -/
def dlt (n : Nat) : Sq := fun i => if i % (n : Int) = 0 then 1 else 0
theorem dlt_per {n : Nat} : PerS (dlt n) n := fun i => by
  unfold dlt
  rw [Int.add_emod_right]
theorem act_dlt {n : Nat} (h1 : 1 ≤ n) : ∀ (p : List Int), p.length ≤ n → ∀ i : Int, act p (dlt n) i = p.getD (((-i) % (n : Int)).toNat) 0
  | [], _, i => by
    rw [List.getD_eq_getElem?_getD, List.getElem?_nil]
    rfl
  | a :: p, h, i => by
    rw [List.length_cons] at h
    rw [act, act_dlt h1 p (by omega)]
    have hm := mod_in (i := -i) (show 0 < n by omega)
    have hm2 := mod_in (i := -(i + 1)) (show 0 < n by omega)
    by_cases c : i % (n : Int) = 0
    · have e0 : (-i) % (n : Int) = 0 := Int.emod_eq_zero_of_dvd (Int.dvd_neg.mpr (Int.dvd_of_emod_eq_zero c))
      have e1 : (-(i + 1)) % (n : Int) = n - 1 := by
        have : (-(i + 1)) % (n : Int) = (((-i) % (n : Int)) + ((n : Int) - 1)) % (n : Int) := by
          rw [Int.emod_add_emod, show -i + ((n : Int) - 1) = -(i + 1) + (n : Int) by omega, Int.add_emod_right]
        rw [this, e0, Int.zero_add, Int.emod_eq_of_lt (by omega) (by omega)]
      rw [e0, e1]
      show a * dlt n i + p.getD ((n : Int) - 1).toNat 0 = a
      have e2 : p.getD ((n : Int) - 1).toNat 0 = 0 := by
        rw [List.getD_eq_getElem?_getD, List.getElem?_eq_none (by omega)]
        rfl
      rw [e2]
      unfold dlt
      rw [if_pos c]
      omega
    · have hpos : 0 < (-i) % (n : Int) := by
        rcases Int.lt_or_eq_of_le hm.1 with y | y
        · exact y
        · exact absurd (Int.emod_eq_zero_of_dvd (Int.dvd_neg.mp (Int.dvd_of_emod_eq_zero y.symm))) c
      have e1 : (-(i + 1)) % (n : Int) = (-i) % (n : Int) - 1 := by
        have : (-(i + 1)) % (n : Int) = (((-i) % (n : Int)) - 1) % (n : Int) := by
          rw [Int.emod_sub_emod, show -i - 1 = -(i + 1) by omega]
        rw [this, Int.emod_eq_of_lt (by omega) (by omega)]
      rw [e1]
      have e3 : ((-i) % (n : Int)).toNat = ((-i) % (n : Int) - 1).toNat + 1 := by omega
      rw [e3, List.getD_cons_succ]
      unfold dlt
      rw [if_neg c, Int.mul_zero, Int.zero_add]
/-- all that are not blind kill a disc, counted backwards -/
theorem blind_kill {ns : List Int} (l1 : 1 ≤ ns.length) (l40 : ns.length ≤ 40) (i : Int) : acts ((divs ns.length ns.length).filter fun e => decide (e ∉ blindL ns)) (act ns (dlt ns.length)) i = 0 := by
  refine kill l1 l40 (fun k => ?_) (blindL ns) (fun d hd => ⟨(List.mem_filter.mp hd).1, fun k => ?_⟩) i
  · have := act_shift ns (dlt ns.length) ns.length k
    rw [← this]
    exact act_congr fun j _ => dlt_per _
  · have hm := blind_mem hd
    have hb : blB ns d = true := (List.mem_filter.mp hd).2
    have e1 : act ns (dlt ns.length) = act (quo (cyc d) ns) (act (cyc d) (dlt ns.length)) := funext fun m => act_exact (cyc_mon hm.1 (by omega)) hb _ m
    rw [e1, acts_act]
    refine act_null (fun m => ?_) k
    have h1 := acts_filter (fun e => decide (e ≠ d)) (divs ns.length ns.length) (dlt ns.length) m
    have e2 : (divs ns.length ns.length).filter (fun a => !decide (a ≠ d)) = [d] := by
      rw [← divs_one (List.mem_filter.mp hd).1]
      refine List.filter_congr fun a _ => ?_
      by_cases y : a = d
      · rw [decide_eq_true y, decide_eq_false (fun z => z y)]
        rfl
      · rw [decide_eq_false y, decide_eq_true y]
        rfl
    rw [all_act l1 l40, dlt_per, e2] at h1
    have h2 : acts ((divs ns.length ns.length).filter fun e => decide (e ≠ d)) (acts [d] (dlt ns.length)) m = acts ((divs ns.length ns.length).filter fun e => decide (e ≠ d)) (act (cyc d) (dlt ns.length)) m := rfl
    rw [← h2, ← h1]
    omega
/-! ### products -/
/-- f times q added to l at s, s + 1 .. -/
def addI (q : List Int) (f : Int) (s : Nat) : Nat → List Int → List Int
  | 0, l => l
  | j + 1, l => (addI q f s j l).set (s + j) ((addI q f s j l).getD (s + j) 0 + f * q.getD j 0)
def mulN (p q : List Int) : Nat → List Int
  | 0 => List.replicate (p.length + q.length - 1) 0
  | i + 1 => addI q (p.getD i 0) i q.length (mulN p q i)
def mulL (p q : List Int) : List Int := mulN p q p.length
theorem addI_len (q : List Int) (f : Int) (s : Nat) : ∀ (j : Nat) (l : List Int), (addI q f s j l).length = l.length
  | 0, _ => rfl
  | j + 1, l => by
    rw [addI, List.length_set, addI_len q f s j l]
theorem mulN_len (p q : List Int) : ∀ i, (mulN p q i).length = p.length + q.length - 1
  | 0 => List.length_replicate
  | i + 1 => by rw [mulN, addI_len, mulN_len p q i]
theorem act_addI {q : List Int} {f : Int} {k : Nat} (s : Sq) (i : Int) : ∀ (j : Nat) (l : List Int), j ≤ q.length → k + j ≤ l.length → act (addI q f k j l) s i = act l s i + f * act (q.take j) s (i + k)
  | 0, l, _, _ => by
    show act l s i = act l s i + f * 0
    rw [Int.mul_zero, Int.add_zero]
  | j + 1, l, h, hl => by
    obtain ⟨c, hc⟩ : ∃ c, q[j]? = some c := ⟨_, List.getElem?_eq_getElem (by omega)⟩
    rw [addI, act_set _ _ _ _ _ (by rw [addI_len]; omega), act_addI s i j l (by omega) (by omega), List.take_add_one, hc, getD_at hc]
    show _ = act l s i + f * act (q.take j ++ [c]) s (i + k)
    rw [act_append, List.length_take, show min j q.length = j by omega]
    show _ = act l s i + f * (act (q.take j) s (i + k) + (c * s (i + k + j) + 0))
    rw [show i + (k : Int) + (j : Int) = i + ((k + j : Nat) : Int) by omega, Int.mul_add, Int.add_zero, ← Int.mul_assoc]
    rw [show (addI q f k j l).getD (k + j) 0 + f * c - (addI q f k j l).getD (k + j) 0 = f * c by omega]
    omega
theorem act_mulN (p q : List Int) (hq : 1 ≤ q.length) (s : Sq) (i : Int) : ∀ k, k ≤ p.length → act (mulN p q k) s i = act (p.take k) (act q s) i
  | 0, _ => by
    rw [mulN, act_zeros]
    rfl
  | k + 1, h => by
    obtain ⟨c, hc⟩ : ∃ c, p[k]? = some c := ⟨_, List.getElem?_eq_getElem (by omega)⟩
    rw [mulN, act_addI s i q.length _ (Nat.le_refl _) (by rw [mulN_len]; omega), act_mulN p q hq s i k (by omega), List.take_add_one, hc, getD_at hc, List.take_of_length_le (Nat.le_refl _)]
    show _ = act (p.take k ++ [c]) (act q s) i
    rw [act_append, List.length_take, show min k p.length = k by omega]
    show _ = _ + (c * act q s (i + k) + 0)
    omega
theorem act_mulL (p q : List Int) (hq : 1 ≤ q.length) (s : Sq) (i : Int) : act (mulL p q) s i = act p (act q s) i := by
  unfold mulL
  rw [act_mulN p q hq s i p.length (Nat.le_refl _), List.take_of_length_le (Nat.le_refl _)]
/-- the product of C(d), one behind the other -/
def prodL (ds : List Nat) : List Int := ds.foldl (fun a d => mulL a (cyc d)) [1]
theorem prodL_snoc (ds : List Nat) (d : Nat) : prodL (ds ++ [d]) = mulL (prodL ds) (cyc d) := by
  unfold prodL
  rw [List.foldl_append]
  rfl
theorem fold_act : ∀ (ds : List Nat) (a : List Int), (∀ d ∈ ds, 1 ≤ d ∧ d ≤ 40) → ∀ (s : Sq) (i : Int), act (ds.foldl (fun a d => mulL a (cyc d)) a) s i = act a (acts ds s) i
  | [], _, _, _, _ => rfl
  | d :: ds, a, h, s, i => by
    have h1 := h d List.mem_cons_self
    have hl := (cyc_len h1.1 h1.2).1
    rw [List.foldl_cons, fold_act ds _ (fun x hx => h x (List.mem_cons_of_mem _ hx)), act_mulL _ _ (by omega)]
    refine act_congr fun j _ => ?_
    exact (acts_act ds (cyc d) s _).symm
theorem prodL_act {ds : List Nat} (h : ∀ d ∈ ds, 1 ≤ d ∧ d ≤ 40) (s : Sq) (i : Int) : act (prodL ds) s i = acts ds s i := by
  unfold prodL
  rw [fold_act ds [1] h]
  show 1 * acts ds s i + 0 = _
  omega
end Sd

namespace Sd
open PySem PySem.Spec PyProof.Rows L2

/-! ### bounds of products and rests -/
/-- small enough to be a factor of any number -/
def Sml (l : List Int) : Prop := ∀ x ∈ l, x.natAbs < 2 ^ 62
theorem Unt.sml {l : List Int} (h : Unt l) : Sml l := fun x hx => by
  have := h x hx
  exact Nat.lt_of_lt_of_le (m := 2) (by omega) (by decide)
def Bd (B : Nat) (l : List Int) : Prop := ∀ x ∈ l, x.natAbs ≤ B
theorem addI_get (q : List Int) (f : Int) (s : Nat) : ∀ (j : Nat) (l : List Int) (i : Nat), s + j ≤ i → (addI q f s j l)[i]? = l[i]?
  | 0, _, _, _ => rfl
  | j + 1, l, i, h => by
    rw [addI, List.getElem?_set_ne (by omega)]
    exact addI_get q f s j l i (by omega)
theorem addI_bd {A B : Nat} {q : List Int} {f : Int} {s : Nat} (hU : Unt q) (hf : f.natAbs ≤ B) : ∀ (j : Nat) {l : List Int}, Bd A l → Bd (A + B) (addI q f s j l)
  | 0, l, h => fun x hx => Nat.le_trans (h x hx) (Nat.le_add_right _ _)
  | j + 1, l, h => fun n hn => by
    rw [addI] at hn
    rcases List.mem_or_eq_of_mem_set hn with z | z
    · exact addI_bd hU hf j h n z
    · have h1 : ((addI q f s j l).getD (s + j) 0).natAbs ≤ A := by
        rw [List.getD_eq_getElem?_getD, addI_get q f s j l (s + j) (Nat.le_refl _)]
        cases e : l[s + j]? with
        | none => exact Nat.zero_le _
        | some x => exact h x (List.mem_of_getElem? e)
      have h2 : (f * q.getD j 0).natAbs ≤ B := by
        rw [List.getD_eq_getElem?_getD]
        cases e : q[j]? with
        | none =>
          show (f * 0).natAbs ≤ B
          rw [Int.mul_zero]
          exact Nat.zero_le _
        | some x =>
          have hx := hU x (List.mem_of_getElem? e)
          have : x = -1 ∨ x = 0 ∨ x = 1 := by omega
          show (f * x).natAbs ≤ B
          rcases this with rfl | rfl | rfl <;> omega
      omega
theorem mulN_bd {B : Nat} {p q : List Int} (hU : Unt q) (hp : Bd B p) : ∀ i, Bd (i * B) (mulN p q i)
  | 0 => fun x hx => by
    rw [mulN] at hx
    rw [(List.mem_replicate.mp hx).2]
    exact Nat.zero_le _
  | i + 1 => by
    rw [mulN, Nat.succ_mul]
    refine addI_bd hU ?_ _ (mulN_bd hU hp i)
    rw [List.getD_eq_getElem?_getD]
    cases e : p[i]? with
    | none => exact Nat.zero_le _
    | some x => exact hp x (List.mem_of_getElem? e)
theorem fold_bd : ∀ (ds : List Nat) (a : List Int) (B : Nat), (∀ d ∈ ds, 1 ≤ d ∧ d ≤ 40) → 1 ≤ a.length → a.length + degS ds ≤ 41 → Bd B a → Bd (B * 41 ^ ds.length) (ds.foldl (fun a d => mulL a (cyc d)) a) ∧ (ds.foldl (fun a d => mulL a (cyc d)) a).length = a.length + degS ds
  | [], a, B, _, _, _, h => ⟨by rw [List.length_nil, Nat.pow_zero, Nat.mul_one]; exact h, rfl⟩
  | d :: ds, a, B, hd, ha, hl, h => by
    have h1 := hd d List.mem_cons_self
    have hc := cyc_len h1.1 h1.2
    unfold degS at hl
    rw [List.map_cons, List.sum_cons] at hl
    have hm : (mulL a (cyc d)).length = a.length + ((cyc d).length - 1) := by
      unfold mulL
      rw [mulN_len]
      omega
    have hb : Bd (B * 41) (mulL a (cyc d)) := fun x hx => by
      have := mulN_bd (cyc_unt h1.1 h1.2) h a.length x hx
      exact Nat.le_trans this (by rw [Nat.mul_comm]; exact Nat.mul_le_mul_left _ (by omega))
    obtain ⟨i1, i2⟩ := fold_bd ds (mulL a (cyc d)) (B * 41) (fun x hx => hd x (List.mem_cons_of_mem _ hx)) (by omega) (by rw [hm]; unfold degS; omega) hb
    rw [List.foldl_cons]
    refine ⟨?_, ?_⟩
    · rw [List.length_cons, Nat.pow_succ, Nat.mul_comm (41 ^ ds.length), ← Nat.mul_assoc]
      exact i1
    · rw [i2, hm]
      unfold degS
      rw [List.map_cons, List.sum_cons]
      omega
/-- those that are not blind -/
def seenL (ns : List Int) : List Nat := (divs ns.length ns.length).filter fun e => decide (e ∉ blindL ns)
theorem seen_mem {ns : List Int} {d : Nat} (h : d ∈ seenL ns) : 1 ≤ d ∧ d ≤ ns.length ∧ ns.length % d = 0 := divs_mem.mp (List.mem_filter.mp h).1
theorem seen_deg {ns : List Int} (l1 : 1 ≤ ns.length) (l40 : ns.length ≤ 40) : degS (seenL ns) ≤ ns.length := by
  have := degS_filter (fun e => decide (e ∉ blindL ns)) (divs ns.length ns.length)
  rw [deg_all ns.length (by omega) l1] at this
  exact this
def seenP (ns : List Int) : List Int := prodL (seenL ns)
theorem seenP_len {ns : List Int} (l1 : 1 ≤ ns.length) (l40 : ns.length ≤ 40) : (seenP ns).length = 1 + degS (seenL ns) := by
  have h := seen_deg l1 l40
  exact (fold_bd (seenL ns) [1] 1 (fun d hd => by have := seen_mem hd; omega) (Nat.le_refl _) (by show 1 + _ ≤ 41; omega) (fun x hx => by rw [List.mem_singleton.mp hx]; decide)).2
theorem seenP_sml {ns : List Int} (l1 : 1 ≤ ns.length) (l40 : ns.length ≤ 40) : Sml (seenP ns) := fun x hx => by
  have h := seen_deg l1 l40
  have h1 := (fold_bd (seenL ns) [1] 1 (fun d hd => by have := seen_mem hd; omega) (Nat.le_refl _) (by show 1 + _ ≤ 41; omega) (fun x hx => by rw [List.mem_singleton.mp hx]; decide)).1 x hx
  have h2 : (seenL ns).length ≤ 9 := Nat.le_trans (List.length_filter_le _ _) (divs_few _ (by omega))
  have h3 : 1 * 41 ^ (seenL ns).length ≤ 41 ^ 9 := by rw [Nat.one_mul]; exact Nat.pow_le_pow_right (by decide) h2
  exact Nat.lt_of_le_of_lt (Nat.le_trans h1 h3) (by decide)
theorem fold_mon : ∀ (ds : List Nat) (a : List Int), (∀ d ∈ ds, 1 ≤ d ∧ d ≤ 40) → 1 ≤ a.length → Mon a → Mon (ds.foldl (fun a d => mulL a (cyc d)) a)
  | [], a, _, _, h => h
  | d :: ds, a, hd, ha, h => by
    have h1 := hd d List.mem_cons_self
    have hc := cyc_len h1.1 h1.2
    rw [List.foldl_cons]
    have hm : (mulL a (cyc d)).length = a.length + ((cyc d).length - 1) := by
      unfold mulL
      rw [mulN_len]
      omega
    refine fold_mon ds _ (fun x hx => hd x (List.mem_cons_of_mem _ hx)) (by omega) ?_
    -- the last number of a product
    obtain ⟨p, hp⟩ := h
    obtain ⟨q, hq⟩ := cyc_mon h1.1 h1.2
    have hl : (mulL a (cyc d))[a.length + (cyc d).length - 2]? = some 1 := by
      have hap : a.length = p.length + 1 := by rw [hp, List.length_append]; rfl
      have hcq : (cyc d).length = q.length + 1 := by rw [hq, List.length_append]; rfl
      unfold mulL
      rw [hap, mulN]
      have ea : a.getD p.length 0 = 1 := by
        rw [hp, List.getD_eq_getElem?_getD, List.getElem?_append_right (Nat.le_refl _), Nat.sub_self]
        rfl
      rw [ea, hcq, addI]
      have hidx : p.length + 1 + (q.length + 1) - 2 = p.length + q.length := by omega
      rw [hidx]
      have ec : (cyc d).getD q.length 0 = 1 := by
        rw [hq, List.getD_eq_getElem?_getD, List.getElem?_append_right (Nat.le_refl _), Nat.sub_self]
        rfl
      have e0 : (addI (cyc d) 1 p.length q.length (mulN a (cyc d) p.length)).getD (p.length + q.length) 0 = 0 := by
        rw [List.getD_eq_getElem?_getD, addI_get _ _ _ _ _ _ (Nat.le_refl _), mulN_top (a := a) (c := cyc d) (i := p.length) (k := p.length + q.length) (by omega) (by omega) (by omega)]
        rfl
      rw [List.getElem?_set_self (by rw [addI_len, mulN_len]; omega), e0, ec]
      rfl
    refine ⟨(mulL a (cyc d)).take (a.length + (cyc d).length - 2), ?_⟩
    have h2 : (mulL a (cyc d)).take (a.length + (cyc d).length - 2 + 1) = (mulL a (cyc d)).take (a.length + (cyc d).length - 2) ++ [1] := by
      rw [List.take_add_one, hl]
      rfl
    rw [← h2, List.take_of_length_le (by rw [hm]; omega)]
where
  mulN_top {a c : List Int} (hc : 1 ≤ c.length) : ∀ {i k : Nat}, i + c.length - 1 ≤ k → k < a.length + c.length - 1 → (mulN a c i)[k]? = some 0
    | 0, k, _, hk => by
      rw [mulN, List.getElem?_replicate, if_pos hk]
    | i + 1, k, h, hk => by
      rw [mulN, addI_get _ _ _ _ _ _ (by omega)]
      exact mulN_top hc (by omega) hk

/-! ### the rests, the rows -/
theorem subI_abS {b : Nat} {low : List Int} {f : Int} {s : Nat} (hU : Sml low) (hf : f.natAbs < 2 ^ b) : ∀ (j : Nat) {l : List Int}, Ab b l → Ab (b + 63) (subI low f s j l)
  | 0, l, h => h.mono (Nat.le_add_right _ _)
  | j + 1, l, h => fun n hn => by
    rw [subI] at hn
    rcases List.mem_or_eq_of_mem_set hn with z | z
    · exact subI_abS hU hf j h n z
    · have hp : 0 < 2 ^ b := Nat.two_pow_pos b
      have h1 : ((subI low f s j l).getD (s + j) 0).natAbs < 2 ^ b := by
        rw [List.getD_eq_getElem?_getD, subI_get low f s j l (s + j) (Nat.le_refl _)]
        cases e : l[s + j]? with
        | none => exact hp
        | some x => exact h x (List.mem_of_getElem? e)
      have h2 : (f * low.getD j 0).natAbs < 2 ^ (b + 62) := by
        rw [List.getD_eq_getElem?_getD]
        cases e : low[j]? with
        | none =>
          show (f * 0).natAbs < _
          rw [Int.mul_zero]
          exact Nat.two_pow_pos _
        | some x => exact wide_lt hf (hU x (List.mem_of_getElem? e))
      have h3 : (2 : Nat) ^ b ≤ 2 ^ (b + 62) := pow_up (by omega)
      rw [show b + 63 = (b + 62) + 1 by omega, Nat.pow_succ]
      omega
theorem divN_abS {low : List Int} (hU : Sml low) : ∀ (k b : Nat) {l : List Int}, Ab b l → Ab (b + 63 * k) (divN low k l)
  | 0, _, _, h => h
  | k + 1, b, l, h => by
    rw [divN]
    have hf : (l.getD (low.length - 1 + k) 0).natAbs < 2 ^ b := by
      rw [List.getD_eq_getElem?_getD]
      cases e : l[low.length - 1 + k]? with
      | none => exact Nat.two_pow_pos b
      | some x => exact h x (List.mem_of_getElem? e)
    have := divN_abS hU k (b + 63) (subI_abS hU hf (low.length - 1) (s := k) h)
    rw [show b + 63 * (k + 1) = b + 63 + 63 * k by omega]
    exact this
theorem rst_abS {low l : List Int} (hU : Sml low) {b : Nat} (h : Ab b l) : Ab (b + 63 * l.length) (rst low l) := fun n hn => by
  have := divN_abS hU (l.length - (low.length - 1)) b h n (List.mem_of_mem_take hn)
  exact Nat.lt_of_lt_of_le this (pow_up (by omega))
/-- x ** m -/
def powL (m : Nat) : List Int := List.replicate m 0 ++ [1]
theorem powL_len (m : Nat) : (powL m).length = m + 1 := by
  unfold powL
  rw [List.length_append, List.length_replicate]
  rfl
theorem powL_ab (m : Nat) : Ab 1 (powL m) := fun x hx => by
  unfold powL at hx
  rcases List.mem_append.mp hx with h | h
  · rw [(List.mem_replicate.mp h).2]
    decide
  · rw [List.mem_singleton.mp h]
    decide
theorem powL_act (m : Nat) (s : Sq) (i : Int) : act (powL m) s i = s (i + m) := by
  unfold powL
  rw [act_append, act_zeros, List.length_replicate]
  show 0 + (1 * s (i + m) + 0) = _
  omega
/-- x ** m less its rest -/
def fillL (P : List Int) (n m : Nat) : List Int := (((rst P (powL m)).map fun x => -x) ++ List.replicate (n - (rst P (powL m)).length) 0).set m 1
def stepL (P : List Int) (n p : Nat) : List Int := (fillL P n (n - 1 - p)).reverse
theorem rst_powL {P : List Int} {m : Nat} (h : P.length - 1 ≤ m) : (rst P (powL m)).length = P.length - 1 := by
  rw [rst_len, powL_len]
  omega
theorem fillL_len {P : List Int} {n m : Nat} (h : P.length - 1 ≤ m) (hm : m < n) : (fillL P n m).length = n := by
  unfold fillL
  rw [List.length_set, List.length_append, List.length_map, List.length_replicate, rst_powL h]
  omega
theorem act_neg : ∀ (p : List Int) (s : Sq) (i : Int), act (p.map fun x => -x) s i = -act p s i
  | [], _, _ => rfl
  | a :: p, s, i => by
    rw [List.map_cons, act, act, act_neg p, Int.neg_mul]
    omega
theorem fillL_act {P : List Int} (hM : Mon P) {n m : Nat} (h : P.length - 1 ≤ m) (hm : m < n) (s : Sq) (i : Int) : act (fillL P n m) s i = act (quo P (powL m)) (act P s) i := by
  have hr := rst_powL h
  have e := act_div hM (powL m) s i
  rw [powL_act] at e
  unfold fillL
  rw [act_set _ _ _ _ _ (by rw [List.length_append, List.length_map, List.length_replicate, hr]; omega), act_append, act_neg, act_zeros]
  have e0 : (((rst P (powL m)).map fun x => -x) ++ List.replicate (n - (rst P (powL m)).length) 0).getD m 0 = 0 := by
    rw [List.getD_eq_getElem?_getD, List.getElem?_append_right (by rw [List.length_map, hr]; omega), List.getElem?_replicate]
    split <;> rfl
  rw [e0]
  omega
theorem fillL_ab {P : List Int} (hS : Sml P) {n m : Nat} (hm : m < 40) : Ab 2600 (fillL P n m) := fun x hx => by
  unfold fillL at hx
  rcases List.mem_or_eq_of_mem_set hx with z | z
  · rcases List.mem_append.mp z with h | h
    · obtain ⟨y, hy, rfl⟩ := List.mem_map.mp h
      have h1 := rst_abS hS (powL_ab m) y hy
      rw [powL_len] at h1
      have h2 := Nat.lt_of_lt_of_le h1 (pow_up (a := 1 + 63 * (m + 1)) (b := 2600) (by omega))
      rw [Int.natAbs_neg]
      exact h2
    · rw [(List.mem_replicate.mp h).2]
      exact Nat.two_pow_pos _
  · rw [z]
    exact Nat.lt_of_lt_of_le (m := 2 ^ 1) (by decide) (pow_up (by decide))
theorem prods_act : ∀ (p q : List Int), p.length ≤ q.length → (prods p q).sum = act p (fun i => q.getD i.toNat 0) 0
  | [], q, _ => by
    show (List.zipWith (· * ·) [] q).sum = 0
    rw [List.zipWith_nil_left]
    rfl
  | a :: p, [], h => absurd h (Nat.not_succ_le_zero _)
  | a :: p, b :: q, h => by
    have ih := prods_act p q (Nat.le_of_succ_le_succ h)
    show (List.zipWith (· * ·) (a :: p) (b :: q)).sum = a * b + act p (fun i => (b :: q).getD i.toNat 0) (0 + 1)
    rw [List.zipWith_cons_cons, List.sum_cons]
    show a * b + (prods p q).sum = _
    rw [ih]
    refine congrArg (a * b + ·) (act_congr fun j _ => ?_)
    show q.getD (0 + (j : Int)).toNat 0 = (b :: q).getD (0 + 1 + (j : Int)).toNat 0
    rw [show (0 + 1 + (j : Int)).toNat = (0 + (j : Int)).toNat + 1 by omega, List.getD_cons_succ]
theorem prods_rev {p q : List Int} (h : p.length = q.length) : (prods p.reverse q).sum = (prods p q.reverse).sum := by
  have e : prods p.reverse q = (prods p q.reverse).reverse := by
    unfold prods
    rw [List.reverse_zipWith (by rw [List.length_reverse]; exact h), List.reverse_reverse]
  rw [e, List.sum_reverse]
/-- a row in steps has no light -/
theorem step_dark {ns : List Int} (l1 : 1 ≤ ns.length) (l40 : ns.length ≤ 40) {p : Nat} (hp : p < ns.length - degS (seenL ns)) (t : Int) : lightV ns (stepL (seenP ns) ns.length p) t = 0 := by
  have hd := seen_deg l1 l40
  have hPl := seenP_len l1 l40
  have hM : Mon (seenP ns) := fold_mon (seenL ns) [1] (fun d hd => by have := seen_mem hd; omega) (Nat.le_refl _) ⟨[], rfl⟩
  have hm1 : (seenP ns).length - 1 ≤ ns.length - 1 - p := by omega
  have hm2 : ns.length - 1 - p < ns.length := by omega
  have hfl := fillL_len hm1 hm2
  have hl : (stepL (seenP ns) ns.length p).length = ns.length := by
    unfold stepL
    rw [List.length_reverse, hfl]
  rw [light_swap hl]
  unfold lightV stepL
  rw [prods_rev (by rw [rot_len, hfl]), prods_act _ _ (by rw [List.length_reverse, rot_len, hfl]; exact Nat.le_refl _)]
  have e : act (fillL (seenP ns) ns.length (ns.length - 1 - p)) (fun i => (rot ns (-t)).reverse.getD i.toNat 0) 0 = act (fillL (seenP ns) ns.length (ns.length - 1 - p)) (act ns (dlt ns.length)) (-((ns.length : Int) - 1 + t)) := act_congr fun j hj => by
    rw [hfl] at hj
    show (rot ns (-t)).reverse.getD (0 + (j : Int)).toNat 0 = act ns (dlt ns.length) (-((ns.length : Int) - 1 + t) + (j : Int))
    rw [act_dlt l1 ns (Nat.le_refl _), show (0 + (j : Int)).toNat = j by omega, List.getD_eq_getElem?_getD, List.getElem?_reverse (by rw [rot_len]; exact hj), rot_len, rot_at (by omega)]
    show ns.getD _ 0 = ns.getD _ 0
    rw [show ((ns.length - 1 - j : Nat) : Int) - -t = -(-((ns.length : Int) - 1 + t) + (j : Int)) by omega]
  rw [e, fillL_act hM hm1 hm2]
  refine act_null (fun i => ?_) _
  unfold seenP
  rw [prodL_act (fun d hd => by have := seen_mem hd; omega)]
  exact blind_kill l1 l40 i
end Sd

namespace Sd
open PySem PySem.Spec PyProof.Rows L2

/-! ### lights of sums of rows -/
/-- one row and a multiple of another -/
def linL (t : Int) (a b : List Int) : List Int := List.zipWith (fun x y => x + t * y) a b
theorem linL_len {t : Int} {a b : List Int} (h : a.length = b.length) : (linL t a b).length = a.length := by
  unfold linL
  rw [List.length_zipWith]
  omega
theorem linL_at {t : Int} {a b : List Int} {i : Nat} {x y : Int} (h1 : a[i]? = some x) (h2 : b[i]? = some y) : (linL t a b)[i]? = some (x + t * y) := by
  unfold linL
  rw [List.getElem?_zipWith, h1, h2]
theorem linL_get {t : Int} {a b : List Int} (h : a.length = b.length) {i : Nat} (hi : i < a.length) : (linL t a b).getD i 0 = a.getD i 0 + t * b.getD i 0 :=
  getD_at (linL_at (at_getD hi) (at_getD (by omega)))
theorem linL_ab {t : Int} {a b : List Int} {k j m : Nat} (ha : Ab k a) (hb : Ab j b) (ht : t.natAbs < 2 ^ m) : Ab (k + j + m + 1) (linL t a b) := fun x hx => by
  unfold linL at hx
  obtain ⟨i, hi, e⟩ := List.mem_iff_getElem.mp hx
  rw [List.length_zipWith] at hi
  rw [List.getElem_zipWith] at e
  have h1 := ha _ (List.getElem_mem (show i < a.length by omega))
  have h2 := hb _ (List.getElem_mem (show i < b.length by omega))
  rw [← e]
  have h3 := wide_lt ht h2
  have p1 : (2 : Nat) ^ k ≤ 2 ^ (k + j + m) := pow_up (by omega)
  have p2 : (2 : Nat) ^ (m + j) ≤ 2 ^ (k + j + m) := pow_up (by omega)
  rw [Nat.pow_succ]
  omega
theorem light_act {ns ms : List Int} (hl : ns.length = ms.length) (t : Int) : lightV ns ms t = act ns (fun i => (rot ms t).getD i.toNat 0) 0 := by
  unfold lightV
  exact prods_act ns (rot ms t) (by rw [rot_len]; omega)
theorem light_lin {ns a b : List Int} (ha : ns.length = a.length) (hb : ns.length = b.length) (t u : Int) : lightV ns (linL t a b) u = lightV ns a u + t * lightV ns b u := by
  have hab : a.length = b.length := by omega
  rw [light_act (by rw [linL_len hab]; exact ha), light_act ha, light_act hb, ← act_mul, ← act_add]
  refine act_congr fun j hj => ?_
  show (rot (linL t a b) u).getD (0 + (j : Int)).toNat 0 = (rot a u).getD (0 + (j : Int)).toNat 0 + t * (rot b u).getD (0 + (j : Int)).toNat 0
  rw [show (0 + (j : Int)).toNat = j by omega, rot_get (by rw [linL_len hab]; omega), rot_get (by omega), rot_get (by omega), linL_len hab, ← hab]
  have hm := mod_in (i := (j : Int) - u) (show 0 < a.length by omega)
  exact linL_get hab (by omega)
theorem lights_lin {ns a b : List Int} (ha : ns.length = a.length) (hb : ns.length = b.length) (t : Int) : lightsV ns (linL t a b) = linL t (lightsV ns a) (lightsV ns b) := by
  refine ext_getD (by rw [linL_len (by rw [lightsV_len, lightsV_len]), lightsV_len, lightsV_len]) fun j hj => ?_
  rw [lightsV_len] at hj
  rw [lights_get hj, linL_get (by rw [lightsV_len, lightsV_len]) (by rw [lightsV_len]; exact hj), lights_get hj, lights_get hj]
  exact light_lin ha hb t j
theorem lights_dark {ns a b : List Int} (ha : ns.length = a.length) (hb : ns.length = b.length) (hz : ∀ t, lightV ns b t = 0) (t : Int) : lightsV ns (linL t a b) = lightsV ns a := by
  refine ext_getD (by rw [lightsV_len, lightsV_len]) fun j hj => ?_
  rw [lightsV_len] at hj
  rw [lights_get hj, lights_get hj, light_lin ha hb, hz, Int.mul_zero, Int.add_zero]
theorem act_const : ∀ (p : List Int) (c i : Int), act p (fun _ => c) i = p.sum * c
  | [], c, _ => by
    show 0 = 0 * c
    rw [Int.zero_mul]
  | a :: p, c, i => by
    rw [act, act_const p c, List.sum_cons, Int.add_mul]
theorem light_part {ns ms : List Int} (hl : ns.length = ms.length) : ∀ k : Nat, ((List.range k).map fun (t : Nat) => lightV ns ms (t : Int)).sum = act ns (fun i => ((List.range k).map fun (t : Nat) => (rot ms (t : Int)).getD i.toNat 0).sum) 0
  | 0 => by
    show 0 = act ns (fun _ => 0) 0
    rw [act_zero]
  | k + 1 => by
    rw [List.range_succ, List.map_append, List.sum_append, light_part hl k]
    have e : (fun i : Int => ((List.range k ++ [k]).map fun (t : Nat) => (rot ms (t : Int)).getD i.toNat 0).sum) = fun i => ((List.range k).map fun (t : Nat) => (rot ms (t : Int)).getD i.toNat 0).sum + (rot ms (k : Int)).getD i.toNat 0 := funext fun i => by
      rw [List.map_append, List.sum_append]
      show _ + ((rot ms (k : Int)).getD i.toNat 0 + 0) = _
      rw [Int.add_zero]
    rw [e, act_add, ← light_act hl]
    show _ + (lightV ns ms k + 0) = _
    rw [Int.add_zero]
theorem neg_mod_mod (j t : Int) {n : Int} : -((t - j) % n) % n = (j - t) % n := by
  rw [show j - t = -(t - j) by omega]
  have e : -((t - j) % n) = -(t - j) + n * ((t - j) / n) := by
    rw [Int.emod_def]
    omega
  rw [e, Int.add_mul_emod_self_left]
theorem lights_sum {ns ms : List Int} (hl : ns.length = ms.length) : (lightsV ns ms).sum = ns.sum * ms.sum := by
  unfold lightsV
  rw [light_part hl, ← act_const ns ms.sum 0]
  refine act_congr fun j hj => ?_
  show ((List.range ns.length).map fun (t : Nat) => (rot ms (t : Int)).getD (0 + (j : Int)).toNat 0).sum = ms.sum
  rw [show (0 + (j : Int)).toNat = j by omega]
  have e : ((List.range ns.length).map fun (t : Nat) => (rot ms (t : Int)).getD j 0) = rot (mir ms) (j : Int) := by
    refine ext_getD (by rw [List.length_map, List.length_range, rot_len, mir_len]; exact hl) fun t ht => ?_
    rw [List.length_map, List.length_range] at ht
    rw [List.getD_eq_getElem?_getD, List.getElem?_map, List.getElem?_range ht]
    show (rot ms (t : Int)).getD j 0 = _
    have hm := mod_in (i := (t : Int) - (j : Int)) (show 0 < ms.length by omega)
    rw [rot_get (by omega), rot_get (by rw [mir_len]; omega), mir_len, mir_get (by omega), Int.toNat_of_nonneg hm.1]
    rw [neg_mod_mod j t]
  rw [e, sum_rot, sum_mir]
theorem light_lone {ns : List Int} {s : Nat} (hs : s < ns.length) (t : Int) : lightV ns ((List.replicate ns.length 0).set s 1) t = ns.getD ((((s : Int) + t) % (ns.length : Int)).toNat) 0 := by
  have hl : ns.length = ((List.replicate ns.length (0 : Int)).set s 1).length := by rw [List.length_set, List.length_replicate]
  rw [light_swap hl.symm, light_act hl.symm, act_set _ _ _ _ _ (by rw [List.length_replicate]; exact hs), act_zeros, List.getD_eq_getElem?_getD, List.getElem?_replicate, if_pos hs]
  show 0 + (1 - 0) * (rot ns (-t)).getD (0 + (s : Int)).toNat 0 = _
  rw [show (0 + (s : Int)).toNat = s by omega, rot_get hs, show (s : Int) - -t = s + t by omega]
  omega
theorem lights_lone {ns : List Int} {s : Nat} (hs : s < ns.length) : lightsV ns ((List.replicate ns.length 0).set s 1) = rot ns (0 - (s : Int)) := by
  refine ext_getD (by rw [lightsV_len, rot_len]) fun j hj => ?_
  rw [lightsV_len] at hj
  rw [lights_get hj, light_lone hs, rot_get hj, show (j : Int) - (0 - (s : Int)) = s + j by omega]
end Sd

namespace Sd
open PySem PySem.Spec PyProof.Rows L2

/-! ### laid discs -/
theorem laid_swap {ns ms : List Int} (hl : ns.length = ms.length) : lightsV ms (mir ns) = lightsV ns (mir ms) := by
  refine ext_getD (by rw [lightsV_len, lightsV_len, hl]) fun j hj => ?_
  rw [lightsV_len] at hj
  rw [lights_get hj, lights_get (by omega), light_swap (ns := mir ns) (ms := ms) (by rw [mir_len]; exact hl)]
  have e := light_mir (ns := ns) (ms := mir ms) (by rw [mir_len]; exact hl) (-(j : Int))
  rw [mir_mir, Int.neg_neg] at e
  exact e
theorem laid_lone {ns : List Int} {s : Nat} (hs : s < ns.length) : lightsV ns (mir ((List.replicate ns.length 0).set s 1)) = rot ns (s : Int) := by
  have hl : ns.length = ((List.replicate ns.length (0 : Int)).set s 1).length := by rw [List.length_set, List.length_replicate]
  rw [← laid_swap hl, lights_swap (ns := mir ns) (by rw [mir_len]; exact hl)]
  have e := lights_lone (ns := mir ns) (s := s) (by rw [mir_len]; exact hs)
  rw [mir_len] at e
  rw [e, mir_rot, mir_mir]
  rw [show -(0 - (s : Int)) = (s : Int) by omega]
theorem rot_mir_at {ms : List Int} {g : Int} {j : Nat} (h : j < ms.length) : (rot (mir ms) g)[j]? = some (ms.getD (((g - (j : Int)) % (ms.length : Int)).toNat) 0) := by
  rw [rot_at (by rw [mir_len]; exact h), mir_len]
  have hm := mod_in (i := (j : Int) - g) (show 0 < ms.length by omega)
  rw [mir_get (by omega), Int.toNat_of_nonneg hm.1, neg_mod_mod]
theorem laid_sum {ns ms : List Int} (hl : ns.length = ms.length) : (lightsV ns (mir ms)).sum = ns.sum * ms.sum := by
  rw [lights_sum (by rw [mir_len]; exact hl), sum_mir]
/-- new of two -/
theorem s3_free {H : Hp} {l p : Addr} {o : HO} (hl : H l = none) (hp : (upd H l o) p = none) : H p = none := by
  by_cases e : p = l
  · subst e
    exact hl
  · rw [upd_ne e] at hp
    exact hp
end Sd

namespace Sd
open PySem PySem.Spec PyProof.Rows L2

/-! ### multiplied lists -/
/-- the place of slot i, multiplied by f -/
def plc (f : Int) (n : Nat) (i : Nat) : Nat := ((f * (i : Int)) % (n : Int)).toNat
theorem plc_lt {f : Int} {n : Nat} (h : 0 < n) (i : Nat) : plc f n i < n := by
  unfold plc
  have := mod_in (i := f * (i : Int)) h
  omega
theorem plc_inj {f : Int} {n : Nat} (hg : Nat.gcd f.natAbs n = 1) {i j : Nat} (hi : i < n) (hj : j < n) (e : plc f n i = plc f n j) : i = j := by
  have h0 : 0 < n := by omega
  have m1 := mod_in (i := f * (i : Int)) h0
  have m2 := mod_in (i := f * (j : Int)) h0
  unfold plc at e
  have e2 : (f * (i : Int)) % (n : Int) = (f * (j : Int)) % (n : Int) := by omega
  have d : (n : Int) ∣ f * ((i : Int) - (j : Int)) := by
    rw [Int.mul_sub]
    exact Int.dvd_of_emod_eq_zero (by rw [Int.sub_emod, e2, Int.sub_self, Int.zero_emod])
  have d2 : n ∣ f.natAbs * ((i : Int) - (j : Int)).natAbs := by
    rw [← Int.natAbs_mul]
    exact Int.natAbs_dvd_natAbs.mpr d
  have d3 : n ∣ ((i : Int) - (j : Int)).natAbs := Nat.Coprime.dvd_of_dvd_mul_left (show Nat.Coprime n f.natAbs from (Nat.gcd_comm _ _).trans hg) d2
  have := Nat.eq_zero_of_dvd_of_lt d3 (by omega)
  omega
theorem plc_on {f : Int} {n : Nat} (hg : Nat.gcd f.natAbs n = 1) {p : Nat} (hp : p < n) : ∃ j, j < n ∧ plc f n j = p := by
  refine Classical.byContradiction fun hno => ?_
  have nd : ((List.range n).map (plc f n)).Nodup := by
    rw [List.nodup_iff_pairwise_ne, List.pairwise_map]
    refine List.Pairwise.imp_of_mem (fun {a b} ha hb hab e => ?_) (List.pairwise_lt_range (n := n))
    have := plc_inj hg (List.mem_range.mp ha) (List.mem_range.mp hb) e
    omega
  have nd2 : (p :: (List.range n).map (plc f n)).Nodup := List.nodup_cons.mpr ⟨fun hm => by
    obtain ⟨j, hj, e⟩ := List.mem_map.mp hm
    exact hno ⟨j, List.mem_range.mp hj, e⟩, nd⟩
  have sub : (p :: (List.range n).map (plc f n)) ⊆ List.range n := fun x hx => by
    rcases List.mem_cons.mp hx with e | e
    · rw [e]
      exact List.mem_range.mpr hp
    · obtain ⟨j, hj, e⟩ := List.mem_map.mp e
      rw [← e]
      exact List.mem_range.mpr (plc_lt (by omega) _)
  have := List.Nodup.length_le_of_subset nd2 sub
  rw [List.length_cons, List.length_map, List.length_range] at this
  omega
def multL (ns : List Int) (f : Int) : List Int := (List.range ns.length).map fun (p : Nat) => ns.getD (((List.range ns.length).find? fun i => decide (plc f ns.length i = p)).getD 0) 0
theorem mult_len (ns : List Int) (f : Int) : (multL ns f).length = ns.length := by
  unfold multL
  rw [List.length_map, List.length_range]
theorem mult_back {ns : List Int} {f : Int} (hg : Nat.gcd f.natAbs ns.length = 1) {i : Nat} (hi : i < ns.length) : (multL ns f)[plc f ns.length i]? = ns[i]? := by
  have hp := plc_lt (f := f) (n := ns.length) (by omega) i
  unfold multL
  rw [List.getElem?_map, List.getElem?_range hp, at_getD hi]
  have e : (List.range ns.length).find? (fun j => decide (plc f ns.length j = plc f ns.length i)) = some i := by
    cases q : (List.range ns.length).find? (fun j => decide (plc f ns.length j = plc f ns.length i)) with
    | none =>
      have := List.find?_eq_none.mp q i (List.mem_range.mpr hi)
      exact absurd (decide_eq_true rfl) this
    | some j =>
      have h1 := of_decide_eq_true (show decide (plc f ns.length j = plc f ns.length i) = true from List.find?_some (p := fun j => decide (plc f ns.length j = plc f ns.length i)) q)
      have h2 := List.mem_range.mp (List.mem_of_find?_eq_some q)
      rw [plc_inj hg h2 hi h1]
  show some (ns.getD (((List.range ns.length).find? fun j => decide (plc f ns.length j = plc f ns.length i)).getD 0) 0) = _
  rw [e]
  rfl
theorem mult_all {ns : List Int} {f : Int} (hg : Nat.gcd f.natAbs ns.length = 1) {P : Int → Prop} (h : ∀ n ∈ ns, P n) : ∀ n ∈ multL ns f, P n := fun n hn => by
  obtain ⟨p, hp, e⟩ := List.getElem_of_mem hn
  rw [mult_len] at hp
  obtain ⟨j, hj, rfl⟩ := plc_on hg hp
  have e2 := mult_back hg hj
  rw [List.getElem?_eq_getElem (by rw [mult_len]; exact hp), e] at e2
  exact h n (List.mem_of_getElem? e2.symm)
theorem Rim.mult {ns : List Int} (h : Rim ns) {f : Int} (hg : Nat.gcd f.natAbs ns.length = 1) : Rim (multL ns f) := ⟨by rw [mult_len]; exact h.pos, by rw [mult_len]; exact h.le, mult_all hg h.all⟩
/-- a list with what ns has at each slot at the slot's place is the multiplied one -/
theorem mult_eq {ns ms : List Int} {f : Int} (hg : Nat.gcd f.natAbs ns.length = 1) (hl : ms.length = ns.length) (h : ∀ i, i < ns.length → ms[plc f ns.length i]? = ns[i]?) : multL ns f = ms := by
  refine List.ext_getElem? fun p => ?_
  by_cases hp : p < ns.length
  · obtain ⟨j, hj, rfl⟩ := plc_on hg hp
    rw [mult_back hg hj, h j hj]
  · rw [List.getElem?_eq_none (by rw [mult_len]; omega), List.getElem?_eq_none (by omega)]
theorem gcd_neg1 (n : Nat) : Nat.gcd (-1 : Int).natAbs n = 1 := by
  show Nat.gcd 1 n = 1
  exact Nat.gcd_one_left n
theorem mult_neg1 (ns : List Int) : multL ns (-1) = mir ns := mult_eq (gcd_neg1 _) (mir_len _) fun i hi => by
  have e := mir_back hi
  unfold plc
  rw [show (-1 : Int) * (i : Int) = 0 - (i : Int) by omega]
  exact e
theorem gcd_mod1 {f : Int} {n : Nat} (h : f % (n : Int) = 1 % (n : Int)) : Nat.gcd f.natAbs n = 1 := by
  have h1 : ((Nat.gcd f.natAbs n : Nat) : Int) ∣ f := Int.dvd_natAbs.mp (Int.natCast_dvd_natCast.mpr (Nat.gcd_dvd_left _ _))
  have h2 : ((Nat.gcd f.natAbs n : Nat) : Int) ∣ (n : Int) := Int.natCast_dvd_natCast.mpr (Nat.gcd_dvd_right _ _)
  have h3 : ((Nat.gcd f.natAbs n : Nat) : Int) ∣ f % (n : Int) := by
    rw [Int.emod_def]
    exact Int.dvd_sub h1 (Int.dvd_trans h2 (Int.dvd_mul_right _ _))
  rw [h] at h3
  have h4 : ((Nat.gcd f.natAbs n : Nat) : Int) ∣ 1 := by
    have e := Int.emod_add_mul_ediv 1 (n : Int)
    rw [← e]
    exact Int.dvd_add h3 (Int.dvd_trans h2 (Int.dvd_mul_right _ _))
  exact Nat.dvd_one.mp (Int.natCast_dvd_natCast.mp h4)
theorem mult_one1 {ns : List Int} {f : Int} (h : f % (ns.length : Int) = 1 % (ns.length : Int)) : multL ns f = ns := mult_eq (gcd_mod1 h) rfl fun i hi => by
  have e : plc f ns.length i = i := by
    unfold plc
    rw [Int.mul_emod, h, ← Int.mul_emod, Int.one_mul, Int.emod_eq_of_lt (by omega) (by omega), Int.toNat_natCast]
  rw [e]
/-! ### filled, from any values on -/
def FilledV (f : Nat → Nat) (res : List Int) (vs : List V) (k : Nat) : Prop := vs.length = res.length ∧ ∀ p, (∃ j, j < k ∧ f j = p) → vs[p]? = (res.map V.int)[p]?
theorem FilledV.step {f : Nat → Nat} {res : List Int} {vs : List V} {k : Nat} {v : Int} (h : FilledV f res vs k) (e : res[f k]? = some v) : FilledV f res (vs.set (f k) (.int v)) (k + 1) := by
  refine ⟨by rw [List.length_set]; exact h.1, fun p ⟨j, hj, hp⟩ => ?_⟩
  have hk : f k < vs.length := by
    rw [h.1]
    exact (List.getElem?_eq_some_iff.mp e).1
  by_cases q : f k = p
  · subst q
    rw [List.getElem?_set_self hk, at_int e]
  · rw [List.getElem?_set_ne q]
    refine h.2 p ⟨j, ?_, hp⟩
    rcases Nat.lt_or_ge j k with z | z
    · exact z
    · have : j = k := by omega
      subst this
      exact absurd hp q
theorem FilledV.done {f : Nat → Nat} {res : List Int} {vs : List V} {n : Nat} (h : FilledV f res vs n) (on : ∀ p, p < res.length → ∃ j, j < n ∧ f j = p) : vs = res.map V.int := by
  refine List.ext_getElem? fun p => ?_
  by_cases q : p < res.length
  · exact h.2 p (on p q)
  · rw [List.getElem?_eq_none (by rw [h.1]; omega), List.getElem?_eq_none (by rw [List.length_map]; omega)]
theorem rep_oneV (v : V) : ∀ k : Nat, (List.replicate k [v]).flatten = List.replicate k v
  | 0 => rfl
  | k + 1 => by
    rw [List.replicate_succ, List.replicate_succ, List.flatten_cons, rep_oneV v k]
    rfl
/-! ### shut discs -/
def shutL (ns : List Int) : List Int := ns.map (1 - ·)
theorem shut_shut (ns : List Int) : shutL (shutL ns) = ns := by
  unfold shutL
  rw [List.map_map]
  conv => rhs; rw [← List.map_id ns]
  exact List.map_congr_left fun n _ => by show 1 - (1 - n) = n; omega
end Sd

namespace Sd
open PySem PySem.Spec PyProof.Rows L2

/-! ### factors that turn a disc -/
theorem plc_plc (g f : Int) {n : Nat} (hn : 0 < n) (i : Nat) : plc g n (plc f n i) = plc (g * f) n i := by
  have hm := mod_in (i := f * (i : Int)) hn
  have e : ((plc f n i : Nat) : Int) = (f * (i : Int)) % (n : Int) := by
    unfold plc
    exact Int.toNat_of_nonneg hm.1
  show ((g * ((plc f n i : Nat) : Int)) % (n : Int)).toNat = ((g * f * (i : Int)) % (n : Int)).toNat
  rw [e, Int.mul_emod, Int.emod_emod, ← Int.mul_emod, Int.mul_assoc]
theorem plc_mod (f : Int) (n i : Nat) : plc (f % (n : Int)) n i = plc f n i := by
  unfold plc
  rw [Int.mul_emod, Int.emod_emod, ← Int.mul_emod]
theorem mult_mod (ns : List Int) (f : Int) : multL ns (f % (ns.length : Int)) = multL ns f := by
  unfold multL
  refine List.map_congr_left fun p _ => ?_
  have e : (fun i => decide (plc (f % (ns.length : Int)) ns.length i = p)) = fun i => decide (plc f ns.length i = p) := funext fun i => by rw [plc_mod]
  rw [e]
theorem gcd_mul {f g : Int} {n : Nat} (hf : Nat.gcd f.natAbs n = 1) (hg : Nat.gcd g.natAbs n = 1) : Nat.gcd (g * f).natAbs n = 1 := by
  rw [Int.natAbs_mul]
  exact Nat.Coprime.mul_left hg hf
theorem mult_mult {ns : List Int} {f g : Int} (hf : Nat.gcd f.natAbs ns.length = 1) (hg : Nat.gcd g.natAbs ns.length = 1) : multL (multL ns f) g = multL ns (g * f) := by
  refine (mult_eq (gcd_mul hf hg) (by rw [mult_len, mult_len]) fun i hi => ?_).symm
  have hn : 0 < ns.length := by omega
  rw [← plc_plc g f hn]
  have e := mult_back (ns := multL ns f) (f := g) (by rw [mult_len]; exact hg) (i := plc f ns.length i) (by rw [mult_len]; exact plc_lt hn i)
  rw [mult_len] at e
  rw [e, mult_back hf hi]
theorem mult_rot {ns : List Int} {g t : Int} (hg : Nat.gcd g.natAbs ns.length = 1) : multL (rot ns t) g = rot (multL ns g) (g * t) := by
  refine mult_eq (by rw [rot_len]; exact hg) (by rw [rot_len, mult_len, rot_len]) fun i hi => ?_
  rw [rot_len] at hi ⊢
  have hn : 0 < ns.length := by omega
  have hm := mod_in (i := (i : Int) - t) hn
  have hm2 := mod_in (i := g * (i : Int)) hn
  rw [rot_at (by rw [mult_len]; exact plc_lt hn i), rot_at hi, mult_len]
  have e : ((((plc g ns.length i : Nat) : Int) - g * t) % (ns.length : Int)).toNat = plc g ns.length ((((i : Int) - t) % (ns.length : Int)).toNat) := by
    show ((((((g * (i : Int)) % (ns.length : Int)).toNat : Nat) : Int) - g * t) % (ns.length : Int)).toNat = ((g * (((((i : Int) - t) % (ns.length : Int)).toNat : Nat) : Int)) % (ns.length : Int)).toNat
    rw [Int.toNat_of_nonneg hm2.1, Int.toNat_of_nonneg hm.1, Int.emod_sub_emod, Int.mul_emod, Int.emod_emod, ← Int.mul_emod, Int.mul_sub]
  rw [e]
  have b := mult_back hg (i := (((i : Int) - t) % (ns.length : Int)).toNat) (by omega)
  have hp := plc_lt (f := g) hn ((((i : Int) - t) % (ns.length : Int)).toNat)
  rw [at_getD (by rw [mult_len]; exact hp), at_getD (by omega)] at b
  exact b
/-- the ints from o on that are chosen -/
def selL (p : Int → Bool) (o : Int) (k : Nat) : List Int := ((List.range k).map fun (i : Nat) => o + (i : Int)).filter p
theorem selL_yes {p : Int → Bool} {o : Int} {k : Nat} (h : p (o + (k : Int)) = true) : selL p o (k + 1) = selL p o k ++ [o + (k : Int)] := by
  unfold selL
  rw [List.range_succ, List.map_append, List.filter_append]
  show _ ++ List.filter p [o + (k : Int)] = _
  rw [List.filter_cons, if_pos h]
  rfl
theorem selL_no {p : Int → Bool} {o : Int} {k : Nat} (h : ¬ p (o + (k : Int)) = true) : selL p o (k + 1) = selL p o k := by
  unfold selL
  rw [List.range_succ, List.map_append, List.filter_append]
  show _ ++ List.filter p [o + (k : Int)] = _
  rw [List.filter_cons, if_neg h]
  exact List.append_nil _
theorem selL_len (p : Int → Bool) (o : Int) (k : Nat) : (selL p o k).length ≤ k := by
  unfold selL
  refine Nat.le_trans (List.length_filter_le _ _) ?_
  rw [List.length_map, List.length_range]
  exact Nat.le_refl _
theorem mem_selL {p : Int → Bool} {o x : Int} {k : Nat} : x ∈ selL p o k ↔ (o ≤ x ∧ x < o + (k : Int)) ∧ p x = true := by
  unfold selL
  rw [List.mem_filter, List.mem_map]
  constructor
  · rintro ⟨⟨i, hi, rfl⟩, h⟩
    have := List.mem_range.mp hi
    exact ⟨⟨by omega, by omega⟩, h⟩
  · rintro ⟨⟨h1, h2⟩, h⟩
    exact ⟨⟨(x - o).toNat, List.mem_range.mpr (by omega), by omega⟩, h⟩
def topF (n : Nat) : Nat := ((if (2 : Int) > (n : Int) then 2 else (n : Int)) - 1).toNat
def facL (n : Nat) : List Int := selL (fun f => decide (Nat.gcd f.natAbs n = 1)) 1 (topF n)
def flatL (ns : List Int) : List Int := (facL ns.length).filter fun f => decide (multL ns f ∈ turnsL ns)
theorem topF_le {n : Nat} (h : n ≤ 40) : topF n ≤ 39 := by
  unfold topF
  split <;> omega
theorem mem_flat {ns : List Int} {x : Int} : x ∈ flatL ns ↔ (1 ≤ x ∧ x < 1 + (topF ns.length : Int)) ∧ Nat.gcd x.natAbs ns.length = 1 ∧ multL ns x ∈ turnsL ns := by
  unfold flatL facL
  rw [List.mem_filter, mem_selL]
  constructor
  · rintro ⟨⟨h1, h2⟩, h3⟩
    exact ⟨h1, of_decide_eq_true h2, of_decide_eq_true h3⟩
  · rintro ⟨h1, h2, h3⟩
    exact ⟨⟨h1, decide_eq_true h2⟩, decide_eq_true h3⟩
theorem flat_len {ns : List Int} (h : ns.length ≤ 40) : (flatL ns).length ≤ 39 := Nat.le_trans (List.length_filter_le _ _) (Nat.le_trans (selL_len _ _ _) (topF_le h))
theorem flat_ab {ns : List Int} (h : ns.length ≤ 40) : Ab 100 (flatL ns) := fun x hx => by
  have h1 := (mem_flat.mp hx).1
  have h2 := topF_le h
  have e : (2 : Nat) ^ 100 = 1267650600228229401496703205376 := by decide
  rw [e]
  omega
theorem fac_gcd {n : Nat} {x : Int} (h : x ∈ facL n) : Nat.gcd x.natAbs n = 1 := of_decide_eq_true (mem_selL.mp h).2
theorem gcd_modA (f : Int) (n : Nat) : Nat.gcd (f % (n : Int)).natAbs n = Nat.gcd f.natAbs n := by
  refine Nat.dvd_antisymm (Nat.dvd_gcd ?_ (Nat.gcd_dvd_right _ _)) (Nat.dvd_gcd ?_ (Nat.gcd_dvd_right _ _))
  · have h1 : ((Nat.gcd (f % (n : Int)).natAbs n : Nat) : Int) ∣ f % (n : Int) := Int.dvd_natAbs.mp (Int.natCast_dvd_natCast.mpr (Nat.gcd_dvd_left _ _))
    have h2 : ((Nat.gcd (f % (n : Int)).natAbs n : Nat) : Int) ∣ (n : Int) := Int.natCast_dvd_natCast.mpr (Nat.gcd_dvd_right _ _)
    have h3 : ((Nat.gcd (f % (n : Int)).natAbs n : Nat) : Int) ∣ f := by
      have e := Int.emod_add_mul_ediv f (n : Int)
      have d := Int.dvd_add h1 (Int.dvd_trans h2 (Int.dvd_mul_right (n : Int) (f / (n : Int))))
      rw [e] at d
      exact d
    exact Int.natCast_dvd_natCast.mp (Int.dvd_natAbs.mpr h3)
  · have h1 : ((Nat.gcd f.natAbs n : Nat) : Int) ∣ f := Int.dvd_natAbs.mp (Int.natCast_dvd_natCast.mpr (Nat.gcd_dvd_left _ _))
    have h2 : ((Nat.gcd f.natAbs n : Nat) : Int) ∣ (n : Int) := Int.natCast_dvd_natCast.mpr (Nat.gcd_dvd_right _ _)
    have h3 : ((Nat.gcd f.natAbs n : Nat) : Int) ∣ f % (n : Int) := by
      rw [Int.emod_def]
      exact Int.dvd_sub h1 (Int.dvd_trans h2 (Int.dvd_mul_right _ _))
    exact Int.natCast_dvd_natCast.mp (Int.dvd_natAbs.mpr h3)
theorem flat_closed {ns : List Int} {x y : Int} (hx : x ∈ flatL ns) (hy : y ∈ flatL ns) (hn : 1 < ns.length) : (x * y) % (ns.length : Int) ∈ flatL ns := by
  obtain ⟨hx1, gx, tx⟩ := mem_flat.mp hx
  obtain ⟨hy1, gy, ty⟩ := mem_flat.mp hy
  have hm := mod_in (i := x * y) (show 0 < ns.length by omega)
  have g := gcd_mul gy gx
  have g2 : Nat.gcd ((x * y) % (ns.length : Int)).natAbs ns.length = 1 := (gcd_modA _ _).trans g
  refine mem_flat.mpr ⟨⟨?_, ?_⟩, g2, ?_⟩
  · refine Classical.byContradiction fun h => ?_
    have z : (x * y) % (ns.length : Int) = 0 := by omega
    rw [z] at g2
    have : ns.length = 1 := by
      rw [← g2]
      exact (Nat.gcd_zero_left _).symm
    omega
  · have : topF ns.length = ns.length - 1 := by
      unfold topF
      split <;> omega
    omega
  · rw [mult_mod, ← mult_mult gy gx]
    obtain ⟨t, ht⟩ := (mem_turns (by omega)).mp ty
    obtain ⟨s, hs⟩ := (mem_turns (by omega)).mp tx
    rw [ht, mult_rot gx, hs, rot_add]
    exact (mem_turns (by omega)).mpr ⟨_, rfl⟩
theorem hits_turns {ns ms : List Int} (h : 1 ≤ ns.length) : headV (hits ns ms 0 ns.length) = V.non ↔ ¬ ms ∈ turnsL ns := by
  constructor
  · intro e hm
    unfold turnsL at hm
    obtain ⟨t, ht, rfl⟩ := List.mem_map.mp hm
    have ht := List.mem_range.mp ht
    obtain ⟨p, r, e2⟩ := hits_ex (xs := ns) (ys := rot ns (t : Int)) (o := 0) (t := (t : Int)) (k := ns.length) (by omega) (by omega) rfl
    rw [e2] at e
    cases e
  · intro hno
    cases e : hits ns ms 0 ns.length with
    | nil => rfl
    | cons p r =>
      have := (hits_first e).1
      exact absurd ((mem_turns h).mpr ⟨p, this.symm⟩) hno
/-- a list of values that are all ints -/
theorem all_ints {B : Int} : ∀ {vs : List V}, (∀ v ∈ vs, ∃ x : Int, v = .int x ∧ 0 ≤ x ∧ x ≤ B) → ∃ ms : List Int, vs = ms.map V.int ∧ ∀ m ∈ ms, 0 ≤ m ∧ m ≤ B
  | [], _ => ⟨[], rfl, fun m hm => (List.not_mem_nil hm).elim⟩
  | v :: vs, h => by
    obtain ⟨x, e, h0, h1⟩ := h v List.mem_cons_self
    obtain ⟨ms, e2, h2⟩ := all_ints (vs := vs) fun w hw => h w (List.mem_cons_of_mem _ hw)
    refine ⟨x :: ms, by rw [e, e2]; rfl, fun m hm => ?_⟩
    rcases List.mem_cons.mp hm with z | z
    · rw [z]
      exact ⟨h0, h1⟩
    · exact h2 m z
theorem any_ints (S : List Int) (m : Int) : ((S.map PyData.int).any fun z => PyData.eqv z (.int m)) = decide (m ∈ S) := by
  induction S with
  | nil => rfl
  | cons x S ih =>
    rw [List.map_cons, List.any_cons, ih]
    have e : PyData.eqv (.int x) (.int m) = decide (m = x) := by
      have := eqv_dI [x] [m]
      by_cases h : m = x
      · subst h
        rw [decide_eq_true rfl]
        exact SeqAt.eqv_refl _ (by simp only [PyData.canLay0])
      · rw [decide_eq_false h]
        rw [decide_eq_false (fun z => h (by cases z; rfl))] at this
        simp only [dI, List.map_cons, List.map_nil, PyData.eqv, PyData.eqvAll, Bool.and_true] at this ⊢
        exact this
    rw [e]
    by_cases h : m = x
    · subst h
      rw [decide_eq_true rfl, decide_eq_true List.mem_cons_self]
      rfl
    · rw [decide_eq_false h, Bool.false_or]
      exact decide_eq_decide.mpr ⟨fun z => List.mem_cons_of_mem _ z, fun z => (List.mem_cons.mp z).resolve_left h⟩
theorem notInD {X : Cx} {K : PySem.W.Frag} (h : X.K = K) {k : Nat} (hr : Room k X.A) : OpR X (compareOp .NotIn) (rNotInD K) := h ▸ op_notInD (by have := hr.un; omega)
end Sd

namespace Sd
open PySem PySem.Spec PyProof.Rows L2

/-! ### texts -/
def mkS (l : List Nat) : Str := ⟨l.toArray⟩
theorem tl_mk (l : List Nat) : TL.tl (mkS l) = l := rfl
theorem mk_tl (x : Str) : mkS (TL.tl x) = x := TL.ext_tl rfl
theorem mk_inj {a b : List Nat} : mkS a = mkS b ↔ a = b := ⟨fun e => by
  have := congrArg TL.tl e
  exact this, fun e => by rw [e]⟩
theorem mk_app (a b : List Nat) : mkS a ++ mkS b = mkS (a ++ b) := TL.ext_tl (by rw [TL.tl_append]; rfl)
theorem mk_len (l : List Nat) : (mkS l).length = l.length := by
  rw [TL.len_tl]
  rfl
/-- the signs of an int -/
def intL (n : Int) : List Nat := if n < 0 then 45 :: TL.numL n.natAbs else TL.numL n.natAbs
def intS (n : Int) : Str := mkS (intL n)
theorem tl_ofString (s : String) : TL.tl (Str.ofString s) = s.toList.map Char.toNat := by
  rw [PySem.Str.ofString_eq_toList]
theorem str_int (n : Int) : Str.ofString (toString n) = intS n := by
  refine TL.ext_tl ?_
  rw [show TL.tl (intS n) = intL n from rfl]
  unfold intL
  by_cases h : n < 0
  · rw [if_pos h, PyProof.Rows.toString_neg h, tl_ofString, String.toList_append, List.map_append]
    have e : (0 : Int) - n = ((n.natAbs : Nat) : Int) := by omega
    have t := TL.tl_num n.natAbs
    rw [tl_ofString] at t
    rw [e, t]
    rfl
  · rw [if_neg h]
    have e : n = ((n.natAbs : Nat) : Int) := by omega
    have t := TL.tl_num n.natAbs
    rw [← e] at t
    exact t
theorem numL_head : ∀ n : Nat, 0 < n → (TL.numL n).head? ≠ some 48 := fun n => by
  induction n using Nat.strongRecOn with
  | _ n ih =>
    intro hn
    by_cases h : n < 10
    · rw [TL.numL_lt h]
      intro e
      have := Option.some.inj e
      omega
    · rw [TL.numL_step (by omega)]
      have hp := ih (n / 10) (by omega) (by omega)
      cases e : TL.numL (n / 10) with
      | nil => exact absurd e (TL.numL_ne _)
      | cons c r =>
        rw [e] at hp
        exact hp
theorem intL_pos {n : Int} (h : 0 ≤ n) : intL n = TL.numL n.natAbs := if_neg (by omega)
theorem intL_neg {n : Int} (h : n < 0) : intL n = 45 :: TL.numL n.natAbs := if_pos h
theorem intL_ne (n : Int) : intL n ≠ [] := by
  unfold intL
  split
  · exact fun e => nomatch e
  · exact TL.numL_ne _
theorem intL_free {n : Int} {s : Nat} (h : s < 48 ∨ 57 < s) (h2 : s ≠ 45) : s ∉ intL n := fun hm => by
  unfold intL at hm
  split at hm
  · rcases List.mem_cons.mp hm with e | e
    · exact h2 e
    · exact TL.numL_free h e
  · exact TL.numL_free h hm
theorem intL_len {n : Int} {k : Nat} (hk : 0 < k) (h : n.natAbs < 10 ^ k) : (intL n).length ≤ k + 1 := by
  have := TL.numL_len hk h
  unfold intL
  split
  · rw [List.length_cons]
    omega
  · omega
theorem num_digit {c : Nat} (h0 : 48 ≤ c) (h1 : c ≤ 57) : Unicode.isDigit c = true := by
  have : ∀ d : Nat, d < 10 → Unicode.isDigit (48 + d) = true := by decide +kernel
  have e := this (c - 48) (by omega)
  rw [show 48 + (c - 48) = c by omega] at e
  exact e
theorem all_tl (x : Str) (p : Nat → Bool) : x.cps.all p = (TL.tl x).all p := by
  rw [← Array.all_toList]
theorem dig_isascii (n : Nat) : Txt.isascii (mkS (TL.numL n)) = true := by
  unfold Txt.isascii
  rw [all_tl, List.all_eq_true]
  intro c hc
  have := TL.numL_digits n c hc
  exact decide_eq_true (by omega)
theorem dig_isdigit (n : Nat) : Txt.isdigit (mkS (TL.numL n)) = true := by
  unfold Txt.isdigit
  rw [Bool.and_eq_true]
  refine ⟨decide_eq_true ?_, ?_⟩
  · rw [mk_len]
    exact List.length_pos_iff.mpr (TL.numL_ne n)
  · rw [all_tl, List.all_eq_true]
    intro c hc
    have := TL.numL_digits n c hc
    exact num_digit (by omega) (by omega)
theorem starts_one (l : List Nat) (c : Nat) : Txt.startswith (mkS l) (mkS [c]) = decide (l.head? = some c) := by
  unfold Txt.startswith
  rw [mk_len, mk_len, PySem.StrLaws.subAt_eq, mk_len]
  show (decide (0 + 1 ≤ l.length) && (List.take 1 (l.drop 0) == [c])) = _
  cases l with
  | nil => rfl
  | cons x r =>
    show (decide (0 + 1 ≤ r.length + 1) && ([x] == [c])) = decide (some x = some c)
    rw [decide_eq_true (by omega), Bool.true_and]
    by_cases h : x = c
    · subst h
      rw [decide_eq_true rfl]
      exact beq_self_eq_true _
    · rw [decide_eq_false (fun e => h (Option.some.inj e))]
      exact beq_eq_false_iff_ne.mpr fun e => h (List.cons.inj e).1
theorem int_reads {n : Int} (h : n.natAbs < 10 ^ 600) : PySem.intText? (intS n) = some n := by
  by_cases h0 : n < 0
  · have e := PySem.intText_neg (x := intS n) (cs := TL.numL n.natAbs) (by show intL n = _; exact intL_neg h0) (TL.numL_digits _) (TL.numL_ne _) (by
      rw [TL.len_tl]
      show (intL n).length ≤ 4300
      have := intL_len (by decide) h
      omega)
    rw [e, TL.numL_val]
    exact congrArg some (by omega)
  · have e := PySem.intText_digits (x := intS n) (by show NumText.AllDigits (intL n); rw [intL_pos (by omega)]; exact TL.numL_digits _) (by show intL n ≠ []; exact intL_ne n) (by
      rw [TL.len_tl]
      show (intL n).length ≤ 4300
      have := intL_len (by decide) h
      omega)
    rw [e]
    show some ((NumText.digitsVal (intL n) : Nat) : Int) = some n
    rw [intL_pos (by omega), TL.numL_val]
    exact congrArg some (by omega)
/-- words joined by a sign -/
def spS : Str := mkS [32]
def wordsS (ws : List (List Nat)) : Str := Txt.join spS (ws.map mkS)
theorem tl_words (ws : List (List Nat)) : TL.tl (wordsS ws) = TL.joinL [32] ws := by
  unfold wordsS
  rw [TL.join_eq, TL.tl_join, List.map_map]
  have e : ws.map (TL.tl ∘ mkS) = ws := by
    conv => rhs; rw [← List.map_id ws]
    exact List.map_congr_left fun _ _ => rfl
  rw [e]
  rfl
theorem words_split {ws : List (List Nat)} (hne : ws ≠ []) (hf : ∀ w ∈ ws, 32 ∉ w) : Txt.split (wordsS ws) spS = ws.map mkS :=
  TL.split_join (s := 32) (S := []) rfl (by decide +kernel) (fun e => hne (List.map_eq_nil_iff.mp e)) fun p hp => by
    obtain ⟨w, hw, rfl⟩ := List.mem_map.mp hp
    exact hf w hw
theorem joinL_len {k : Nat} : ∀ {ws : List (List Nat)}, (∀ w ∈ ws, w.length ≤ k) → (TL.joinL [32] ws).length ≤ (k + 1) * ws.length
  | [], _ => Nat.zero_le _
  | [p], h => by
    show p.length ≤ (k + 1) * 1
    have := h p (List.mem_singleton.mpr rfl)
    omega
  | p :: q :: r, h => by
    show (p ++ ([32] ++ TL.joinL [32] (q :: r))).length ≤ (k + 1) * ((q :: r).length + 1)
    have h1 := h p List.mem_cons_self
    have h2 := joinL_len (ws := q :: r) fun w hw => h w (List.mem_cons_of_mem _ hw)
    rw [List.length_append, List.length_append, Nat.mul_add]
    show p.length + (1 + _) ≤ _
    omega
theorem words_len {k : Nat} {ws : List (List Nat)} (h : ∀ w ∈ ws, w.length ≤ k) : (wordsS ws).length ≤ (k + 1) * ws.length := by
  rw [TL.len_tl, tl_words]
  exact joinL_len h
theorem join_fits {k : Nat} {ws : List (List Nat)} (h : ∀ w ∈ ws, w.length ≤ k) (hk : k ≤ 1000) (hn : ws.length ≤ 1000) : ((ws.map mkS).map (·.length)).sum + (ws.map mkS).length * spS.length ≤ 16777216 := by
  have h1 : ((ws.map mkS).map (·.length)).sum ≤ k * ws.length := by
    have := sum_bound (B := k) (l := (ws.map mkS).map (·.length)) fun x hx => by
      obtain ⟨y, hy, rfl⟩ := List.mem_map.mp hx
      obtain ⟨w, hw, rfl⟩ := List.mem_map.mp hy
      rw [mk_len]
      exact h w hw
    rw [List.length_map, List.length_map] at this
    exact this
  have h2 : k * ws.length ≤ 1000 * 1000 := Nat.mul_le_mul hk hn
  have h3 : spS.length = 1 := by rw [show spS = mkS [32] from rfl, mk_len]; rfl
  rw [List.length_map, h3]
  omega
/-- looks, as words -/
def lookL (p : Int × Int) : List Nat := intL p.1 ++ (61 :: intL p.2)
theorem look_free (p : Int × Int) : 32 ∉ lookL p := fun h => by
  unfold lookL at h
  rcases List.mem_append.mp h with e | e
  · exact intL_free (.inl (by decide)) (by decide) e
  · rcases List.mem_cons.mp e with e | e
    · exact absurd e (by decide)
    · exact intL_free (.inl (by decide)) (by decide) e
theorem look_cut (p : Int × Int) : Txt.partition (mkS (lookL p)) (mkS [61]) = (intS p.1, mkS [61], intS p.2) := by
  have e : mkS (lookL p) = intS p.1 ++ mkS [61] ++ intS p.2 := by
    unfold intS lookL
    rw [mk_app, mk_app, List.append_assoc]
    rfl
  rw [e]
  exact TL.partition_app (s := 61) (S := []) rfl (show 61 ∉ intL p.1 from intL_free (.inr (by decide)) (by decide))
theorem look_len {p : Int × Int} {k : Nat} (hk : 0 < k) (h1 : p.1.natAbs < 10 ^ k) (h2 : p.2.natAbs < 10 ^ k) : (lookL p).length ≤ 2 * k + 3 := by
  have a := intL_len hk h1
  have b := intL_len hk h2
  unfold lookL
  rw [List.length_append, List.length_cons]
  omega
/-! ### a text, many times -/
theorem op_mulS {X : Cx} : OpR X (binaryOp .Mult) (fun x y H Q => ∃ (a : Str) (n : Int), x = .str a ∧ y = .int n ∧ MulOk a n ∧ Q (.str (Txt.mul a n)) H) := by
  intro pins s σ H x y v u Q I rx ry h
  obtain ⟨a, n, rfl, rfl, hm, q⟩ := h
  obtain ⟨t, rfl⟩ := rx
  obtain ⟨t', rfl⟩ := ry
  exact PySem.SB.mul hm fun t'' k => ⟨.str _, H, I.tok _, ⟨_, rfl⟩, q⟩
/-! ### the written signs -/
theorem cSp : Str.ofString " " = spS := TL.ext_tl (by rw [tl_ofString]; rfl)
theorem cDash : Str.ofString "-" = mkS [45] := TL.ext_tl (by rw [tl_ofString]; rfl)
theorem cZero : Str.ofString "0" = mkS [48] := TL.ext_tl (by rw [tl_ofString]; rfl)
theorem cEq : Str.ofString "=" = mkS [61] := TL.ext_tl (by rw [tl_ofString]; rfl)
theorem cNone : Str.ofString "" = mkS [] := TL.ext_tl (by rw [tl_ofString]; rfl)
theorem join_one (y x : Str) : Txt.join y [x] = x := by
  rw [TL.join_eq]
  rfl
theorem join_none (y : Str) : Txt.join y [] = mkS [] := by
  rw [TL.join_eq]
  rfl
theorem cut_tail (c : Nat) (l : List Nat) : cutS (mkS (c :: l)) (some 1) none = mkS l := by
  unfold cutS
  have e1 : HT.sIx (mkS (c :: l)).length 0 (some 1) = 1 := by
    have := HT.sIx_nat (mkS (c :: l)).length 0 1
    rw [mk_len, List.length_cons] at this ⊢
    rw [show (some (1 : Int)) = some ((1 : Nat) : Int) from rfl, this]
    omega
  rw [e1, HT.sIx_none, mk_len]
  show mkS (((c :: l).drop 1).take ((c :: l).length - 1)) = mkS l
  rw [List.drop_one, List.tail_cons, List.length_cons, Nat.add_sub_cancel, List.take_length]
theorem spl_le {n k : Nat} (h : n ≤ k) (hk : k ≤ 1000000) : n ≤ sizeLine := Nat.le_trans h (Nat.le_trans hk (by decide))
theorem abs10 {n : Int} {k : Nat} (h : n.natAbs < 10 ^ k) (hk : k ≤ 100) : n.natAbs < 2 ^ 1000 := Nat.lt_of_lt_of_le h (Nat.le_trans (Nat.pow_le_pow_right (by decide) hk) (by decide +kernel))
theorem abs_log {n : Int} {k : Nat} (h : n.natAbs < 10 ^ k) (hk : k ≤ 100) : n.natAbs.log2 < 1920 := Nat.lt_trans (PySem.Flt.log2_lt_of (by decide) (abs10 h hk)) (by decide)
/-- pairs of ints, in tuples -/
inductive Prs (H : Hp) : List V → List (Int × Int) → Prop
  | nil : Prs H [] []
  | cons {t : Addr} {p : Int × Int} {vs : List V} {ps : List (Int × Int)} (h : H t = some (.tup [.int p.1, .int p.2])) (r : Prs H vs ps) : Prs H (.ref t :: vs) (p :: ps)
theorem Prs.up {H H1 : Hp} {vs : List V} {ps : List (Int × Int)} (h : Prs H vs ps) (s : Same H H1) : Prs H1 vs ps := by
  induction h with
  | nil => exact .nil
  | cons h _ ih => exact .cons (s _ _ h) ih
theorem Prs.len {H : Hp} {vs : List V} {ps : List (Int × Int)} (h : Prs H vs ps) : vs.length = ps.length := by
  induction h with
  | nil => rfl
  | cons _ _ ih => rw [List.length_cons, List.length_cons, ih]
theorem Prs.at {H : Hp} {vs : List V} {ps : List (Int × Int)} (h : Prs H vs ps) : ∀ {i : Nat} {v : V}, vs[i]? = some v → ∃ t p, v = .ref t ∧ ps[i]? = some p ∧ H t = some (.tup [.int p.1, .int p.2]) := by
  induction h with
  | nil => exact fun e => nomatch e
  | cons h _ ih =>
    intro i v e
    cases i with
    | zero => exact ⟨_, _, (Option.some.inj e).symm, rfl, h⟩
    | succ i => exact ih e
theorem Prs.snoc {H : Hp} {vs : List V} {ps : List (Int × Int)} {t : Addr} {p : Int × Int} (h : Prs H vs ps) (e : H t = some (.tup [.int p.1, .int p.2])) : Prs H (vs ++ [.ref t]) (ps ++ [p]) := by
  induction h with
  | nil => exact .cons e .nil
  | cons h _ ih => exact .cons h ih
def dP (p : Int × Int) : PyData := .tuple [.int p.1, .int p.2]
theorem Prs.dp {K : PySem.W.Frag} {H : Hp} {vs : List V} {ps : List (Int × Int)} (h : Prs H vs ps) : DpAll K H vs (ps.map dP) := by
  induction h with
  | nil => exact .nil
  | cons h _ ih => exact .cons (.tup (SqT.of h) (.cons (.int _) (.cons (.int _) .nil))) ih
/-- f'..', its parts one behind the other -/
def tJoined (ts : List TE) : TE := fun σ H Q => tJs ts Str.empty σ H fun out H1 => Q (.str out) H1
theorem pe_joinedN {X : Cx} {v1 v2 : Expr} {rest : List Expr} {ts : List TE} {pos : Pos} (h : PJ X (v1 :: v2 :: rest) ts) : PE X (.JoinedStr (v1 :: v2 :: rest) pos) (tJoined ts) := pe_joined h
end Sd

namespace Sd
open PySem PySem.Spec PyProof.Rows L2

/-! ### data that repr can show, with bounds -/
structure Dat (k B : Nat) (d : PyData) : Prop where
  rp : RP d
  dp : d.depth ≤ k
  le : d.shown.length ≤ B
theorem Dat.mono {k B k' B' : Nat} {d : PyData} (h : Dat k B d) (hk : k ≤ k') (hB : B ≤ B') : Dat k' B' d := ⟨h.rp, Nat.le_trans h.dp hk, Nat.le_trans h.le hB⟩
theorem Dat.fits {k B : Nat} {d : PyData} (h : Dat k B d) (hB : B ≤ 16000000) : d.shown.length ≤ sizeLine := fit_le (Nat.le_trans h.le hB)
theorem dat_int {i : Int} {k : Nat} (h : i.natAbs < 10 ^ k) (hk : k ≤ 100) : Dat 0 1001 (.int i) := ⟨rp_int (abs10 h hk), by simp only [PyData.depth]; omega, shown_int (abs10 h hk)⟩
theorem dat_str {x : Str} {n : Nat} (h : ∀ c ∈ TL.tl x, c < 128) (hl : x.length ≤ n) : Dat 0 (10 * n + 2) (.str x) := by
  refine ⟨⟨by simp only [PyData.showable], by simp only [PyData.hasDict], ?_, by simp only [PyData.depth]; omega⟩, by simp only [PyData.depth]; omega, ?_⟩
  · simp only [PyData.canLay0]
    unfold PyData.strOk
    rw [all_tl, List.all_eq_true]
    exact fun c hc => decide_eq_true (Nat.lt_of_lt_of_le (h c hc) (by decide))
  simp only [PyData.shown]
  have := PySem.StrLaws.reprText_len x fun c hc => Nat.lt_of_lt_of_le (h c hc) (by decide)
  omega
theorem rps_dat {k B : Nat} : ∀ {ds : List PyData}, (∀ d ∈ ds, Dat k B d) → RPs k ds
  | [], _ => RPs.nil
  | d :: ds, h => RPs.cons (h d List.mem_cons_self).rp (h d List.mem_cons_self).dp (rps_dat fun x hx => h x (List.mem_cons_of_mem _ hx))
theorem dat_list {k B n : Nat} {ds : List PyData} (h : ∀ d ∈ ds, Dat k B d) (hk : k ≤ 30) (hn : ds.length ≤ n) : Dat (k + 1) ((B + 2) * n + 3) (.list ds) := by
  obtain ⟨a, b⟩ := (rps_dat h).list (by omega)
  refine ⟨a, b, ?_⟩
  have := shown_list (B := B) (ds := ds) fun d hd => (h d hd).le
  have := Nat.mul_le_mul_left (B + 2) hn
  omega
theorem dat_tup {k B n : Nat} {ds : List PyData} (h : ∀ d ∈ ds, Dat k B d) (hk : k ≤ 30) (hn : ds.length ≤ n) : Dat (k + 1) ((B + 2) * n + 3) (.tuple ds) := by
  have hs := rps_dat h
  have hd : (PyData.tuple ds).depth ≤ k + 1 := by
    simp only [PyData.depth]
    have := hs.dp
    omega
  refine ⟨⟨?_, ?_, ?_, by omega⟩, hd, ?_⟩
  · simp only [PyData.showable, hs.sh]
  · simp only [PyData.hasDict, hs.nd]
  · simp only [PyData.canLay0, hs.cl]
  · simp only [PyData.shown]
    have h1 := tupleText_len_le (PyData.shownAll ds)
    have h2 : ((PyData.shownAll ds).map (·.length)).sum ≤ B * ds.length := by
      rw [shownAll_map, List.map_map]
      have := sum_bound (B := B) (l := ds.map ((fun x => x.length) ∘ PyData.shown)) fun x hx => by
        obtain ⟨d, hd, rfl⟩ := List.mem_map.mp hx
        exact (h d hd).le
      rw [List.length_map] at this
      exact this
    have h3 : (PyData.shownAll ds).length = ds.length := by rw [shownAll_map, List.length_map]
    rw [h3] at h1
    have h4 := Nat.mul_le_mul_left (B + 2) hn
    have h5 : (B + 2) * ds.length = B * ds.length + 2 * ds.length := Nat.add_mul _ _ _
    omega
theorem dat_ints {ns : List Int} {k n : Nat} (h : ∀ x ∈ ns, x.natAbs < 10 ^ k) (hk : k ≤ 100) (hn : ns.length ≤ n) : Dat 1 (1003 * n + 3) (dI ns) :=
  dat_list (k := 0) (B := 1001) (fun d hd => by
    obtain ⟨x, hx, rfl⟩ := List.mem_map.mp hd
    exact dat_int (h x hx) hk) (by decide) (by rw [List.length_map]; exact hn)
theorem dat_pairs {ps : List (Int × Int)} {k n : Nat} (h : ∀ p ∈ ps, p.1.natAbs < 10 ^ k ∧ p.2.natAbs < 10 ^ k) (hk : k ≤ 100) (hn : ps.length ≤ n) : Dat 2 (2011 * n + 3) (.list (ps.map dP)) :=
  dat_list (k := 1) (B := 2009) (fun d hd => by
    obtain ⟨p, hp, rfl⟩ := List.mem_map.mp hd
    exact dat_tup (k := 0) (B := 1001) (n := 2) (fun d hd => by
      simp only [List.mem_cons, List.not_mem_nil, or_false] at hd
      rcases hd with rfl | rfl
      · exact dat_int (h p hp).1 hk
      · exact dat_int (h p hp).2 hk) (by decide) (Nat.le_refl _)) (by decide) (by rw [List.length_map]; exact hn)
theorem intL_low (n : Int) : ∀ c ∈ intL n, c < 128 := fun c hc => by
  unfold intL at hc
  split at hc
  · rcases List.mem_cons.mp hc with e | e
    · omega
    · have := TL.numL_digits _ c e
      omega
  · have := TL.numL_digits _ c hc
    omega
theorem lookL_low (p : Int × Int) : ∀ c ∈ lookL p, c < 128 := fun c hc => by
  unfold lookL at hc
  rcases List.mem_append.mp hc with e | e
  · exact intL_low _ c e
  · rcases List.mem_cons.mp e with e | e
    · omega
    · exact intL_low _ c e
theorem joinL_low : ∀ {ws : List (List Nat)}, (∀ x ∈ ws, ∀ c ∈ x, c < 128) → ∀ c ∈ TL.joinL [32] ws, c < 128
  | [], _ => fun c hc => (List.not_mem_nil hc).elim
  | [p], h => h p (List.mem_singleton.mpr rfl)
  | p :: q :: r, h => fun c hc => by
    have hc : c ∈ p ++ ([32] ++ TL.joinL [32] (q :: r)) := hc
    rcases List.mem_append.mp hc with e | e
    · exact h p List.mem_cons_self c e
    · rcases List.mem_append.mp e with e | e
      · rw [List.mem_singleton.mp e]
        omega
      · exact joinL_low (fun x hx => h x (List.mem_cons_of_mem _ hx)) c e
theorem dat_words {ws : List (List Nat)} {k n : Nat} (h : ∀ x ∈ ws, x.length ≤ k ∧ ∀ c ∈ x, c < 128) (hn : ws.length ≤ n) : Dat 0 (10 * ((k + 1) * n) + 2) (.str (wordsS ws)) := by
  refine dat_str (fun c hc => ?_) ?_
  · rw [tl_words] at hc
    exact joinL_low (fun x hx => (h x hx).2) c hc
  · exact Nat.le_trans (words_len fun x hx => (h x hx).1) (Nat.mul_le_mul_left _ hn)
theorem dat_row {ns : List Int} {k n : Nat} (hk : 0 < k) (h : ∀ x ∈ ns, x.natAbs < 10 ^ k) (hn : ns.length ≤ n) : Dat 0 (10 * ((k + 1 + 1) * n) + 2) (.str (wordsS (ns.map intL))) :=
  dat_words (fun x hx => by
    obtain ⟨m, hm, rfl⟩ := List.mem_map.mp hx
    exact ⟨intL_len hk (h m hm), intL_low m⟩) (by rw [List.length_map]; exact hn)
theorem dat_looks {ps : List (Int × Int)} {k n : Nat} (hk : 0 < k) (h : ∀ p ∈ ps, p.1.natAbs < 10 ^ k ∧ p.2.natAbs < 10 ^ k) (hn : ps.length ≤ n) : Dat 0 (10 * ((2 * k + 3 + 1) * n) + 2) (.str (wordsS (ps.map lookL))) :=
  dat_words (fun x hx => by
    obtain ⟨p, hp, rfl⟩ := List.mem_map.mp hx
    exact ⟨look_len hk (h p hp).1 (h p hp).2, lookL_low p⟩) (by rw [List.length_map]; exact hn)
end Sd

namespace Sd
open PySem PySem.Spec PyProof.Rows L2
section
variable {P : Program} {w : World} {A : Around} {E : Value → Shared → Prop} {s : Shared}
/-- the set object just made -/
abbrev bareSet (w : World) : Obj := { cls := .type "set", dict := none, data := .set #[] 0 (.fresh 0 0 (!w.params.followText "set-order")) }
/-- what set.__init__ leaves -/
def InitI (w : World) (s : Shared) (ns : List Int) (s₂ : Shared) : Prop := ∃ h' tk c, s₂ = { s with heap := h', toks := tk } ∧ SetR w h' s.heap.objs.size (fun j => decide (j ∈ ns)) c ∧ c ≤ ns.length ∧ ∀ b o, s.heap.get? b = some o → h'.get? b = some o
/-- set.__init__ of a bare set with a list of ints -/
theorem init_ints {l : Addr} {items : Array Value} (ns : List Int) (hh : A.handled = none) (hl : s.heap.IsList l items) (hit : IntsAre items.toList ns) (hb : ns.length + 1 < scanBound) :
    codeAny (model P w) A (.call (.builtin "set.__init__") ⟨[.ref s.heap.objs.size, .ref l], []⟩) (wants (fun r s₂ => r = .none ∧ InitI w s ns s₂) E) { s with heap := s.heap.push (bareSet w) } := by
  have hS : (s.heap.push (bareSet w)).get? s.heap.objs.size = some (bareSet w) := Heap.get?_push_size _ rfl
  have hT : Shared.TypeIs { s with heap := s.heap.push (bareSet w) } (.ref s.heap.objs.size) "set" := ⟨_, hS, rfl⟩
  have hz : items.size = ns.length := by
    have q := IntsAre.length hit
    rwa [Array.length_toList] at q
  have val : ∀ (i : Nat) (v : Value), items[i]? = some v → ∃ k t, ns[i]? = some k ∧ v = .int k t := fun i v hv => by
    have hi : i < ns.length := by rw [← hz]; exact (Array.getElem?_eq_some_iff.mp hv).1
    obtain ⟨t, e⟩ := PyProof.Rows.IntsAre.int_at hit i v (by rw [Array.getElem?_toList]; exact hv)
    exact ⟨ns[i], t, List.getElem?_eq_getElem hi, by rw [e, List.getD_eq_getElem?_getD, List.getElem?_eq_getElem hi]; rfl⟩
  have isL : (s.heap.push (bareSet w)).IsList l items := hl.push _
  have lt : l < s.heap.objs.size := let ⟨_, h, _⟩ := hl; Heap.lt_size h
  refine codeAny_call_builtin F.called_set.init.plain F.entry_set_init (check_set_init_1 hT ?_)
  obtain ⟨ol, hol, hcl, nl, hdl⟩ := isL
  obtain ⟨ocls, odict, odata, oslots⟩ := ol
  simp only at hcl hdl
  subst hcl; subst hdl
  have sub1 := F.sub_list_set
  have sub2 := F.sub_list_frozenset
  have ne : (Value.type "list" == Value.type "dict") = false := by decide
  unfold Builtin.«set.__init__» noKeywords Builtin.Frozenset.updateFrom
  generalize hPI : pyIter = PI
  wp_walk
  subst hPI
  have isL : (s.heap.push (bareSet w)).IsList l items := ⟨_, hol, rfl, nl, rfl⟩
  have size1 : (s.heap.push (bareSet w)).objs.size = s.heap.objs.size + 1 := Heap.size_push ..
  have apart : l ≠ (s.heap.push (bareSet w)).objs.size := Nat.ne_of_lt (by rw [size1]; exact Nat.lt_succ_of_lt lt)
  have out : s.heap.objs.size ∉ [(s.heap.push (bareSet w)).objs.size, l] := fun h => by
    rcases List.mem_cons.mp h with e | e
    · rw [size1] at e
      exact absurd e (Nat.ne_of_lt (Nat.lt_succ_self _))
    · exact absurd (List.mem_singleton.mp e) (Nat.ne_of_gt lt)
  have h3 : A.in1.in1.handled = none := by simp [hh]
  refine wpAny_pyIter_list isL ?_
  refine wpAny_bind (wpAny_runValue ?_)
  refine set_update_ints ((Walks.list h3 _ l apart items).toS) s.heap.objs.size out ns hz hb val (items.size - 0) 0 _ (by omega) (Nat.zero_le _)
    ⟨⟨_, Heap.get?_push_size _ rfl, rfl, rfl⟩, (isL.push _)⟩ ?a1 ?a2
  case a1 =>
    have hg : ((s.heap.push (bareSet w)).push { cls := .type "list_iterator", data := .fields #[.ref l, .int 0 0] }).get? s.heap.objs.size = some (bareSet w) := Heap.get?_push_of_some _ hS
    exact ⟨0, Nat.le_refl 0, setR_new_at hg⟩
  case a2 =>
    intro s' c' hm hc' hS'
    obtain ⟨h', g2, d', tk', os'⟩ := s'
    have eg : g2 = s.gens := hm.gens
    have ed : d' = s.drawn := hm.drawn
    have eo : os' = s.os := hm.os
    subst eg ed eo
    refine wpAny_pure ?_
    refine wpAny_pure ⟨rfl, h', tk', c', rfl, hS', by omega, fun b o e => ?_⟩
    have b0 : b < s.heap.objs.size := Heap.lt_size e
    refine hm.heap b o (fun h => ?_) (Heap.get?_push_of_some _ (Heap.get?_push_of_some _ e))
    rcases List.mem_cons.mp h with z | z
    · exact absurd z (Nat.ne_of_lt b0)
    · have q := List.mem_singleton.mp z
      rw [size1] at q
      exact absurd q (Nat.ne_of_lt (Nat.lt_succ_of_lt b0))
/-- set(xs), xs a list of ints -/
theorem call_set_intsL {l : Addr} {items : Array Value} (ns : List Int) {Q : Value → Shared → Prop} (hh : A.handled = none) (hl : s.heap.IsList l items) (hit : IntsAre items.toList ns) (hb : ns.length + 1 < scanBound)
    (h : ∀ s₂, InitI w s ns s₂ → Q (.ref s.heap.objs.size) s₂) : wpAny (model P w) A (call (.type "set") [.ref l]) Q E s := by
  obtain ⟨c, tl, hmro⟩ := F.called_set.mro
  have hmade := F.called_set.made
  have hsub := F.called_set.sub
  have h1 := F.called_set.notType
  have h2 := F.called_set.canCreate
  have hct := F.typeCall_set_1 (.ref l)
  have hli := F.called_set.init.lookup
  have hbi := F.called_set.init.bind (.ref s.heap.objs.size)
  refine wpAny_call (codeAny_of_tree ?_)
  show wpAny _ _ (callAny (.type "set") _) _ _ _
  refine wpAny_pure ⟨Code.quiet_builtin _ (by decide +kernel), codeAny_builtin F.entry_type_call ?_⟩
  rw [Around.under_plain (weight_type_call_type "set" [.ref l] []) rfl]
  repeat (any_goals (first | assumption | wp_step))
  refine codeAny_mono (code_set_led1 (.ref l) (E := E) (Q₁ := fun obj s₁ => obj = .ref s.heap.objs.size ∧ s₁ = { s with heap := s.heap.push (bareSet w) }) ⟨rfl, rfl⟩) fun r s₁ hr => ?_
  rcases r with e | fl
  · exact hr
  cases fl with
  | ret obj =>
    obtain ⟨rfl, rfl⟩ := hr
    have hS : (s.heap.push (bareSet w)).get? s.heap.objs.size = some (bareSet w) := Heap.get?_push_size _ rfl
    have hT : Shared.TypeIs { s with heap := s.heap.push (bareSet w) } (.ref s.heap.objs.size) "set" := ⟨_, hS, rfl⟩
    repeat (any_goals (first | assumption | wp_step))
    refine codeAny_mono (init_ints (E := E) ns ?_ hl hit hb) fun r₂ s₂ hr₂ => ?_
    · simp [hh]
    rcases r₂ with e | fl₂
    · exact hr₂
    cases fl₂ with
    | ret r =>
      obtain ⟨rfl, hI⟩ := hr₂
      repeat (any_goals (first | assumption | wp_step))
      exact h _ hI
    | _ => exact hr₂.elim
  | _ => exact hr.elim
end
section
variable {X : Cx}
def rSetOfI (K : PySem.W.Frag) (w : World) : List V → Hp → VK → Prop := fun xs H Q => ∃ (l : Addr) (ns : List Int), xs = [V.ref l] ∧ SqL K H l (ns.map V.int) ∧ ns.length < 1000 ∧
  ∀ (a : Addr) (c : Nat), H a = none → c ≤ ns.length → Q (.ref a) (upd H a (SetO w a (fun j => decide (j ∈ ns)) c))
theorem cr_setOfI (hc : X.calm = true) : CallR X (.type "set") (rSetOfI X.K X.w) := by
  intro pins s σ H xs us Q I r h
  obtain ⟨l, ns, rfl, hl, hf, q⟩ := h
  rw [Vals.ref1 r]
  obtain ⟨its, rv, pl, hz⟩ := I.list hl
  have hn : H s.heap.objs.size = none := I.hok.fresh (Nat.le_refl _)
  refine call_set_intsL (P := X.prog) (w := X.w) ns (I.ok.hd hc) pl.isList (by simpa using intsAre_of rv) (by unfold scanBound; omega) fun s₂ hI => ?_
  obtain ⟨h', tk, c, rfl, R, hcn, k⟩ := hI
  exact ⟨.ref s.heap.objs.size, upd H s.heap.objs.size (SetO X.w s.heap.objs.size (fun j => decide (j ∈ ns)) c), I.laid (t' := tk) k (Nat.le_refl _) (setO_new R), rfl, q _ c hn hcn⟩
end
/-! ### a tank whose second number is greater -/
def Stk (H : Hp) (T : Addr) (c : Int) : Prop := ∃ x y z : Int, H T = some (.lst [.int x, .int y, .int z]) ∧ 0 ≤ x ∧ 0 ≤ y ∧ y < 170141183460469231731687303715884105727 ∧ 0 ≤ z ∧ z ≤ c
theorem Stk.some {H : Hp} {T : Addr} {c : Int} (h : Stk H T c) : ∃ o, H T = some o := let ⟨_, _, _, e, _⟩ := h; ⟨_, e⟩
theorem Stk.same {H H' : Hp} {T : Addr} {c : Int} (h : Stk H T c) (s : Same H H') : Stk H' T c := let ⟨x, y, z, e, r⟩ := h; ⟨x, y, z, s _ _ e, r⟩
theorem Stk.ne {H : Hp} {T p : Addr} {c : Int} (h : Stk H T c) (n : H p = none) : p ≠ T := fun e => by
  obtain ⟨o, q⟩ := h.some
  rw [e, q] at n
  cases n
theorem Stk.up {H : Hp} {T p : Addr} {c : Int} {o : HO} (h : Stk H T c) (n : H p = none) : Stk (upd H p o) T c := h.same (new_same n)
theorem Stk.mono {H : Hp} {T : Addr} {c d : Int} (h : Stk H T c) (l : c ≤ d) : Stk H T d := let ⟨x, y, z, e, a, b, r, f, g⟩ := h; ⟨x, y, z, e, a, b, r, f, by omega⟩
theorem Stk.over {H : Hp} {T p : Addr} {c : Int} {o : HO} (h : Stk H T c) (n : p ≠ T) : Stk (upd H p o) T c := let ⟨x, y, z, e, r⟩ := h; ⟨x, y, z, by rw [upd_ne n.symm]; exact e, r⟩
/-! ### a square of a great int -/
def CPow2 (i j : Int) : Prop := j = 2 ∧ 0 ≤ i ∧ i.natAbs < 2 ^ 200
theorem op_pow2 {X : Cx} : OpR X (binaryOp .Pow) (rI CPow2 fun i j => .int (i ^ j.toNat)) := opI fun i j t u s Q E hc q => by
  obtain ⟨rfl, h0, h1⟩ := hc
  by_cases e : (i == 0 || i == 1) = true
  · refine PySem.AutoIntOps.pow_1 (by decide) (by decide) e ?_
    have e2 : i ^ (2 : Int).toNat = i := by
      rcases (Bool.or_eq_true _ _).mp e with z | z
      · rw [eq_of_beq z]; rfl
      · rw [eq_of_beq z]; rfl
    rw [e2] at q
    exact q
  · refine PySem.AutoIntOps.pow_4 (by decide) (by decide) e ?_ ?_ q
    · intro z
      have := eq_of_beq z
      omega
    · intro z
      unfold Builtin.Int.intTooBig at z
      have z3 := of_decide_eq_true z
      have b : Builtin.Int.intBits i ≤ 201 := by
        unfold Builtin.Int.intBits
        have y := PySem.Flt.log2_lt_of (show 0 < 200 by decide) h1
        split <;> omega
      have e : bitsLine = 134217728 := by decide
      rw [e] at z3
      omega
/-! ### rows of bits, sums over bits -/
def bitR : Nat → Nat → List Int
  | 0, _ => []
  | n + 1, b => (((b / 2 ^ n) % 2 : Nat) : Int) :: bitR n b
theorem bitR_len : ∀ n b : Nat, (bitR n b).length = n
  | 0, _ => rfl
  | n + 1, b => by
    show (bitR n b).length + 1 = n + 1
    rw [bitR_len n b]
theorem bitR_at : ∀ {n b i : Nat}, i < n → (bitR n b)[i]? = some (((b / 2 ^ (n - 1 - i)) % 2 : Nat) : Int)
  | 0, _, _, h => absurd h (Nat.not_lt_zero _)
  | n + 1, b, 0, _ => by
    show some (((b / 2 ^ n) % 2 : Nat) : Int) = _
    rw [show n + 1 - 1 - 0 = n by omega]
  | n + 1, b, i + 1, h => by
    show (bitR n b)[i]? = _
    rw [bitR_at (show i < n by omega), show n + 1 - 1 - (i + 1) = n - 1 - i by omega]
theorem bitR_add : ∀ n q b : Nat, bitR n (2 ^ n * q + b) = bitR n b
  | 0, _, _ => rfl
  | n + 1, q, b => by
    show (((2 ^ (n + 1) * q + b) / 2 ^ n % 2 : Nat) : Int) :: bitR n (2 ^ (n + 1) * q + b) = ((b / 2 ^ n % 2 : Nat) : Int) :: bitR n b
    have e : 2 ^ (n + 1) * q = 2 ^ n * (2 * q) := by rw [Nat.pow_succ, Nat.mul_assoc]
    rw [e, bitR_add n (2 * q) b, Nat.mul_add_div (Nat.pow_pos (by decide)), Nat.mul_add_mod]
theorem bitR_01 : ∀ {n b : Nat} {x : Int}, x ∈ bitR n b → 0 ≤ x ∧ x ≤ 1
  | 0, _, _, h => absurd h List.not_mem_nil
  | n + 1, b, x, h => by
    rcases List.mem_cons.mp h with e | e
    · rw [e]
      have := Nat.mod_lt (b / 2 ^ n) (show 0 < 2 by decide)
      omega
    · exact bitR_01 e
def sumsB : List Int → List Int
  | [] => [0]
  | x :: r => sumsB r ++ (sumsB r).map (· + x)
theorem sumsB_len : ∀ xs : List Int, (sumsB xs).length = 2 ^ xs.length
  | [] => rfl
  | x :: r => by
    show (sumsB r ++ (sumsB r).map (· + x)).length = 2 ^ (r.length + 1)
    rw [List.length_append, List.length_map, sumsB_len r, Nat.pow_succ]
    omega
theorem sumsB_at : ∀ {xs : List Int} {b : Nat}, b < 2 ^ xs.length → (sumsB xs)[b]? = some (prods xs (bitR xs.length b)).sum
  | [], b, h => by
    obtain rfl : b = 0 := by
      have : b < 1 := h
      omega
    rfl
  | x :: r, b, h => by
    have h : b < 2 ^ (r.length + 1) := h
    rw [Nat.pow_succ] at h
    show (sumsB r ++ (sumsB r).map (· + x))[b]? = some (prods (x :: r) ((((b / 2 ^ r.length) % 2 : Nat) : Int) :: bitR r.length b)).sum
    show _ = some (x * (((b / 2 ^ r.length) % 2 : Nat) : Int) + (prods r (bitR r.length b)).sum)
    by_cases hb : b < 2 ^ r.length
    · rw [List.getElem?_append_left (by rw [sumsB_len]; exact hb), sumsB_at hb, Nat.div_eq_of_lt hb]
      show _ = some (x * 0 + _)
      rw [Int.mul_zero, Int.zero_add]
    · obtain ⟨c, rfl⟩ : ∃ c, b = 2 ^ r.length * 1 + c := ⟨b - 2 ^ r.length, by omega⟩
      have hc : c < 2 ^ r.length := by omega
      rw [List.getElem?_append_right (by rw [sumsB_len]; omega), sumsB_len, List.getElem?_map, show 2 ^ r.length * 1 + c - 2 ^ r.length = c by omega, sumsB_at hc, bitR_add, Nat.mul_add_div (Nat.pow_pos (by decide)), Nat.div_eq_of_lt hc]
      show some (_ + x) = some (x * 1 + _)
      rw [Int.mul_one, Int.add_comm]
theorem lights_at {ns : List Int} {t : Int} {b : Nat} (h1 : 1 ≤ ns.length) (h : b < 2 ^ ns.length) : (sumsB (rot ns (-t)))[b]? = some (lightV ns (bitR ns.length b) t) := by
  rw [sumsB_at (by rw [rot_len]; exact h), rot_len]
  have e := light_rot1 (ns := ns) (ms := bitR ns.length b) (bitR_len _ _).symm (-t) 0
  rw [show (0 : Int) - -t = t by omega] at e
  rw [← e]
  show _ = some (prods (rot ns (-t)) (rot (bitR ns.length b) 0)).sum
  rw [rot_zero]
/-- the numbers of the rows that fit -/
def okF (ns : List Int) (p : Int × Int) (b : Nat) : Bool := decide (lightV ns (bitR ns.length b) p.1 = p.2)
def fitsF (ns : List Int) (ps : List (Int × Int)) : List Nat := ps.foldl (fun F p => F.filter (okF ns p)) (List.range (2 ^ ns.length))
theorem fits_take {ns : List Int} {ps : List (Int × Int)} {i : Nat} {p : Int × Int} (h : ps[i]? = some p) : fitsF ns (ps.take (i + 1)) = (fitsF ns (ps.take i)).filter (okF ns p) := by
  unfold fitsF
  rw [List.take_add_one, h, List.foldl_append]
  rfl
theorem fits_all (ns : List Int) (ps : List (Int × Int)) : fitsF ns (ps.take ps.length) = fitsF ns ps := by rw [List.take_length]
theorem foldF_len {α : Type} (g : α → Nat → Bool) : ∀ (ps : List α) (F : List Nat), (ps.foldl (fun F p => F.filter (g p)) F).length ≤ F.length
  | [], F => Nat.le_refl _
  | p :: r, F => Nat.le_trans (foldF_len g r (F.filter (g p))) (List.length_filter_le _ _)
theorem foldF_mem {α : Type} (g : α → Nat → Bool) : ∀ (ps : List α) (F : List Nat) {b : Nat}, b ∈ ps.foldl (fun F p => F.filter (g p)) F → b ∈ F
  | [], F, _, h => h
  | p :: r, F, _, h => (List.mem_filter.mp (foldF_mem g r (F.filter (g p)) h)).1
theorem fits_len (ns : List Int) (ps : List (Int × Int)) : (fitsF ns ps).length ≤ 2 ^ ns.length := by
  have := foldF_len (okF ns) ps (List.range (2 ^ ns.length))
  rwa [List.length_range] at this
theorem fits_mem {ns : List Int} {ps : List (Int × Int)} {b : Nat} (h : b ∈ fitsF ns ps) : b < 2 ^ ns.length := List.mem_range.mp (foldF_mem (okF ns) ps _ h)
/-! ### lists of lists of ints -/
inductive LL (H : Hp) : List V → List (List Int) → Prop
  | nil : LL H [] []
  | cons {a : Addr} {r : List Int} {vs : List V} {S : List (List Int)} (h : H a = some (.lst (r.map V.int))) (t : LL H vs S) : LL H (.ref a :: vs) (r :: S)
theorem none_back {H H1 : Hp} {p : Addr} (s : Same H H1) (n : H1 p = none) : H p = none := by
  cases e : H p with
  | none => rfl
  | some o =>
    have := s _ _ e
    rw [n] at this
    cases this
theorem LL.up {H H1 : Hp} {vs : List V} {S : List (List Int)} (h : LL H vs S) (s : Same H H1) : LL H1 vs S := by
  induction h with
  | nil => exact .nil
  | cons h _ ih => exact .cons (s _ _ h) ih
theorem LL.len {H : Hp} {vs : List V} {S : List (List Int)} (h : LL H vs S) : vs.length = S.length := by
  induction h with
  | nil => rfl
  | cons _ _ ih => rw [List.length_cons, List.length_cons, ih]
theorem LL.at {H : Hp} {vs : List V} {S : List (List Int)} (h : LL H vs S) : ∀ {i : Nat} {v : V}, vs[i]? = some v → ∃ a r, v = .ref a ∧ S[i]? = some r ∧ H a = some (.lst (r.map V.int)) := by
  induction h with
  | nil => exact fun e => nomatch e
  | cons h _ ih =>
    intro i v e
    cases i with
    | zero => exact ⟨_, _, (Option.some.inj e).symm, rfl, h⟩
    | succ i => exact ih e
theorem LL.get {H : Hp} {vs : List V} {S : List (List Int)} (h : LL H vs S) : ∀ {i : Nat} {r : List Int}, S[i]? = some r → ∃ a, vs[i]? = some (.ref a) ∧ H a = some (.lst (r.map V.int)) := by
  induction h with
  | nil => exact fun e => nomatch e
  | cons h _ ih =>
    intro i v e
    cases i with
    | zero => exact ⟨_, rfl, by rw [← Option.some.inj e]; exact h⟩
    | succ i => exact ih e
theorem LL.snoc {H : Hp} {vs : List V} {S : List (List Int)} {a : Addr} {r : List Int} (h : LL H vs S) (e : H a = some (.lst (r.map V.int))) : LL H (vs ++ [.ref a]) (S ++ [r]) := by
  induction h with
  | nil => exact .cons e .nil
  | cons h _ ih => exact .cons h ih
end Sd

namespace Sd
open PySem PySem.Spec PyProof.Rows L2
/-! ### enumerate(tuple) -/
theorem meets_enum1 {v : Value} {o : Obj} {G : Heap → Prop} (B : Begins v o G) :
    Meets (Builtin.«enumerate.__new__» ⟨[.type "enumerate", v], []⟩) (fun _ R s => G s.heap ∧
      R (.ok (.ret (.ref (s.heap.push o).objs.size))) { s with heap := (s.heap.push o).push { cls := .type "enumerate", data := .fields #[.none, .bool false, .ref s.heap.objs.size, rawInt 0, .none, .none] } }) :=
  .of_wp fun prog w A R s h => by
    obtain ⟨hp, g, d, tk, os⟩ := s; obtain ⟨h1, h⟩ := h
    have hsub := sub_enumerate
    have go : ∀ {A' : Around} {E : Value → Shared → Prop} {Q : Value → Shared → Prop}, Q (.ref hp.objs.size) ⟨hp.push o, g, d, tk, os⟩ → wpAny (model prog w) A' (pyIter v) Q E ⟨hp, g, d, tk, os⟩ :=
      fun q => B.iter prog w _ _ ⟨hp, g, d, tk, os⟩ _ h1 q
    wp_walk using go
    refine wpAny_stack_any fun st => wpAny_pure ?_
    split
    · rename_i c _ _ _ _ _
      cases (c == Value.type "enumerate") <;>
      · wp_walk using go
        exact ⟨_, rfl, h⟩
    · wp_walk using go
      exact ⟨_, rfl, h⟩
section
variable {P : Program} {w : World} {A : Around} {E : Value → Shared → Prop} {s : Shared}
theorem enum1_begins {v : Value} {o : Obj} {G : Heap → Prop} {Q : Value → Shared → Prop} (B : Begins v o G) (h1 : G s.heap)
    (h : ∀ h', IsEnum h' (s.heap.objs.size + 1) s.heap.objs.size 0 .none → h'.get? s.heap.objs.size = some o → (∀ b u, s.heap.get? b = some u → h'.get? b = some u) → Q (.ref (s.heap.objs.size + 1)) { s with heap := h' }) :
    wpAny (model P w) A (call (.type "enumerate") [v]) Q E s := by
  refine callType_new F.called_enumerate (by decide) (F.typeCall_enumerate_1 _) (F.newCall_enumerate_1 _) (fun obj => F.args_object_init_2 obj _) F.entry_enumerate_new (meets_enum1 B) ⟨h1, ?_⟩
  have hz : (s.heap.push o).objs.size = s.heap.objs.size + 1 := Heap.size_push ..
  show _ ∧ _
  rw [hz]
  have he : IsEnum ((s.heap.push o).push { cls := .type "enumerate", data := .fields #[.none, .bool false, .ref s.heap.objs.size, rawInt 0, .none, .none] }) (s.heap.objs.size + 1) s.heap.objs.size 0 .none := by
    have q := Heap.get?_push_size (s.heap.push o) (o := { cls := .type "enumerate", data := .fields #[.none, .bool false, .ref s.heap.objs.size, rawInt 0, .none, .none] }) rfl
    rw [hz] at q
    exact q
  exact ⟨⟨_, he, rfl⟩, h _ he (Heap.get?_push_of_some _ (Heap.get?_push_size _ B.free)) fun b u x => Heap.get?_push_of_some _ (Heap.get?_push_of_some _ x)⟩
end
/-- a tuple's iterator behind its last item -/
theorem drawn_out {P : Program} {w : World} {A : Around} (hh : A.handled = none) (it t : Addr) (k : Nat) (items : Array Value) (hx : items[k]? = none) :
    Draws P w A it [it, t] 0 (fun _ _ => False) (fun _ h => h.IsTupleIter it t k ∧ h.IsTuple t items) where
  live := fun _ _ st => let ⟨o, ho, _⟩ := st.1; ⟨o, ho⟩
  frame := fun _ _ _ st hk => ⟨st.1.at fun o e => hk it (by simp) o e, st.2.at fun o e => hk t (by simp) o e⟩
  item := fun i s Q E hi => absurd hi (Nat.not_lt_zero _)
  done := fun s Q E st hE => wpAny_nextOf_tuple_end hh st.1 st.2 hx hE
/-- the tuple at a, each item in a new pair -/
def Iet (K : PySem.W.Frag) (a : Addr) : It :=
  ⟨fun i H => ∃ (xs : List V) (x : V), SqT K H a xs ∧ xs[i]? = some x, fun i H v H' => ∃ T x, v = .ref T ∧ H T = none ∧ H' = upd H T (.tup [.int (i : Nat), x]) ∧ ∀ xs, SqT K H a xs → xs[i]? = some x, fun i H => ∃ xs : List V, SqT K H a xs ∧ xs.length ≤ i⟩
theorem turn_enumT {P : Program} {w : World} {K : PySem.W.Frag} {elts : List Expr} {kk : Nat} {tpos : Pos} (a e it : Addr) (hea : e ≠ a) (hai : a ≠ it) :
    Turn P w K (.Tuple elts kk tpos) (Iet K a) [e, it] e (fun i h => (∃ old, IsEnum h e it ((i : Nat) : Int) old) ∧ h.IsTupleIter it a i ∧ e ≠ it) where
  mem := by simp
  obj := fun i h st b hb => by
    obtain ⟨⟨old, he⟩, ⟨o, ho, hc, hd⟩, _⟩ := st
    rcases (by simpa using hb : b = e ∨ b = it) with rfl | rfl
    · exact ⟨_, he, fun v q => nomatch q⟩
    · exact ⟨o, ho, fun v q => by rw [hd] at q; cases q⟩
  keep := fun i h h' st k => let ⟨⟨old, he⟩, hi, hne⟩ := st; ⟨⟨old, k e (by simp) _ he⟩, hi.at fun o q => k it (by simp) o q, hne⟩
  item := by
    intro X hP hw hK hc i pins s σ H E I hf st hg
    subst hP hw hK
    obtain ⟨⟨old, he⟩, hit, hne⟩ := st
    obtain ⟨xs, x, hq, hx⟩ := hg
    obtain ⟨its, rv, p, hz⟩ := I.tuple hq
    obtain ⟨u, hu, ru⟩ := rv.get hx
    have hel : e < s.heap.objs.size := Heap.lt_size he
    have hil : it < s.heap.objs.size := by obtain ⟨_, q, _⟩ := hit; exact Heap.lt_size q
    have pt : s.heap.IsTuple a its.toArray := p
    have hin : i < its.toArray.size := by
      have := (List.getElem?_eq_some_iff.mp hu).1
      simpa using this
    refine wpAny_pyNext_enum_itemC (Draws.tuple (prog := X.prog) (w := X.w) (A := X.A.in1) (by simp [I.ok.hd hc]) it a hai its.toArray) he ⟨hit, pt⟩ hin hne (by simp [hne, hea]) fun v h' tk hv ho hst' hT hsz hk => ?_
    obtain rfl : v = u := by
      have q : its.toArray[i]? = some v := hv
      rw [List.getElem?_toArray, hu] at q
      exact (Option.some.inj q).symm
    refine ⟨_, rfl, wpAny_letOwnedTupleGo_enum (s := { s with heap := h', toks := tk + 1 }) ho fun h'' he' sb => ?_⟩
    have hT2 : h''.get? s.heap.objs.size = some { cls := .type "tuple", data := .seq #[.int i tk, v] } := (sb.2 _ (Nat.ne_of_gt hel)).trans hT
    have new : ObjOk X.prog X.w (upd H s.heap.objs.size (.tup [.int (i : Nat), x])) h'' s.heap.objs.size (.tup [.int (i : Nat), x]) :=
      ⟨by show 2 ≤ sizeLine; decide, [.int i tk, v], .cons ⟨_, rfl⟩ (.cons ru .nil), ⟨_, hT2, rfl, _, rfl⟩⟩
    have I1 : Inv X pins σ (upd H s.heap.objs.size (.tup [.int (i : Nat), x])) { s with heap := h'', toks := tk + 1 } :=
      I.turnedNew (ch := [e, it]) (fun b ob hb q => (sb.2 b (fun z => hb (by simp [z]))).trans (hk b ob (fun z => hb (by simp [z])) (fun z => hb (by simp [z])) q)) hf (Nat.le_refl _) new
    refine ⟨.ref s.heap.objs.size, _, I1, rfl, ⟨_, x, rfl, I.hok.fresh (Nat.le_refl _), rfl, fun ys hy => by rw [I.tuple_inj hy hq]; exact hx⟩, ⟨⟨v, ?_⟩, hst'.1.at fun o q => (sb.2 it (Ne.symm hne)).trans q, hne⟩, fun b hb => ?_⟩
    · rw [show ((i + 1 : Nat) : Int) = (i : Int) + 1 by omega]
      exact he'
    · have hb' : b < s.heap.objs.size := by
        rcases (by simpa using hb : b = e ∨ b = it) with rfl | rfl
        · exact hel
        · exact hil
      rw [upd_ne (Nat.ne_of_lt hb')]
      exact (hf b hb).1
  done := by
    intro X hP hw hK hc i pins s σ H E I hf st hg
    subst hP hw hK
    obtain ⟨⟨old, he⟩, hit, hne⟩ := st
    obtain ⟨xs, hq, hx⟩ := hg
    obtain ⟨its, rv, p, hz⟩ := I.tuple hq
    obtain ⟨f0, f1, f2, f3, f4, f5⟩ := hf it (by simp)
    have hl := rv.length
    have pt : s.heap.IsTuple a its.toArray := p
    have hno : its.toArray[i]? = none := by
      rw [List.getElem?_toArray]
      exact List.getElem?_eq_none (by omega)
    exact wpAny_pyNext_enum_endD (drawn_out (by simp [I.ok.hd hc]) it a i its.toArray hno) he ⟨hit, pt⟩ fun h' eb => ⟨rfl, I.turned (t' := s.toks) (fun b o hb q => eb b o hb q) f0 f1 f3 f4 f5⟩
  self := fun A i s Q E st h => let ⟨⟨_, he⟩, _⟩ := st; wpAny_pyIter_enum he h
def iEnumT (K : PySem.W.Frag) (ta : TA) : TI := fun σ H R => ta σ H fun vs H1 => ∃ a xs, vs = [.ref a] ∧ SqT K H1 a xs ∧ R (Iet K a) H1
theorem pi_enumT {X : Cx} {e : Expr} {ta : TA} {p pos tpos : Pos} {elts : List Expr} {kk : Nat} (hg : Gl X "enumerate") (hm : X.mg "enumerate" = none) (ha : PA X [e] ta) (hs : starEach [e] X.env = [(false, eval e X.env)] := by rfl) :
    PI X (.Tuple elts kk tpos) (.Call (.Name "enumerate" p) [e] [] pos) (iEnumT X.K ta) := by
  refine ⟨fun pins s σ H R I h => ?_⟩
  refine Call_ (ld_blt I hg hm boot_enumerate (PyProof.Rows.callWith_type1 (thn (ha.run pos pins s σ H _ I h) fun us s1 ⟨vs, H1, I1, r1, q1⟩ => ?_) hs rfl))
  obtain ⟨a, xs, rfl, hq, q⟩ := q1
  rw [Vals.ref1 r1]
  obtain ⟨its, rv, p', hz⟩ := I1.tuple hq
  have pt : s1.heap.IsTuple a its.toArray := p'
  have hal : a < s1.heap.objs.size := by
    obtain ⟨o, ho, _⟩ := pt
    exact Heap.lt_size ho
  refine enum1_begins (begins_tuple a its.toArray) pt fun h' he hit hk => wpAny_pyIter_enum he ?_
  have I2 : Inv X pins σ H1 { s1 with heap := h' } := I1.kept (t' := s1.toks) hk
  refine ⟨s1.heap.objs.size + 1, [s1.heap.objs.size + 1, s1.heap.objs.size], _, _, H1, rfl, I2, turn_enumT a (s1.heap.objs.size + 1) s1.heap.objs.size (Nat.ne_of_gt (Nat.lt_succ_of_lt hal)) (Nat.ne_of_lt hal), ⟨⟨.none, he⟩, ⟨_, hit, rfl, rfl⟩, Nat.succ_ne_self _⟩, fun b hb => ?_, q⟩
  have hle : s1.heap.objs.size ≤ b := by
    rcases (by simpa using hb : b = s1.heap.objs.size + 1 ∨ b = s1.heap.objs.size) with z | z
    · rw [z]; exact Nat.le_add_right _ _
    · rw [z]; exact Nat.le_refl _
  exact I1.fpOk hle (I1.hok.fresh hle)
theorem enumT {X : Cx} {K : PySem.W.Frag} {elts : List Expr} {kk : Nat} {tpos p pos : Pos} {e : Expr} {ta : TA} (h : X.K = K) (hg : Gl X "enumerate") (hm : X.mg "enumerate" = none) (ha : PA X [e] ta)
    (hs : starEach [e] X.env = [(false, eval e X.env)] := by rfl) : PI X (.Tuple elts kk tpos) (.Call (.Name "enumerate" p) [e] [] pos) (iEnumT K ta) := h ▸ pi_enumT hg hm ha hs
theorem walk_enumT {K : PySem.W.Frag} {a : Addr} {xs : List V} : Walk (Iet K a) xs.length (fun H => SqT K H a xs) (YPair (fun i => some (.int (i : Nat))) (fun i => xs[i]?)) := by
  refine ⟨fun i _ hi q => ⟨xs, xs[i], q, by simp [hi]⟩, fun _ q => ⟨xs, q, Nat.le_refl _⟩, fun i H v H' _ q y => ?_⟩
  obtain ⟨T, x, h1, h2, h3, h4⟩ := y
  exact ⟨T, .int (i : Nat), x, h1, h2, h3, rfl, h4 xs q⟩
theorem ixTL {X : Cx} {K : PySem.W.Frag} (h : X.K = K) : IxR X (rIxT K) := h ▸ ix_tup
/-- numbers as ints -/
def natI (F : List Nat) : List Int := F.map fun (b : Nat) => (b : Int)
theorem natI_len (F : List Nat) : (natI F).length = F.length := List.length_map ..
theorem natI_at {F : List Nat} {i : Nat} {n : Int} (h : (natI F)[i]? = some n) : ∃ b, F[i]? = some b ∧ n = (b : Int) := by
  unfold natI at h
  rw [List.getElem?_map] at h
  cases e : F[i]? with
  | none => rw [e] at h; cases h
  | some b =>
    rw [e] at h
    exact ⟨b, rfl, (Option.some.inj h).symm⟩
theorem natI_get {F : List Nat} {i b : Nat} (h : F[i]? = some b) : (natI F)[i]? = some (b : Int) := by
  unfold natI
  rw [List.getElem?_map, h]
  rfl
theorem filt_next {α : Type} {F : List α} {g : α → Bool} {i : Nat} {b : α} (h : F[i]? = some b) : (F.take (i + 1)).filter g = (F.take i).filter g ++ (if g b = true then [b] else []) := by
  rw [List.take_add_one, h, List.filter_append]
  show _ ++ List.filter g [b] = _
  by_cases e : g b = true
  · rw [List.filter_cons, if_pos e, if_pos e]
    rfl
  · rw [List.filter_cons, if_neg e, if_neg e]
    rfl
theorem LL.put {H : Hp} {F : Addr} {us : List V} {o : HO} (e : H F = some (.lst us)) : ∀ {vs : List V} {S : List (List Int)}, LL H vs S → (∀ v ∈ vs, v ∈ us) → LL (upd H F o) vs S
  | _, _, .nil, _ => .nil
  | _, _, .cons (a := a) (r := r) h t, m => by
    refine .cons ?_ (LL.put e t fun v hv => m v (List.mem_cons_of_mem _ hv))
    rw [upd_ne fun z => ?_]
    · exact h
    · rw [z, e] at h
      have hm := m _ List.mem_cons_self
      have hr : us = r.map V.int := by
        injection h with h
        injection h
      rw [hr] at hm
      obtain ⟨x, _, q⟩ := List.mem_map.mp hm
      cases q
theorem prods01 {B : Int} : ∀ {ns ms : List Int}, (∀ n ∈ ns, 0 ≤ n ∧ n ≤ B) → (∀ m ∈ ms, 0 ≤ m ∧ m ≤ 1) → 0 ≤ (prods ns ms).sum ∧ (prods ns ms).sum ≤ B * ns.length
  | [], _, _, _ => ⟨Int.le_refl _, by show (0 : Int) ≤ B * 0; omega⟩
  | n :: ns, [], hn, _ => ⟨Int.le_refl _, by
      show (0 : Int) ≤ B * ((ns.length + 1 : Nat) : Int)
      have := hn n List.mem_cons_self
      exact Int.mul_nonneg (by omega) (by omega)⟩
  | n :: ns, m :: ms, hn, hm => by
    obtain ⟨h1, h2⟩ := prods01 (B := B) (ns := ns) (ms := ms) (fun x hx => hn x (List.mem_cons_of_mem _ hx)) (fun x hx => hm x (List.mem_cons_of_mem _ hx))
    have hn1 := hn n List.mem_cons_self
    have hm1 := hm m List.mem_cons_self
    show 0 ≤ n * m + (prods ns ms).sum ∧ n * m + (prods ns ms).sum ≤ B * ((ns.length + 1 : Nat) : Int)
    have hs : B * ((ns.length + 1 : Nat) : Int) = B * (ns.length : Int) + B := by
      rw [Int.natCast_add, Int.mul_add]
      show _ + B * 1 = _
      rw [Int.mul_one]
    rw [hs]
    rcases (show m = 0 ∨ m = 1 by omega) with rfl | rfl
    · rw [Int.mul_zero]
      omega
    · rw [Int.mul_one]
      omega
theorem light01 {ns ms : List Int} {t : Int} (hR : Rim ns) (hm : ∀ m ∈ ms, 0 ≤ m ∧ m ≤ 1) : 0 ≤ lightV ns ms t ∧ lightV ns ms t ≤ 1000000000000000000000000000000 * 40 := by
  obtain ⟨h1, h2⟩ := prods01 hR.all (rot_all (t := t) (P := fun m => 0 ≤ m ∧ m ≤ 1) hm)
  have h3 := hR.le
  refine ⟨h1, Int.le_trans h2 (Int.mul_le_mul_of_nonneg_left (by omega) (by decide))⟩
theorem ab01 {ms : List Int} (hm : ∀ m ∈ ms, 0 ≤ m ∧ m ≤ 1) : Ab 400 ms := fun m h => by
  have := hm m h
  exact Nat.lt_of_le_of_lt (m := 1) (by omega) (by decide +kernel)
theorem LL.but {t : Addr} {H H1 : Hp} (u : But t H H1) : ∀ {vs : List V} {S : List (List Int)}, LL H vs S → (∀ a, V.ref a ∈ vs → a ≠ t) → LL H1 vs S
  | _, _, .nil, _ => .nil
  | _, _, .cons h r, n => .cons (u _ _ h (n _ List.mem_cons_self)) (LL.but u r fun a ha => n a (List.mem_cons_of_mem _ ha))
theorem setOfIL {X : Cx} {K : PySem.W.Frag} {w : World} (h : X.K = K) (hw : X.w = w) (hc : X.calm = true) : CallR X (.type "set") (rSetOfI K w) := by
  subst h hw
  exact cr_setOfI hc
theorem sortedSetL {X : Cx} {w : World} (hw : X.w = w) (hc : X.calm = true) : CallR X (.builtin "sorted") (rSortedSet w) := by
  subst hw
  exact cr_sortedSet hc
end Sd

namespace Sd
open PySem PySem.Spec PyProof.Rows L2
/-! ### a method by keywords alone, len by an own __len__ -/
section
variable {X : Cx} {C : CXT} {k : Nat} {D f : Addr} {fd : FuncData} {ps ks : List Str} {sp : Sp} {E : XK} {m : Str} {apos pos : Pos} {o : Expr} {kws : List Keyword} {ta : TE} {tk : TA} {g : List Value → List Value → List Value} {gV : List V → List V → List V}
def tMethW (D : Addr) (m : Str) (sp : Sp) (gV : List V → List V → List V) (E : XK) (ta : TE) (tk : TA) : TE := fun σ H Q => ta σ H fun x H1 => ∃ a dx fs, x = .ref a ∧ H1 a = some (.ins D dx fs) ∧ fs.lookup m = none ∧
  tk σ H1 fun zs H2 => sp (gV [x] zs) H2 Q E
theorem pe_methW {pl : Sem Bool} (he : PE X o ta) (c : Cls X.K D) (hm : Meth X.K D m f) (F : FnOk X.prog X.w X.K X.mg X.base C k f fd ps sp) (hr : Room k X.A) (hb : KBinds X.K fd ps ks g gV) (hx : Passes C X E) (hkw : PK X kws tk)
    (hall : (backToKw pos (keywordEach kws X.env)).all (·.1.isSome) = true := by rfl) (hks : (backToKw pos (keywordEach kws X.env)).filterMap (·.1) = ks := by rfl)
    (hpl : ((backTo pos (starEach [] X.env)).any (·.1) || (backToKw pos (keywordEach kws X.env)).any (·.1.isNone)) = false := by rfl)
    (ht : eval (.Call (.Attribute o m apos) [] kws pos) X.env = (eval o X.env >>= fun ov => standAt apos.atName >>= fun _ => holding [ov] (getMethod ov m pl) >>= fun p =>
      callWith pos p.1 p.2 (backTo pos (starEach [] X.env)) (backToKw pos (keywordEach kws X.env))) := by rfl) :
    PE X (.Call (.Attribute o m apos) [] kws pos) (tMethW D m sp gV E ta tk) := by
  refine ⟨fun pins s σ H Q I h => ?_⟩
  refine PySem.W.methodCall_KW (pl := pl) (thn (he.run pins s σ H _ I h) fun u s1 z => ?_) ht
  obtain ⟨x, H1, I1, rx, a, dx, fs, ex, ea, l, q⟩ := z
  subst ex
  have eu : u = Value.ref a := rx
  subst eu
  refine getmeth_ok I1 ea c hm l ?_
  refine PySem.W.callWith_KW0 (first := [Value.ref a]) (h₀ := X.base) I.ok.mod.kin hm.kp hall (thn (hkw.run pos pins s1 σ H1 _ I1 q) fun ws s2 y => ?_) hpl
  obtain ⟨zs, H2, I2, rz, q2⟩ := y
  refine ⟨I2.kIn, ?_⟩
  rw [hks]
  exact run_fnk (us := [Value.ref a]) (vs := [V.ref a]) F hr hb hx I2 (.cons rfl .nil) rz q2
def rLenOwn (D : Addr) (sp : Sp) (E : XK) : List V → Hp → VK → Prop := fun xs H Q => ∃ a dx fs, xs = [.ref a] ∧ H a = some (.ins D dx fs) ∧ sp [.ref a] H (fun v H' => ∃ n : Int, v = .int n ∧ 0 ≤ n ∧ n < 2 ^ 63 ∧ Q (.int n) H') E
theorem cr_lenOwn (c : Cls X.K D) (hm : Meth X.K D "__len__" f) (F : FnOk X.prog X.w X.K X.mg X.base C k f fd ps sp) (hr : Room (k + 1) X.A) (hb : Binds X.K fd ps []) (hx : Passes C X E) : CallR X (.builtin "len") (rLenOwn D sp E) := by
  intro pins s σ H xs us Q I r h
  obtain ⟨a, dx, fs, rfl, ea, q⟩ := h
  rw [Vals.ref1 r]
  obtain ⟨mA, O, _⟩ := ins_get I.hok ea
  obtain ⟨od, J, _⟩ := O.look
  obtain ⟨m0, hF⟩ := I.fr
  refine PySem.W.len_K hF I.ok.mod.kin J hm.at_ hm.fn ?_
  have hl : ([Value.ref a] ++ []).length = ps.length := by
    have := F.len _ _ _ _ q
    exact this
  refine wpAny_call (codeAny_mono (F.run X.A.in1 X.stack s H ⟨[.ref a], []⟩ [.ref a] [.ref a] _ E hr.in1 I.env0.in1 (hb s [.ref a] I.kIn hl) (.cons rfl .nil) q) fun r s' hq => ?_)
  cases r with
  | error er => exact hx pins σ H s er s' I hq
  | ok fl =>
    cases fl with
    | ret u =>
      obtain ⟨v, H', I3, rv, n, ev, n0, n1, q3⟩ := I.after hq
      subst ev
      obtain ⟨t, eu⟩ := (show ∃ t, u = Value.int n t from rv)
      subst eu
      exact ⟨⟨n0, n1⟩, .int n, H', I3.tok _, ⟨_, rfl⟩, q3⟩
    | next => exact False.elim hq
    | brk => exact False.elim hq
    | cont => exact False.elim hq
end
/-! ### calls of live discs -/
inductive LC where
  | turn (n : Int)
  | slot (s : Nat) (l : Int)
  | flip
def sTurn : Str := "turn"
def sSlot : Str := "slot"
def sMir : Str := "mirror"
def LC.v : LC → List V
  | .turn n => [.str sTurn, .int n]
  | .slot s l => [.str sSlot, .int s, .int l]
  | .flip => [.str sMir]
def LC.d : LC → PyData
  | .turn n => .tuple [.str sTurn, .int n]
  | .slot s l => .tuple [.str sSlot, .int s, .int l]
  | .flip => .tuple [.str sMir]
abbrev LS := List Int × Int
def LC.on (st : LS) : LC → LS
  | .turn n => (st.1, (st.2 + n) % (st.1.length : Int))
  | .slot s l => (st.1.set s l, st.2)
  | .flip => (mir st.1, st.2)
def LC.ok (n : Nat) : LC → Prop
  | .turn k => k.natAbs < 10 ^ 40
  | .slot s l => s < n ∧ 0 ≤ l ∧ l ≤ 1000000000000000000000000000000
  | .flip => True
def LSok (n : Nat) (st : LS) : Prop := Rim st.1 ∧ st.1.length = n ∧ 0 ≤ st.2 ∧ st.2 < n
theorem rim_set {ns : List Int} {s : Nat} {l : Int} (h : Rim ns) (h0 : 0 ≤ l) (h1 : l ≤ 1000000000000000000000000000000) : Rim (ns.set s l) :=
  ⟨by rw [List.length_set]; exact h.pos, by rw [List.length_set]; exact h.le, fun x hx => by
    rcases List.mem_or_eq_of_mem_set hx with h2 | h2
    · exact h.all x h2
    · rw [h2]
      exact ⟨h0, h1⟩⟩
theorem LC.on_ok {n : Nat} {st : LS} (h : LSok n st) {c : LC} (hc : c.ok n) : LSok n (c.on st) := by
  obtain ⟨hR, hl, h0, h1⟩ := h
  cases c with
  | turn k =>
    have p := hR.pos
    exact ⟨hR, hl, Int.emod_nonneg _ (by show ((st.1.length : Nat) : Int) ≠ 0; omega), by
      have := Int.emod_lt_of_pos (st.2 + k) (show (0 : Int) < (st.1.length : Int) by omega)
      show (st.2 + k) % (st.1.length : Int) < n
      omega⟩
  | slot s l => exact ⟨rim_set hR hc.2.1 hc.2.2, by show (st.1.set s l).length = n; rw [List.length_set, hl], h0, h1⟩
  | flip => exact ⟨hR.mir, by show (mir st.1).length = n; rw [mir_len, hl], h0, h1⟩
theorem LC.dp {K : PySem.W.Frag} {H : Hp} {t : Addr} {c : LC} (h : H t = some (.tup c.v)) : Dp K H (.ref t) c.d := by
  cases c with
  | turn n => exact .tup (SqT.of h) (.cons (.str _) (.cons (.int _) .nil))
  | slot s l => exact .tup (SqT.of h) (.cons (.str _) (.cons (.int _) (.cons (.int _) .nil)))
  | flip => exact .tup (SqT.of h) (.cons (.str _) .nil)
theorem low_of (s : String) (h : (s.toList.all fun c => decide (c.toNat < 128)) = true) : ∀ c ∈ TL.tl (Str.ofString s), c < 128 := fun c hc => by
  rw [tl_ofString] at hc
  obtain ⟨x, hx, rfl⟩ := List.mem_map.mp hc
  exact of_decide_eq_true (List.all_eq_true.mp h x hx)
theorem dat_word {s : String} (h : (s.toList.all fun c => decide (c.toNat < 128)) = true) (hl : (Str.ofString s).length ≤ 90) : Dat 0 1001 (.str (Str.ofString s)) :=
  (dat_str (low_of s h) hl).mono (Nat.le_refl _) (by omega)
theorem LC.dat {n : Nat} {c : LC} (h : c.ok n) (hn : n ≤ 40) : Dat 1 3012 c.d := by
  have w1 : Dat 0 1001 (.str sTurn) := dat_word (s := "turn") (by decide) (by decide)
  have w2 : Dat 0 1001 (.str sSlot) := dat_word (s := "slot") (by decide) (by decide)
  have w3 : Dat 0 1001 (.str sMir) := dat_word (s := "mirror") (by decide) (by decide)
  have e30 : (10 : Nat) ^ 40 = 10000000000000000000000000000000000000000 := by decide +kernel
  cases c with
  | turn k => exact dat_tup (k := 0) (B := 1001) (n := 3) (fun d hd => by
      simp only [List.mem_cons, List.not_mem_nil, or_false] at hd
      rcases hd with rfl | rfl
      · exact w1
      · exact dat_int (k := 40) h (by decide)) (by decide) (by show 2 ≤ 3; decide)
  | slot s l => exact dat_tup (k := 0) (B := 1001) (n := 3) (fun d hd => by
      simp only [List.mem_cons, List.not_mem_nil, or_false] at hd
      obtain ⟨h1, h2, h3⟩ := h
      rcases hd with rfl | rfl | rfl
      · exact w2
      · exact dat_int (k := 40) (by rw [e30]; omega) (by decide)
      · exact dat_int (k := 40) (by rw [e30]; omega) (by decide)) (by decide) (by show 3 ≤ 3; decide)
  | flip => exact dat_tup (k := 0) (B := 1001) (n := 3) (fun d hd => by
      simp only [List.mem_cons, List.not_mem_nil, or_false] at hd
      rcases hd with rfl
      exact w3) (by decide) (by decide)
/-! ### how live discs stand: Z: what others change -/
inductive StsAt (Z : Addr → Prop) (S L : Addr) (H : Hp) : List V → List LS → Prop
  | nil : StsAt Z S L H [] []
  | cons {t o : Addr} {s : LS} {us : List V} {ss : List LS} (h : H t = some (.tup [.ref o, .int s.2])) (g : H o = some (.lst (s.1.map V.int))) (f1 : ¬ Z t) (f2 : ¬ Z o) (n1 : o ≠ S) (n2 : o ≠ L) (r : StsAt Z S L H us ss) : StsAt Z S L H (.ref t :: us) (s :: ss)
inductive ClsAt (Z : Addr → Prop) (H : Hp) : List V → List LC → Prop
  | nil : ClsAt Z H [] []
  | cons {t : Addr} {c : LC} {us : List V} {cs : List LC} (h : H t = some (.tup c.v)) (f1 : ¬ Z t) (r : ClsAt Z H us cs) : ClsAt Z H (.ref t :: us) (c :: cs)
def Lst (H : Hp) (a : Addr) : Prop := ∃ xs, H a = some (.lst xs)
theorem tup_ne {H : Hp} {t a : Addr} {xs : List V} (h : H t = some (.tup xs)) (l : Lst H a) : t ≠ a := fun e => by
  obtain ⟨ys, l⟩ := l
  rw [e, l] at h
  cases h
theorem StsAt.up {Z : Addr → Prop} {H H' : Hp} {S L : Addr} {us : List V} {ss : List LS} (h : StsAt Z S L H us ss) (hS : Lst H S) (hL : Lst H L) (k : ∀ b x, H b = some x → ¬ Z b → b ≠ S → b ≠ L → H' b = some x) : StsAt Z S L H' us ss := by
  induction h with
  | nil => exact .nil
  | cons h g f1 f2 n1 n2 _ ih => exact .cons (k _ _ h f1 (tup_ne h hS) (tup_ne h hL)) (k _ _ g f2 n1 n2) f1 f2 n1 n2 ih
theorem ClsAt.up {Z : Addr → Prop} {H H' : Hp} {S L : Addr} {us : List V} {cs : List LC} (h : ClsAt Z H us cs) (hS : Lst H S) (hL : Lst H L) (k : ∀ b x, H b = some x → ¬ Z b → b ≠ S → b ≠ L → H' b = some x) : ClsAt Z H' us cs := by
  induction h with
  | nil => exact .nil
  | cons h f1 _ ih => exact .cons (k _ _ h f1 (tup_ne h hS) (tup_ne h hL)) f1 ih
theorem StsAt.len {Z : Addr → Prop} {H : Hp} {S L : Addr} {us : List V} {ss : List LS} (h : StsAt Z S L H us ss) : us.length = ss.length := by
  induction h with
  | nil => rfl
  | cons _ _ _ _ _ _ _ ih => rw [List.length_cons, List.length_cons, ih]
theorem ClsAt.len {Z : Addr → Prop} {H : Hp} {us : List V} {cs : List LC} (h : ClsAt Z H us cs) : us.length = cs.length := by
  induction h with
  | nil => rfl
  | cons _ _ _ ih => rw [List.length_cons, List.length_cons, ih]
theorem StsAt.snoc {Z : Addr → Prop} {H : Hp} {S L t o : Addr} {s : LS} {us : List V} {ss : List LS} (h : StsAt Z S L H us ss) (e : H t = some (.tup [.ref o, .int s.2])) (g : H o = some (.lst (s.1.map V.int))) (f1 : ¬ Z t) (f2 : ¬ Z o) (n1 : o ≠ S) (n2 : o ≠ L) :
    StsAt Z S L H (us ++ [.ref t]) (ss ++ [s]) := by
  induction h with
  | nil => exact .cons e g f1 f2 n1 n2 .nil
  | cons h g f1 f2 n1 n2 _ ih => exact .cons h g f1 f2 n1 n2 ih
theorem ClsAt.snoc {Z : Addr → Prop} {H : Hp} {t : Addr} {c : LC} {us : List V} {cs : List LC} (h : ClsAt Z H us cs) (e : H t = some (.tup c.v)) (f1 : ¬ Z t) : ClsAt Z H (us ++ [.ref t]) (cs ++ [c]) := by
  induction h with
  | nil => exact .cons e f1 .nil
  | cons h f1 _ ih => exact .cons h f1 ih
theorem ClsAt.dp {K : PySem.W.Frag} {Z : Addr → Prop} {H : Hp} {us : List V} {cs : List LC} (h : ClsAt Z H us cs) : DpAll K H us (cs.map LC.d) := by
  induction h with
  | nil => exact .nil
  | cons h _ _ ih => exact .cons (LC.dp h) ih
/-- the last state -/
theorem StsAt.last {Z : Addr → Prop} {H : Hp} {S L : Addr} {s : LS} : ∀ {us : List V} {ss : List LS}, StsAt Z S L H us (ss ++ [s]) → ∃ t o, atI us (-1) = some (.ref t) ∧ H t = some (.tup [.ref o, .int s.2]) ∧ H o = some (.lst (s.1.map V.int)) ∧ ¬ Z t ∧ ¬ Z o ∧ o ≠ S ∧ o ≠ L := by
  intro us ss h
  have hl := h.len
  rw [List.length_append] at hl
  have hl : us.length = ss.length + 1 := hl
  have key : ∀ {us : List V} {ss : List LS}, StsAt Z S L H us (ss ++ [s]) → ∃ t o, us[ss.length]? = some (.ref t) ∧ H t = some (.tup [.ref o, .int s.2]) ∧ H o = some (.lst (s.1.map V.int)) ∧ ¬ Z t ∧ ¬ Z o ∧ o ≠ S ∧ o ≠ L := by
    intro us ss
    induction ss generalizing us with
    | nil =>
      intro h
      cases h with
      | cons h g f1 f2 n1 n2 r => exact ⟨_, _, rfl, h, g, f1, f2, n1, n2⟩
    | cons x ss ih =>
      intro h
      cases h with
      | cons h g f1 f2 n1 n2 r => exact ih r
  obtain ⟨t, o, e, r⟩ := key h
  refine ⟨t, o, ?_, r⟩
  have h1 : 0 < us.length := by omega
  have e2 : us = us.take ss.length ++ [.ref t] := by
    have h2 := List.take_append_drop ss.length us
    have h3 : us.drop ss.length = [.ref t] := by
      rw [List.drop_eq_getElem_cons (by omega), List.drop_of_length_le (by omega)]
      rw [List.getElem?_eq_getElem (by omega)] at e
      rw [Option.some.inj e]
    rw [h3] at h2
    exact h2.symm
  rw [e2]
  exact atI_last _ _
structure LiveAt (C : Addr) (Z : Addr → Prop) (H : Hp) (p D S L : Addr) (ns : List Int) (ss : List LS) (cs : List LC) : Prop where
  ob : ∃ dx, H p = some (.ins C dx (putF "_log" (.ref L) (putF "_states" (.ref S) (putF "_disc" (.ref D) []))))
  gD : H D = some (.lst (ns.map V.int))
  gS : ∃ us, H S = some (.lst us) ∧ StsAt Z S L H us ss
  gL : ∃ ws, H L = some (.lst ws) ∧ ClsAt Z H ws cs
  fD : ¬ Z D
  fS : ¬ Z S
  fL : ¬ Z L
  fp : ¬ Z p
  DS : D ≠ S
  DL : D ≠ L
  SL : S ≠ L
  rim : Rim ns
  sok : ∀ s ∈ ss, LSok ns.length s
  cok : ∀ c ∈ cs, c.ok ns.length
  len : ss.length = cs.length + 1
  many : cs.length ≤ 1000
  zst : ∀ z, Z z → H z ≠ none
theorem LiveAt.up {C : Addr} {Z : Addr → Prop} {H H' : Hp} {p D S L : Addr} {ns : List Int} {ss : List LS} {cs : List LC} (h : LiveAt C Z H p D S L ns ss cs) (k : ∀ b x, H b = some x → ¬ Z b → H' b = some x) (hz : ∀ z, Z z → H' z ≠ none) : LiveAt C Z H' p D S L ns ss cs := by
  obtain ⟨us, e1, r1⟩ := h.gS
  obtain ⟨ws, e2, r2⟩ := h.gL
  obtain ⟨dx, e0⟩ := h.ob
  exact { h with
    ob := ⟨dx, k _ _ e0 h.fp⟩
    gD := k _ _ h.gD h.fD
    gS := ⟨us, k _ _ e1 h.fS, r1.up ⟨_, e1⟩ ⟨_, e2⟩ fun b x e n _ _ => k b x e n⟩
    gL := ⟨ws, k _ _ e2 h.fL, r2.up ⟨_, e1⟩ ⟨_, e2⟩ fun b x e n _ _ => k b x e n⟩
    zst := hz }
theorem stay_some {H H' : Hp} {z : Addr} (n : H z ≠ none) (k : ∀ x, H z = some x → H' z = some x) : H' z ≠ none := by
  cases e : H z with
  | none => exact absurd e n
  | some x =>
    rw [k x e]
    exact fun y => nomatch y
theorem LiveAt.same {C : Addr} {Z : Addr → Prop} {H H' : Hp} {p D S L : Addr} {ns : List Int} {ss : List LS} {cs : List LC} (h : LiveAt C Z H p D S L ns ss cs) (s : Same H H') : LiveAt C Z H' p D S L ns ss cs :=
  h.up (fun b x e _ => s b x e) fun z hz => stay_some (h.zst z hz) fun x e => s _ _ e
theorem LiveAt.but {T C : Addr} {H H' : Hp} {p D S L : Addr} {ns : List Int} {ss : List LS} {cs : List LC} (h : LiveAt C (· = T) H p D S L ns ss cs) (s : But T H H') (n : H' T ≠ none) : LiveAt C (· = T) H' p D S L ns ss cs :=
  h.up (fun b x e f => s b x e f) fun z hz => hz ▸ n
theorem LiveAt.new {C : Addr} {Z : Addr → Prop} {H : Hp} {p D S L : Addr} {ns : List Int} {ss : List LS} {cs : List LC} (h : LiveAt C Z H p D S L ns ss cs) {a : Addr} (n : H a = none) : ¬ Z a := fun z => h.zst a z n
theorem lf_disc {D S L : Addr} : (putF "_log" (V.ref L) (putF "_states" (V.ref S) (putF "_disc" (V.ref D) []))).lookup ("_disc" : Str) = some (.ref D) := by
  rw [lookup_putF, if_neg (by decide +kernel), lookup_putF, if_neg (by decide +kernel), lookup_putF, if_pos rfl]
theorem lf_states {D S L : Addr} : (putF "_log" (V.ref L) (putF "_states" (V.ref S) (putF "_disc" (V.ref D) []))).lookup ("_states" : Str) = some (.ref S) := by
  rw [lookup_putF, if_neg (by decide +kernel), lookup_putF, if_pos rfl]
theorem lf_log {D S L : Addr} : (putF "_log" (V.ref L) (putF "_states" (V.ref S) (putF "_disc" (V.ref D) []))).lookup ("_log" : Str) = some (.ref L) := by
  rw [lookup_putF, if_pos rfl]
theorem lf_no {D S L : Addr} {m : Str} (h1 : m ≠ "_log") (h2 : m ≠ "_states") (h3 : m ≠ "_disc") : (putF "_log" (V.ref L) (putF "_states" (V.ref S) (putF "_disc" (V.ref D) []))).lookup m = none := by
  rw [lookup_putF, if_neg h1, lookup_putF, if_neg h2, lookup_putF, if_neg h3]
  rfl
/-- all stays but the states and the log -/
def ButLS (S L : Addr) (H H' : Hp) : Prop := ∀ b x, H b = some x → b ≠ S → b ≠ L → H' b = some x
theorem ButLS.trans {S L : Addr} {H H1 H2 : Hp} (a : ButLS S L H H1) (b : ButLS S L H1 H2) : ButLS S L H H2 := fun c o h n m => b c o (a c o h n m) n m
theorem ButLS.of {S L : Addr} {H H' : Hp} (s : Same H H') : ButLS S L H H' := fun b o h _ _ => s b o h
end Sd

namespace Sd
open PySem PySem.Spec PyProof.Rows L2
/-! ### == and != by an own __eq__, with either answer -/
section
variable {X : Cx} {C : CXT} {k : Nat} {D f : Addr} {fd : FuncData} {ps : List Str} {sp : Sp} {E : XK}
def rOwnEq (D : Addr) (sp : Sp) (E : XK) (neg : Bool) : V → V → Hp → VK → Prop := fun x y H Q => ∃ a b dx dy fs gs, x = .ref a ∧ y = .ref b ∧ H a = some (.ins D dx fs) ∧ H b = some (.ins D dy gs) ∧ sp [.ref a, .ref b] H (fun v H' => ∃ r : Bool, v = .bl r ∧ Q (.bl (if neg then !r else r)) H') E
theorem own_run {A : Around} {pins : List (Addr × Obj)} {σ : L2.St} {H : Hp} {s : Shared} {Q : Bool → Hp → Prop} {a b : Addr} {E' : Value → Shared → Prop} (G : FnOk X.prog X.w X.K X.mg X.base C k f fd ps sp) (hr : Room k A) (hA : A.frames = X.A.frames) (hb : Binds X.K fd ps [])
    (hx : ∀ e s', C X.stack H s E e s' → E' e s') (I : Inv X pins σ H s) (q : sp [.ref a, .ref b] H (fun v H' => ∃ r : Bool, v = .bl r ∧ Q r H') E) :
    wpAny (model X.prog X.w) A (call (.ref f) [.ref a, .ref b]) (fun v s' => ∃ (r : Bool) (H' : Hp), v = .bool r ∧ Inv X pins σ H' s' ∧ Q r H') E' s := by
  have e0 : Env0 X.prog X.w X.K X.mg X.base A X.stack s H := by
    have e := I.env0
    exact ⟨by rw [hA]; exact e.frames, e.mod, e.bs, e.bsz, e.funs, e.frf, e.hok, e.bare⟩
  have hl := G.len _ _ _ _ q
  have bi := hb s [.ref a, .ref b] I.kIn (by simpa using hl)
  have vv : Vals [V.ref a, V.ref b] ([Value.ref a, Value.ref b] ++ []) := .cons rfl (.cons rfl .nil)
  refine wpAny_call (codeAny_mono (G.run A X.stack s H ⟨[.ref a, .ref b], []⟩ ([.ref a, .ref b] ++ []) [.ref a, .ref b] _ E hr e0 bi vv q) fun r s' hq => ?_)
  cases r with
  | error e => exact hx e s' hq
  | ok fl =>
    cases fl with
    | ret u =>
      obtain ⟨v, H', I', rv, r, ev, q'⟩ := I.after hq
      subst ev
      have eu : u = Value.bool r := rv
      exact ⟨r, H', eu, I', q'⟩
    | next => exact False.elim hq
    | brk => exact False.elim hq
    | cont => exact False.elim hq
theorem op_eqOwn (hm : Meth X.K D "__eq__" f) (G : FnOk X.prog X.w X.K X.mg X.base C k f fd ps sp) (hr : Room k X.A) (hb : Binds X.K fd ps []) (hx : Passes C X E) : OpR X (compareOp .Eq) (rOwnEq D sp E false) := by
  intro pins s σ H x y v u Q I rx ry h
  obtain ⟨a, b, dx, dy, fs, gs, rfl, rfl, ha, hb', q⟩ := h
  cases rx
  cases ry
  obtain ⟨_, J, _⟩ := ins_get I.hok ha
  obtain ⟨_, J', _⟩ := ins_get I.hok hb'
  obtain ⟨_, J, _⟩ := J.look
  obtain ⟨_, J', _⟩ := J'.look
  obtain ⟨_, hF⟩ := I.fr
  refine PySem.W.cmp_K (op := .Eq) (tb := .ref D) hr.units0 hF I.ok.mod.kin J J'.type (by simp [PySem.W.notFirst]) hm.at_ hm.fn ?_
  refine wpAny_mono (own_run G hr rfl hb (fun e s' z => hx pins σ H s e s' I z) I q) (fun v s' z => ?_) fun _ _ z => z
  obtain ⟨r, H', rfl, I', q'⟩ := z
  exact ⟨.bl r, H', I', rfl, q'⟩
theorem op_neOwn (hm : Meth X.K D "__eq__" f) (hn : PySem.W.findIn X.K (.ref D) "__ne__" = some (some (.builtin "object.__ne__"))) (ho : PySem.W.mroIn X.K D (.type "object") = some true) (G : FnOk X.prog X.w X.K X.mg X.base C k f fd ps sp) (hr : Room (k + 1) X.A)
    (hb : Binds X.K fd ps []) (hx : Passes C X E) : OpR X (compareOp .NotEq) (rOwnEq D sp E true) := by
  intro pins s σ H x y v u Q I rx ry h
  obtain ⟨a, b, dx, dy, fs, gs, rfl, rfl, ha, hb', q⟩ := h
  cases rx
  cases ry
  obtain ⟨_, J, _⟩ := ins_get I.hok ha
  obtain ⟨_, J', _⟩ := ins_get I.hok hb'
  obtain ⟨_, J, _⟩ := J.look
  obtain ⟨_, J', _⟩ := J'.look
  have hu : X.A.in1.units < cLine := hr.in1.units0
  have body : wpAny (model X.prog X.w) X.A.in1 (Builtin.«object.__ne__» ⟨[.ref a, .ref b], []⟩) (fun fin s' => ∃ (r : Bool) (H' : Hp), fin = .done (.ret (.bool r)) ∧ Inv X pins σ H' s' ∧ Q (.bl r) H') X.xe s := by
    unfold Builtin.«object.__ne__»
    refine wpAny_bind (wpAny_pure (wpAny_bind (wpAny_cRoomFor hu ?_)))
    refine wpAny_bind (m := callSpecialIfBound? _ _ _) (PySem.W.ifBound_K I.kIn J hm.at_ hm.fn (wpAny_mono (own_run G hr.in1 rfl hb (fun e s' z => hx pins σ H s e s' I z) I q) (fun v s' z => ?_) fun _ _ z => z))
    obtain ⟨r, H', rfl, I', q'⟩ := z
    refine wpAny_bind (m := truthy _) (wpAny_truthy_bool ?_)
    exact wpAny_pure ⟨!r, H', rfl, I', q'⟩
  have cl : wpAny (model X.prog X.w) X.A (call (.builtin "object.__ne__") ([Value.ref a] ++ [.ref b])) (fun v s' => ∃ (r : Bool) (H' : Hp), v = .bool r ∧ Inv X pins σ H' s' ∧ Q (.bl r) H') X.xe s := by
    refine wpAny_call (codeAny_call_builtin PySem.F.cmp_object.ne.plain PySem.F.cmpEntry_ne (PySem.W.check_slot PySem.F.cmpKind_ne PySem.F.cmpSplit_ne (J.type.andThen (PySem.W.looks_mroIn I.kIn ho)) (PySem.F.cmpArgs_ne _ _) (wpAny_mono body (fun fin s' z => ?_) fun _ _ z => z)))
    obtain ⟨r, H', rfl, I', z⟩ := z
    exact ⟨r, H', rfl, I', z⟩
  have one : wpAny (model X.prog X.w) X.A (tryCompare (.ref a) "__ne__" (.ref b)) (fun v s' => ∃ (r : Bool) (H' : Hp), v = some (.bool r) ∧ Inv X pins σ H' s' ∧ Q (.bl r) H') X.xe s := by
    unfold tryCompare
    refine wpAny_bind (m := callSpecialIfBound? _ _ _) (NtL.csib (J.type.andThen (PySem.W.looks_findIn I.kIn hn)) (PySem.F.cmp_object.ne.bind _) (wpAny_mono cl (fun v s' z => ?_) fun _ _ z => z))
    obtain ⟨r, H', rfl, I', z⟩ := z
    exact wpAny_pure ⟨r, H', rfl, I', z⟩
  show wpAny _ _ (richCompare .NotEq (.ref a) (.ref b)) _ _ _
  unfold richCompare
  simp only [oneThing_ref]
  refine wpAny_holding (wpAny_bind (wpAny_cRoomFor hr.units0 ?_))
  rw [cmpInfo_NotEq]
  refine wpAny_bind (J.type.here (wpAny_bind (J'.type.here ?_)))
  rw [show (Value.ref D != Value.ref D) = false by simp]
  simp only [Bool.false_eq_true, if_false]
  refine wpAny_bind (wpAny_pure ?_)
  simp only [Bool.false_eq_true, if_false]
  refine wpAny_bind (wpAny_mono one (fun v s' z => ?_) fun _ _ z => z)
  obtain ⟨r, H', rfl, I', z⟩ := z
  exact wpAny_pure ⟨.bl r, H', I', rfl, z⟩
end
theorem kitOne_self (K : PySem.W.Frag) (a : Addr) : PySem.W.kitOne K (.ref a) (.ref a) = some true := if_pos (by first | exact beq_self_eq_true _ | simp)
theorem pg_lstL {X : Cx} {K : PySem.W.Frag} {es : List Expr} {j : Nat} {pos : Pos} {t : TGs} {n : Nat} (h : X.K = K) (hc : X.calm = true) (hs : PGs X es t)
    (hn : (assignEach es X.env).length = n := by rfl) (hst : (assignEach es X.env).findIdx? (·.1) = none := by rfl) : PG X (.Tuple es j pos) (gLst K n t) := h ▸ pg_lst hc hs hn hst
end Sd

namespace Sd
open PySem PySem.Spec PyProof.Rows L2
/-! ### == by an own __eq__ with any other value -/
section
variable {X : Cx} {C : CXT} {k : Nat} {D f : Addr} {fd : FuncData} {ps : List Str} {sp : Sp} {E : XK}
def rOwnEqA (K : PySem.W.Frag) (D : Addr) (sp : Sp) (E : XK) : V → V → Hp → VK → Prop := fun x y H Q => ∃ a dx fs t, x = .ref a ∧ H a = some (.ins D dx fs) ∧ TyX K H y t ∧ PySem.W.notFirst K D t = true ∧ sp [.ref a, y] H (fun v H' => ∃ r : Bool, v = .bl r ∧ Q (.bl r) H') E
theorem own_runA {A : Around} {pins : List (Addr × Obj)} {σ : L2.St} {H : Hp} {s : Shared} {Q : Bool → Hp → Prop} {a : Addr} {y : V} {u : Value} {E' : Value → Shared → Prop} (ry : RelV y u) (G : FnOk X.prog X.w X.K X.mg X.base C k f fd ps sp) (hr : Room k A) (hA : A.frames = X.A.frames) (hb : Binds X.K fd ps [])
    (hx : ∀ e s', C X.stack H s E e s' → E' e s') (I : Inv X pins σ H s) (q : sp [.ref a, y] H (fun v H' => ∃ r : Bool, v = .bl r ∧ Q r H') E) :
    wpAny (model X.prog X.w) A (call (.ref f) [.ref a, u]) (fun v s' => ∃ (r : Bool) (H' : Hp), v = .bool r ∧ Inv X pins σ H' s' ∧ Q r H') E' s := by
  have e0 : Env0 X.prog X.w X.K X.mg X.base A X.stack s H := by
    have e := I.env0
    exact ⟨by rw [hA]; exact e.frames, e.mod, e.bs, e.bsz, e.funs, e.frf, e.hok, e.bare⟩
  have hl := G.len _ _ _ _ q
  have bi := hb s [.ref a, u] I.kIn (by simpa using hl)
  have vv : Vals [V.ref a, y] ([Value.ref a, u] ++ []) := .cons rfl (.cons ry .nil)
  refine wpAny_call (codeAny_mono (G.run A X.stack s H ⟨[.ref a, u], []⟩ ([.ref a, u] ++ []) [.ref a, y] _ E hr e0 bi vv q) fun r s' hq => ?_)
  cases r with
  | error e => exact hx e s' hq
  | ok fl =>
    cases fl with
    | ret u =>
      obtain ⟨v, H', I', rv, r, ev, q'⟩ := I.after hq
      subst ev
      have eu : u = Value.bool r := rv
      exact ⟨r, H', eu, I', q'⟩
    | next => exact False.elim hq
    | brk => exact False.elim hq
    | cont => exact False.elim hq
theorem op_eqOwnA {K : PySem.W.Frag} (hK : X.K = K) (hm : Meth X.K D "__eq__" f) (G : FnOk X.prog X.w X.K X.mg X.base C k f fd ps sp) (hr : Room k X.A) (hb : Binds X.K fd ps []) (hx : Passes C X E) : OpR X (compareOp .Eq) (rOwnEqA K D sp E) := by
  subst hK
  intro pins s σ H x y v u Q I rx ry h
  obtain ⟨a, dx, fs, t, rfl, ha, ty, hn, q⟩ := h
  cases rx
  obtain ⟨P, Z, p, hx'⟩ := kit_of I ry ty
  obtain ⟨_, J, _⟩ := ins_get I.hok ha
  obtain ⟨_, J, _⟩ := J.look
  obtain ⟨_, hF⟩ := I.fr
  refine PySem.W.cmp_K (op := .Eq) (tb := t) hr.units0 hF I.ok.mod.kin J (Z.ty _ _ I.kIn p) hn hm.at_ hm.fn ?_
  refine wpAny_mono (own_runA ry G hr rfl hb (fun e s' z => hx pins σ H s e s' I z) I q) (fun v s' z => ?_) fun _ _ z => z
  obtain ⟨r, H', rfl, I', q'⟩ := z
  exact ⟨.bl r, H', I', rfl, q'⟩
end
theorem clsIn_of {K : PySem.W.Frag} {C : Addr} (e : PySem.W.makesIn K C = true) : (PySem.W.clsIn K C).isSome = true := by
  unfold PySem.W.makesIn at e
  unfold PySem.W.clsIn
  split at e
  · rename_i ho
    rw [ho]
    rfl
  · cases e
/-- a value that is no such instance -/
theorem kitOne_not {K : PySem.W.Frag} {C : Addr} {T : String} (m : PySem.W.makesIn K C = true) (ty : PySem.W.typeIn K (.ref C) = some (.type "type")) (h : PySem.W.subIn K (.type T) (.ref C) = some false) : PySem.W.kitOne K (.type T) (.ref C) = some false := by
  unfold PySem.W.kitOne PySem.W.kitCls
  rw [if_neg (by simp)]
  simp only [clsIn_of m, ty]
  exact h
end Sd

namespace Sd
open PySem PySem.Spec PyProof.Rows L2
/-! ### zip(*xs): any number of iterators -/
abbrev IsTupA (h : Heap) (T : Addr) (vs : Array Value) : Prop := h.get? T = some { cls := .type "tuple", data := .seq vs }
abbrev IsZipB (h : Heap) (z TI TO : Addr) (f0 b : Value) : Prop :=
  h.get? z = some { cls := .type "zip", dict := none, data := .fields #[f0, b, .bool false, .ref TI, .ref TO], slots := #[] }
/-- a zip that goes on: its tuple is handed out or not -/
def ZOk (h : Heap) (z TI TO : Addr) : Prop := ∃ f0 b, IsZipB h z TI TO f0 b ∧ (f0 = .none ∨ ∃ T : Nat, f0 = rawInt (T : Int))
def refsN (it : Nat → Addr) (N : Nat) : List Value := (List.range N).map fun k => .ref (it k)
structure ZipSepN (z TI TO : Addr) (N : Nat) (it : Nat → Addr) (fp : Nat → List Addr) : Prop where
  TIz : TI ≠ z
  TOz : TO ≠ z
  TITO : TI ≠ TO
  TIi : ∀ k, k < N → TI ≠ it k
  mem : ∀ k, k < N → it k ∈ fp k
  zf : ∀ k, k < N → z ∉ fp k
  Tf : ∀ k, k < N → TO ∉ fp k
  sep : ∀ k l, k < N → l < N → k ≠ l → it k ∉ fp l
section
variable {prog : Program} {w : World} {A : Around} {E : Value → Shared → Prop} {s : Shared} {z TI TO : Addr} {N n i : Nat} {it : Nat → Addr} {fp : Nat → List Addr} {P : Nat → Nat → Value → Prop} {St : Nat → Nat → Heap → Prop} {vals : Array Value}
theorem ZipSepN.zi (D : ZipSepN z TI TO N it fp) {k : Nat} (h : k < N) : z ≠ it k := fun e => D.zf k h (by rw [e]; exact D.mem k h)
theorem ZipSepN.Ti (D : ZipSepN z TI TO N it fp) {k : Nat} (h : k < N) : TO ≠ it k := fun e => D.Tf k h (by rw [e]; exact D.mem k h)
theorem updateSeq_A {T : Addr} {x : Value} {k : Nat} {Q : Unit → Shared → Prop} (hT : IsTupA s.heap T vals) (hs : vals.size ≤ sizeLine)
    (h : ∀ h', IsTupA h' T (vals.setIfInBounds k x) → Heap.SameBut T s.heap h' → Q () { s with heap := h' }) :
    wpAny (model prog w) A (updateSeq T (·.setIfInBounds k x)) Q E s := by
  refine wpAny_updateSeq (xs := vals) hT rfl (h _ ?_ (Heap.SameBut.update ..)) hs (by rw [Array.size_setIfInBounds]; exact Nat.le_succ_of_le hs)
  rw [IsTupA, Heap.get?_update_self _ hT rfl]
  simp [Obj.mapSeq]
theorem alive_any {a : Addr} {Q : Option Obj → Shared → Prop} (h : Q (s.heap.get? a) s) : wpAny (model prog w) A (loadIfAlive a) Q E s := fun _ _ _ => h
theorem same_refl (x : Addr) (h : Heap) : Heap.SameBut x h h := ⟨rfl, fun _ _ => rfl⟩
/-- behind k draws -/
structure MidN (P : Nat → Nat → Value → Prop) (St : Nat → Nat → Heap → Prop) (z TI TO : Addr) (N i : Nat) (it : Nat → Addr) (h0 : Heap) (k : Nat) (s : Shared) (g : Array GenState) (d : Drawn) (os : OsState) : Prop where
  gens : s.gens = g
  drawn : s.drawn = d
  os' : s.os = os
  zip : ∃ b, IsZipB s.heap z TI TO .ellipsis b
  to : ∃ vs : Array Value, IsTupA s.heap TO vs ∧ vs.size = N ∧ ∀ j, j < k → ∃ x, vs[j]? = some x ∧ P j i x
  done : ∀ j, j < k → St j (i + 1) s.heap
  rest : ∀ j, k ≤ j → j < N → St j i s.heap
  keep : ∀ c o, c ≠ z → c ≠ TO → (∀ j, j < N → c ≠ it j) → h0.get? c = some o → s.heap.get? c = some o
  size : s.heap.objs.size = h0.objs.size
theorem zip_free {f0 bb : Value} {hp : Heap} {g : Array GenState} {d : Drawn} {tk0 : Nat} {os : OsState} (hz : IsZipB hp z TI TO f0 bb) (hf0 : f0 = .none ∨ ∃ T : Nat, f0 = rawInt (T : Int)) :
    wpAny (model prog w) A (Builtin.SmallTypes.ownedTupleIsFree (.ref z)) (fun r s' => ∃ h' b', s' = ⟨h', g, d, tk0, os⟩ ∧ IsZipB h' z TI TO f0 b' ∧ Heap.SameBut z hp h') E ⟨hp, g, d, tk0, os⟩ := by
  unfold Builtin.SmallTypes.ownedTupleIsFree
  refine wpAny_bind (wpAny_field hz rfl (x := f0) rfl ?_)
  rcases hf0 with rfl | ⟨T, rfl⟩
  · exact wpAny_pure ⟨hp, bb, rfl, hz, same_refl z hp⟩
  · show wpAny _ _ (loadIfAlive ((T : Int).toNat) >>= _) _ _ _
    refine wpAny_bind (alive_any ?_)
    split
    · exact wpAny_pure ⟨hp, bb, rfl, hz, same_refl z hp⟩
    · refine wpAny_bind (wpAny_field hz rfl (x := bb) rfl ?_)
      split
      · refine wpAny_bind (wpAny_setField_rec hz (by simp) fun h2 hz2 hs2 => wpAny_pure ⟨h2, _, rfl, hz2, hs2⟩)
      · exact wpAny_pure ⟨hp, bb, rfl, hz, same_refl z hp⟩
theorem zipN_next_item {Q : Value → Shared → Prop} (hN : 0 < N) (S : ZipSepN z TI TO N it fp) (D : ∀ k, k < N → Draws prog w A (it k) (fp k) n (P k) (St k))
    (hz : ZOk s.heap z TI TO) (hTI : IsTupA s.heap TI (refsN it N).toArray) (hTO : IsTupA s.heap TO vals) (hv : vals.size = N) (hs : N ≤ sizeLine) (st : ∀ k, k < N → St k i s.heap) (hlt : i < n)
    (hQ : ∀ (vs : Array Value) h' tk, vs.size = N → (∀ j, j < N → ∃ x, vs[j]? = some x ∧ P j i x) → ZOk h' z TI TO → (∃ vt, IsTupA h' TO vt ∧ vt.size = N) → (∀ j, j < N → St j (i + 1) h') → IsTupA h' s.heap.objs.size vs → h'.objs.size = s.heap.objs.size + 1 →
      (∀ c o, c ≠ z → c ≠ TO → (∀ j, j < N → c ≠ it j) → s.heap.get? c = some o → h'.get? c = some o) → Q (.ref s.heap.objs.size) { s with heap := h', toks := tk }) :
    wpAny (model prog w) A (Builtin.«zip.__next__» ⟨[.ref z], []⟩) (fun fin s' => ∃ v, fin = .done (.ret v) ∧ Q v s') E s := by
  obtain ⟨hp, g, d, tk0, os⟩ := s
  obtain ⟨f0, bb, hz, hf0⟩ := hz
  show wpAny _ _ (field (.ref z) 2 >>= _) _ _ _
  refine wpAny_bind (wpAny_field hz rfl (x := .bool false) rfl ?_)
  show wpAny _ _ (field (.ref z) 3 >>= _) _ _ _
  refine wpAny_bind (wpAny_field hz rfl (x := .ref TI) rfl ?_)
  refine wpAny_bind (wpAny_seqItems hTI rfl ?_)
  have hne : (refsN it N).toArray.isEmpty = false := by
    unfold refsN
    cases N with
    | zero => omega
    | succ N => simp [List.range_succ]
  simp only [hne, Bool.false_eq_true, if_false]
  refine wpAny_bind (wpAny_mono (zip_free hz hf0) (fun r s' hr => ?_) fun _ _ q => q)
  obtain ⟨hp', b', rfl, hz', hsz'⟩ := hr
  have hlist : ∀ k, k ≤ N → ∃ rest, ((refsN it N).toArray.toList.zipIdx.drop k) = rest ∧ (k < N → rest = (.ref (it k), k) :: (refsN it N).toArray.toList.zipIdx.drop (k + 1)) := fun k hk => by
    refine ⟨_, rfl, fun h => ?_⟩
    have hl : k < (refsN it N).toArray.toList.zipIdx.length := by
      unfold refsN
      simp
      exact h
    rw [List.drop_eq_getElem_cons hl]
    congr 1
    rw [List.getElem_zipIdx]
    unfold refsN
    simp
  cases r with
  | true =>
      simp only [if_true]
      refine wpAny_bind (wpAny_rule ?_)
      refine wpAny_bind (wpAny_field hz' rfl (x := .ref TO) rfl ?_)
      refine wpAny_bind (wpAny_setField_rec hz' (by simp) fun g0 hz0 hs0 => ?_)
      replace hz0 : IsZipB g0 z TI TO .ellipsis b' := hz0
      replace hs0 : Heap.SameBut z hp g0 := ⟨(show g0.objs.size = hp'.objs.size from hs0.1).trans hsz'.1, fun c hc => (hs0.2 c hc).trans (hsz'.2 c hc)⟩
      refine wpAny_bind ?_
      refine wpAny_forIn_list _ (fun rest b s' => b.1 = none ∧ ∃ k, k ≤ N ∧ rest = (refsN it N).toArray.toList.zipIdx.drop k ∧ MidN P St z TI TO N i it hp k s' g d os) _ ?_ ?_ _ _ ?_
      · rintro ⟨x, k'⟩ rest ⟨b1, b2⟩ s1 ⟨hb, k, hk, hr, M⟩
        have hkN : k < N := by
          rcases Nat.lt_or_ge k N with q | q
          · exact q
          · rw [List.drop_of_length_le (by unfold refsN; simp; exact q)] at hr
            cases hr
        obtain ⟨_, rfl, hcons⟩ := hlist k hk
        rw [hcons hkN] at hr
        injection hr with h1 h2
        injection h1 with h1 h3
        subst h1 h3 h2
        refine wpAny_bind (wpAny_onRaise ?_)
        obtain ⟨p1, g1, d1, tk1, os1⟩ := s1
        obtain ⟨e1, e2, e3, M1, ⟨vs, hvs, hvn, hvx⟩, M3, M4, M5, M6⟩ := M
        dsimp only at e1 e2 e3
        subst e1 e2 e3
        show wpAny _ _ (Builtin.SmallTypes.nextOf (.ref (it k')) >>= _) _ _ ⟨p1, g1, d1, tk1, os1⟩
        refine wpAny_bind ((D k' hkN).item i _ _ _ hlt (M4 k' (Nat.le_refl _) hkN) fun x p2 tk2 hx sn hp2 => wpAny_pure ?_)
        replace hp2 : Heap.SameBut (it k') p1 p2 := hp2
        have hU : IsTupA p2 TO vs := hp2.extBut _ _ (S.Ti hkN) hvs
        refine wpAny_bind (wpAny_seqItems (s := ⟨p2, g1, d1, tk2, os1⟩) hU rfl ?_)
        refine wpAny_bind (updateSeq_A (s := ⟨p2, g1, d1, tk2, os1⟩) hU (by rw [hvn]; exact hs) fun p3 hT hs3 => ?_)
        replace hs3 : Heap.SameBut TO p2 p3 := hs3
        refine wpAny_bind (wpAny_letGo (wpAny_pure ?_))
        refine ⟨rfl, k' + 1, hkN, rfl, rfl, rfl, rfl, ?_, ⟨vs.setIfInBounds k' x, hT, by rw [Array.size_setIfInBounds]; exact hvn, fun j hj => ?_⟩, fun j hj => ?_, fun j hj hjN => ?_, fun c o cz cT ci e => ?_, ?_⟩
        · obtain ⟨bz, M1⟩ := M1
          exact ⟨bz, hs3.extBut _ _ S.TOz.symm (hp2.extBut _ _ (S.zi hkN) M1)⟩
        · by_cases q : j = k'
          · subst q
            exact ⟨x, by rw [Array.getElem?_setIfInBounds_self_of_lt (by omega)], hx⟩
          · obtain ⟨y, hy, py⟩ := hvx j (by omega)
            exact ⟨y, by rw [Array.getElem?_setIfInBounds_ne (Ne.symm q)]; exact hy, py⟩
        · by_cases q : j = k'
          · subst q
            exact (D j hkN).over sn hs3 (S.Tf j hkN)
          · exact (D j (by omega)).over ((D j (by omega)).over (M3 j (by omega)) hp2 (S.sep k' j hkN (by omega) (Ne.symm q))) hs3 (S.Tf j (by omega))
        · exact (D j hjN).over ((D j hjN).over (M4 j (by omega) hjN) hp2 (S.sep k' j hkN hjN (by omega))) hs3 (S.Tf j hjN)
        · exact hs3.extBut _ _ cT (hp2.extBut _ _ (ci k' hkN) (M5 c o cz cT ci e))
        · show p3.objs.size = _
          rw [hs3.1, hp2.1]
          exact M6
      · rintro ⟨b1, b2⟩ s1 ⟨hb, k, hk, hr, M⟩
        have hkN : k = N := by
          rcases Nat.lt_or_ge k N with q | q
          · obtain ⟨_, rfl, hcons⟩ := hlist k hk
            rw [hcons q] at hr
            cases hr
          · omega
        subst hkN
        dsimp only at hb
        subst hb
        obtain ⟨p1, g1, d1, tk1, os1⟩ := s1
        obtain ⟨e1, e2, e3, M1, ⟨vs, hvs, hvn, hvx⟩, M3, M4, M5, M6⟩ := M
        dsimp only at e1 e2 e3
        subst e1 e2 e3
        refine wpAny_bind (wpAny_seqItems (s := ⟨p1, g1, d1, tk1, os1⟩) hvs rfl ?_)
        refine wpAny_bind (wpAny_newTuple (hsz := by rw [Array.length_toList, hvn]; exact hs) ?_)
        obtain ⟨bz, M1⟩ := M1
        have hzlt : z < p1.objs.size := Heap.lt_size M1
        show wpAny _ _ (Builtin.SmallTypes.ownedTupleHandOut (.ref z) (.ref p1.objs.size) >>= _) _ _ ⟨p1.push { cls := .type "tuple", data := .seq vs.toList.toArray }, g1, d1, tk1, os1⟩
        rw [Array.toArray_toList]
        refine wpAny_bind ?_
        unfold Builtin.SmallTypes.ownedTupleHandOut
        have hz₆ : IsZipB (p1.push { cls := .type "tuple", data := .seq vs }) z TI TO .ellipsis bz := Heap.get?_push_of_some _ M1
        refine wpAny_bind (wpAny_setField_rec hz₆ (by simp) fun h₇ hz₇ hs₇ => ?_)
        replace hz₇ : IsZipB h₇ z TI TO (rawInt p1.objs.size) bz := hz₇
        refine wpAny_setField_rec hz₇ (by simp) fun h₈ hz₈ hs₈ => ?_
        replace hz₈ : IsZipB h₈ z TI TO (rawInt p1.objs.size) (.bool false) := hz₈
        replace hs₇ : Heap.SameBut z (p1.push { cls := .type "tuple", data := .seq vs }) h₇ := hs₇
        replace hs₈ : Heap.SameBut z h₇ h₈ := hs₈
        have up : ∀ c o, c ≠ z → p1.get? c = some o → h₈.get? c = some o := fun c o c1 e => hs₈.extBut _ _ c1 (hs₇.extBut _ _ c1 (Heap.get?_push_of_some _ e))
        have hT₈ : IsTupA h₈ p1.objs.size vs := hs₈.extBut _ _ (Nat.ne_of_gt hzlt) (hs₇.extBut _ _ (Nat.ne_of_gt hzlt) (Heap.get?_push_size _ rfl))
        have hz8 : h₈.objs.size = p1.objs.size + 1 := by rw [hs₈.1, hs₇.1, Heap.size_push]
        have hsz : p1.objs.size = hp.objs.size := M6
        rw [hsz] at hz₈ hT₈ hz8
        refine wpAny_pure ⟨_, rfl, ?_⟩
        show Q (.ref p1.objs.size) ⟨h₈, g1, d1, tk1, os1⟩
        rw [hsz]
        exact hQ vs h₈ tk1 hvn hvx ⟨_, _, hz₈, .inr ⟨_, rfl⟩⟩ ⟨vs, up _ _ S.TOz hvs, hvn⟩ (fun j hj => (D j hj).frame _ _ _ (M3 j hj) fun b hb o e => up b o (fun q => S.zf j hj (q ▸ hb)) e) hT₈ hz8 fun c o cz cT ci e => up c o cz (M5 c o cz cT ci e)
      · refine ⟨rfl, 0, Nat.zero_le _, rfl, rfl, rfl, rfl, ⟨_, hz0⟩, ⟨vals, hs0.extBut _ _ S.TOz hTO, hv, fun j hj => absurd hj (Nat.not_lt_zero _)⟩, fun j hj => absurd hj (Nat.not_lt_zero _), fun j _ hj => (D j hj).over (st j hj) hs0 (S.zf j hj), fun c o cz _ _ e => hs0.extBut _ _ cz e, hs0.1⟩
  | false =>
    simp only [Bool.false_eq_true, if_false]
    rw [List.forIn_toArray]
    have hl2 : ∀ k, k < N → (refsN it N).drop k = .ref (it k) :: (refsN it N).drop (k + 1) := fun k h => by
      have hl : k < (refsN it N).length := by
        unfold refsN
        simp
        exact h
      have e : (refsN it N)[k] = .ref (it k) := by simp only [refsN, List.getElem_map, List.getElem_range]
      rw [List.drop_eq_getElem_cons hl, e]
    refine wpAny_bind ?_
    refine wpAny_forIn_list _ (fun rest b s' => b.1 = none ∧ ∃ k, k ≤ N ∧ rest = (refsN it N).drop k ∧ b.2.size = k ∧ (∀ j, j < k → ∃ x, b.2[j]? = some x ∧ P j i x) ∧ ∃ h' tk, s' = ⟨h', g, d, tk, os⟩ ∧ IsZipB h' z TI TO f0 b' ∧ IsTupA h' TO vals ∧
      (∀ j, j < k → St j (i + 1) h') ∧ (∀ j, k ≤ j → j < N → St j i h') ∧ (∀ c o, c ≠ z → c ≠ TO → (∀ j, j < N → c ≠ it j) → hp.get? c = some o → h'.get? c = some o) ∧ h'.objs.size = hp.objs.size) _ ?_ ?_ _ _ ?_
    · rintro x rest ⟨b1, b2⟩ s1 ⟨hb, k, hk, hr, hbk, hbx, h', tk, rfl, M1, M2, M3, M4, M5, M6⟩
      have hkN : k < N := by
        rcases Nat.lt_or_ge k N with q | q
        · exact q
        · rw [List.drop_of_length_le (by unfold refsN; simp; exact q)] at hr
          cases hr
      rw [hl2 k hkN] at hr
      injection hr with h1 h2
      subst h1 h2
      dsimp only at hb hbk hbx
      subst hb hbk
      refine wpAny_bind (wpAny_holding ?_)
      show wpAny _ _ (Builtin.SmallTypes.nextOf (.ref (it b2.size)) >>= _) _ _ ⟨h', g, d, tk, os⟩
      refine wpAny_bind ((D b2.size hkN).item i _ _ _ hlt (M4 b2.size (Nat.le_refl _) hkN) fun x p2 tk2 hx sn hp2 => wpAny_pure (wpAny_pure ?_))
      replace hp2 : Heap.SameBut (it b2.size) h' p2 := hp2
      refine ⟨rfl, b2.size + 1, hkN, rfl, Array.size_push _, fun j hj => ?_, p2, tk2, rfl, hp2.extBut _ _ (S.zi hkN) M1, hp2.extBut _ _ (S.Ti hkN) M2, fun j hj => ?_, fun j hj hjN => ?_, fun c o cz cT ci e => hp2.extBut _ _ (ci b2.size hkN) (M5 c o cz cT ci e), hp2.1.trans M6⟩
      · have hj : j < b2.size + 1 := hj
        by_cases q : j = b2.size
        · rw [q]
          exact ⟨x, Array.getElem?_push_size, by rw [← q] at hx ⊢; exact hx⟩
        · have hj2 : j < b2.size := by omega
          obtain ⟨y, hy, py⟩ := hbx j hj2
          have hy : b2[j]? = some y := hy
          exact ⟨y, by show (b2.push x)[j]? = some y; rw [Array.getElem?_push_lt hj2]; rw [Array.getElem?_eq_getElem hj2] at hy; exact hy, py⟩
      · by_cases q : j = b2.size
        · rw [q]
          exact sn
        · have hj2 : j < b2.size := by
            have hj : j < b2.size + 1 := hj
            omega
          exact (D j (Nat.lt_trans hj2 hkN)).over (M3 j hj2) hp2 (S.sep b2.size j hkN (Nat.lt_trans hj2 hkN) (Ne.symm q))
      · exact (D j hjN).over (M4 j (by omega) hjN) hp2 (S.sep b2.size j hkN hjN (by omega))
    · rintro ⟨b1, b2⟩ s1 ⟨hb, k, hk, hr, hbk, hbx, h', tk, rfl, M1, M2, M3, M4, M5, M6⟩
      have hkN : k = N := by
        rcases Nat.lt_or_ge k N with q | q
        · rw [hl2 k q] at hr
          cases hr
        · omega
      subst hkN
      dsimp only at hb hbk hbx
      subst hb
      show wpAny _ _ (newTuple b2.toList >>= _) _ _ _
      refine wpAny_bind (wpAny_newTuple (hsz := by rw [Array.length_toList, hbk]; exact hs) ?_)
      refine wpAny_pure ⟨_, rfl, ?_⟩
      rw [Array.toArray_toList]
      show Q (.ref h'.objs.size) ⟨h'.push { cls := .type "tuple", data := .seq b2 }, g, d, tk, os⟩
      have up : ∀ c o, h'.get? c = some o → (h'.push { cls := .type "tuple", data := .seq b2 }).get? c = some o := fun c o e => Heap.get?_push_of_some _ e
      have hT : IsTupA (h'.push { cls := .type "tuple", data := .seq b2 }) h'.objs.size b2 := Heap.get?_push_size _ rfl
      have hz8 : (h'.push { cls := .type "tuple", data := .seq b2 }).objs.size = h'.objs.size + 1 := Heap.size_push ..
      rw [M6] at hT hz8 ⊢
      exact hQ b2 _ tk hbk hbx ⟨_, _, up _ _ M1, hf0⟩ ⟨vals, up _ _ M2, hv⟩ (fun j hj => (D j hj).frame _ _ _ (M3 j hj) fun b hb o e => up b o e) hT hz8 fun c o cz cT ci e => up c o (M5 c o cz cT ci e)
    · exact ⟨rfl, 0, Nat.zero_le _, rfl, rfl, fun j hj => absurd hj (Nat.not_lt_zero _), hp', tk0, rfl, hz', hsz'.extBut _ _ S.TOz hTO, fun j hj => absurd hj (Nat.not_lt_zero _), fun j _ hj => (D j hj).over (st j hj) hsz' (S.zf j hj), fun c o cz _ _ e => hsz'.extBut _ _ cz e, hsz'.1⟩
theorem zipN_next_end {Q : PySem.Fin → Shared → Prop} (hN : 0 < N) (S : ZipSepN z TI TO N it fp) (D : ∀ k, k < N → Draws prog w A (it k) (fp k) n (P k) (St k))
    (hz : ZOk s.heap z TI TO) (hTI : IsTupA s.heap TI (refsN it N).toArray) (st : St 0 n s.heap)
    (hE : ∀ h' tk e, (∀ c o, c ≠ z → c ≠ TO → (∀ j, j < N → c ≠ it j) → s.heap.get? c = some o → h'.get? c = some o) → (∃ o, h'.get? e = some o ∧ o.cls = .type "StopIteration") → E (.ref e) { s with heap := h', toks := tk }) :
    wpAny (model prog w) A (Builtin.«zip.__next__» ⟨[.ref z], []⟩) Q E s := by
  obtain ⟨hp, g, d, tk0, os⟩ := s
  obtain ⟨f0, bb, hz, hf0⟩ := hz
  show wpAny _ _ (field (.ref z) 2 >>= _) _ _ _
  refine wpAny_bind (wpAny_field hz rfl (x := .bool false) rfl ?_)
  show wpAny _ _ (field (.ref z) 3 >>= _) _ _ _
  refine wpAny_bind (wpAny_field hz rfl (x := .ref TI) rfl ?_)
  refine wpAny_bind (wpAny_seqItems hTI rfl ?_)
  have hne : (refsN it N).toArray.isEmpty = false := by
    unfold refsN
    cases N with
    | zero => omega
    | succ N => simp [List.range_succ]
  simp only [hne, Bool.false_eq_true, if_false]
  refine wpAny_bind (wpAny_mono (zip_free hz hf0) (fun r s' hr => ?_) fun _ _ q => q)
  obtain ⟨hp', b', rfl, hz', hsz'⟩ := hr
  cases r with
  | true =>
    simp only [if_true]
    refine wpAny_bind (wpAny_rule ?_)
    refine wpAny_bind (wpAny_field hz' rfl (x := .ref TO) rfl ?_)
    refine wpAny_bind (wpAny_setField_rec hz' (by simp) fun g0 hz0 hs0 => ?_)
    replace hz0 : IsZipB g0 z TI TO .ellipsis b' := hz0
    replace hs0 : Heap.SameBut z hp g0 := ⟨(show g0.objs.size = hp'.objs.size from hs0.1).trans hsz'.1, fun c hc => (hs0.2 c hc).trans (hsz'.2 c hc)⟩
    refine wpAny_bind ?_
    obtain ⟨rest, hcons⟩ : ∃ rest, (refsN it N).toArray.toList.zipIdx = (.ref (it 0), 0) :: rest := by
      have hl : 0 < (refsN it N).toArray.toList.zipIdx.length := by
        unfold refsN
        simp
        exact hN
      have h := List.drop_eq_getElem_cons hl
      rw [List.drop_zero] at h
      refine ⟨(refsN it N).toArray.toList.zipIdx.drop (0 + 1), h.trans ?_⟩
      congr 1
      rw [List.getElem_zipIdx]
      unfold refsN
      simp
    rw [hcons, List.forIn_cons]
    refine wpAny_bind (wpAny_bind (wpAny_onRaise ?_))
    show wpAny _ _ (Builtin.SmallTypes.nextOf (.ref (it 0)) >>= _) _ _ ⟨g0, g, d, tk0, os⟩
    refine wpAny_bind ((D 0 hN).done ⟨g0, g, d, tk0, os⟩ _ _ ((D 0 hN).over st hs0 (S.zf 0 hN)) fun q e hq he => ?_)
    replace hq : Heap.ExtBut (it 0) g0 q := hq
    obtain ⟨oe, hoe, hce⟩ := he
    replace hoe : q.get? e = some oe := hoe
    have hzq : IsZipB q z TI TO .ellipsis b' := hq _ _ (S.zi hN) hz0
    have hez : e ≠ z := fun x => by subst x; rw [hzq] at hoe; cases hoe; simp at hce
    refine wpAny_setField_rec (s := ⟨q, g, d, tk0, os⟩) hzq (by simp) fun q' _ hq' => ?_
    replace hq' : Heap.SameBut z q q' := hq'
    exact hE q' tk0 e (fun c o cz cT ci x => hq'.extBut _ _ cz (hq _ _ (ci 0 hN) (hs0.extBut _ _ cz x))) ⟨oe, hq'.extBut _ _ hez hoe, hce⟩
  | false =>
    simp only [Bool.false_eq_true, if_false]
    rw [List.forIn_toArray]
    obtain ⟨rest, hcons⟩ : ∃ rest, refsN it N = .ref (it 0) :: rest := by
      have hl : 0 < (refsN it N).length := by
        unfold refsN
        simp
        exact hN
      have h := List.drop_eq_getElem_cons hl
      rw [List.drop_zero] at h
      have e : (refsN it N)[0] = .ref (it 0) := by simp only [refsN, List.getElem_map, List.getElem_range]
      rw [e] at h
      exact ⟨_, h⟩
    rw [hcons, List.forIn_cons]
    refine wpAny_bind (wpAny_bind (wpAny_bind (wpAny_holding ?_)))
    show wpAny _ _ (Builtin.SmallTypes.nextOf (.ref (it 0)) >>= _) _ _ ⟨hp', g, d, tk0, os⟩
    refine wpAny_bind ((D 0 hN).done ⟨hp', g, d, tk0, os⟩ _ _ ((D 0 hN).over st hsz' (S.zf 0 hN)) fun q e hq he => ?_)
    replace hq : Heap.ExtBut (it 0) hp' q := hq
    exact hE q tk0 e (fun c o cz cT ci x => hq _ _ (ci 0 hN) (hsz'.extBut _ _ cz x)) he
end
section
variable {prog : Program} {w : World} {A : Around} {E : Value → Shared → Prop} {s : Shared} {z TI TO : Addr} {N n i : Nat} {it : Nat → Addr} {fp : Nat → List Addr} {P : Nat → Nat → Value → Prop} {St : Nat → Nat → Heap → Prop} {vals : Array Value}
theorem pyNext_zipN_item {Q : Option Value → Shared → Prop} (hN : 0 < N) (S : ZipSepN z TI TO N it fp) (D : ∀ k, k < N → Draws prog w A.in1 (it k) (fp k) n (P k) (St k))
    (hz : ZOk s.heap z TI TO) (hTI : IsTupA s.heap TI (refsN it N).toArray) (hTO : IsTupA s.heap TO vals) (hv : vals.size = N) (hs : N ≤ sizeLine) (st : ∀ k, k < N → St k i s.heap) (hlt : i < n)
    (hQ : ∀ (vs : Array Value) h' tk, vs.size = N → (∀ j, j < N → ∃ x, vs[j]? = some x ∧ P j i x) → ZOk h' z TI TO → (∃ vt, IsTupA h' TO vt ∧ vt.size = N) → (∀ j, j < N → St j (i + 1) h') → IsTupA h' s.heap.objs.size vs → h'.objs.size = s.heap.objs.size + 1 →
      (∀ c o, c ≠ z → c ≠ TO → (∀ j, j < N → c ≠ it j) → s.heap.get? c = some o → h'.get? c = some o) → Q (some (.ref s.heap.objs.size)) { s with heap := h', toks := tk }) :
    wpAny (model prog w) A (pyNext (.ref z)) Q E s := by
  have hT : s.TypeIs (.ref z) "zip" := let ⟨_, _, q, _⟩ := hz; ⟨_, q, rfl⟩
  unfold pyNext
  exact wpAny_bind (wpAny_attempt (wpAny_callSpecial?_slot (name := Str.ofString "__next__") hT F.slot_zip_next
    (wpAny_call_entry F.slot_zip_next hT F.entry_zip_next
      (zipN_next_item hN S D hz hTI hTO hv hs st hlt fun vs h' tk y1 y2 y3 y4 y5 y6 y7 y8 => wpAny_pure (hQ vs h' tk y1 y2 y3 y4 y5 y6 y7 y8)) (F.args_zip_next_1 _))))
theorem pyNext_zipN_end {Q : Option Value → Shared → Prop} (hN : 0 < N) (S : ZipSepN z TI TO N it fp) (D : ∀ k, k < N → Draws prog w A.in1 (it k) (fp k) n (P k) (St k))
    (hz : ZOk s.heap z TI TO) (hTI : IsTupA s.heap TI (refsN it N).toArray) (st : St 0 n s.heap)
    (hQ : ∀ h' tk, (∀ c o, c ≠ z → c ≠ TO → (∀ j, j < N → c ≠ it j) → s.heap.get? c = some o → h'.get? c = some o) → Q none { s with heap := h', toks := tk }) : wpAny (model prog w) A (pyNext (.ref z)) Q E s := by
  have hT : s.TypeIs (.ref z) "zip" := let ⟨_, _, q, _⟩ := hz; ⟨_, q, rfl⟩
  unfold pyNext
  refine wpAny_bind (wpAny_attempt (wpAny_callSpecial?_slot (name := Str.ofString "__next__") hT F.slot_zip_next
    (wpAny_call_entry F.slot_zip_next hT F.entry_zip_next (zipN_next_end hN S D hz hTI st fun h' tk e hk he => ?_) (F.args_zip_next_1 _))))
  obtain ⟨o, ho, hc⟩ := he
  refine wpAny_bind (wpAny_isInstance (T := "StopIteration") (b := true) ⟨o, ho, hc⟩ isSubtype_stop ?_)
  exact wpAny_pure (hQ _ _ hk)
theorem nextOf_zipN_item {Q : Value → Shared → Prop} (hN : 0 < N) (S : ZipSepN z TI TO N it fp) (D : ∀ k, k < N → Draws prog w A.in1 (it k) (fp k) n (P k) (St k))
    (hz : ZOk s.heap z TI TO) (hTI : IsTupA s.heap TI (refsN it N).toArray) (hTO : ∃ vt, IsTupA s.heap TO vt ∧ vt.size = N) (hs : N ≤ sizeLine) (st : ∀ k, k < N → St k i s.heap) (hlt : i < n)
    (hQ : ∀ (vs : Array Value) h' tk, vs.size = N → (∀ j, j < N → ∃ x, vs[j]? = some x ∧ P j i x) → ZOk h' z TI TO → (∃ vt, IsTupA h' TO vt ∧ vt.size = N) → (∀ j, j < N → St j (i + 1) h') → IsTupA h' s.heap.objs.size vs → h'.objs.size = s.heap.objs.size + 1 →
      (∀ c o, c ≠ z → c ≠ TO → (∀ j, j < N → c ≠ it j) → s.heap.get? c = some o → h'.get? c = some o) → Q (.ref s.heap.objs.size) { s with heap := h', toks := tk }) :
    wpAny (model prog w) A (Builtin.SmallTypes.nextOf (.ref z)) Q E s := by
  have hT : s.TypeIs (.ref z) "zip" := let ⟨_, _, q, _⟩ := hz; ⟨_, q, rfl⟩
  obtain ⟨vt, hTO, hv⟩ := hTO
  unfold Builtin.SmallTypes.nextOf
  exact wpAny_bind (wpAny_callSpecial?_slot (name := Str.ofString "__next__") hT F.slot_zip_next
    (wpAny_call_entry F.slot_zip_next hT F.entry_zip_next
      (zipN_next_item hN S D hz hTI hTO hv hs st hlt fun vs h' tk y1 y2 y3 y4 y5 y6 y7 y8 => wpAny_pure (hQ vs h' tk y1 y2 y3 y4 y5 y6 y7 y8)) (F.args_zip_next_1 _)))
theorem nextOf_zipN_end {Q : Value → Shared → Prop} (hN : 0 < N) (S : ZipSepN z TI TO N it fp) (D : ∀ k, k < N → Draws prog w A.in1 (it k) (fp k) n (P k) (St k))
    (hz : ZOk s.heap z TI TO) (hTI : IsTupA s.heap TI (refsN it N).toArray) (st : St 0 n s.heap)
    (hE : ∀ h' tk e, (∀ c o, c ≠ z → c ≠ TO → (∀ j, j < N → c ≠ it j) → s.heap.get? c = some o → h'.get? c = some o) → (∃ o, h'.get? e = some o ∧ o.cls = .type "StopIteration") → E (.ref e) { s with heap := h', toks := tk }) :
    wpAny (model prog w) A (Builtin.SmallTypes.nextOf (.ref z)) Q E s := by
  have hT : s.TypeIs (.ref z) "zip" := let ⟨_, _, q, _⟩ := hz; ⟨_, q, rfl⟩
  unfold Builtin.SmallTypes.nextOf
  exact wpAny_bind (wpAny_callSpecial?_slot (name := Str.ofString "__next__") hT F.slot_zip_next
    (wpAny_call_entry F.slot_zip_next hT F.entry_zip_next (zipN_next_end hN S D hz hTI st hE) (F.args_zip_next_1 _)))
/-- enumerate over such a zip -/
theorem enumZ_next_item {e : Addr} {c : Int} {old : Value} {Q : Value → Shared → Prop} (hN : 0 < N) (S : ZipSepN z TI TO N it fp) (D : ∀ k, k < N → Draws prog w A.in1 (it k) (fp k) n (P k) (St k))
    (he : IsEnum s.heap e z c old) (hz : ZOk s.heap z TI TO) (hTI : IsTupA s.heap TI (refsN it N).toArray) (hTO : ∃ vt, IsTupA s.heap TO vt ∧ vt.size = N) (hs : N ≤ sizeLine) (st : ∀ k, k < N → St k i s.heap) (hlt : i < n)
    (nez : e ≠ z) (neT : e ≠ TO) (nei : ∀ j, j < N → e ≠ it j) (nef : ∀ j, j < N → e ∉ fp j)
    (hQ : ∀ (vs : Array Value) h' tk, vs.size = N → (∀ j, j < N → ∃ x, vs[j]? = some x ∧ P j i x) → IsEnumOut h' e z (c + 1) (.ref s.heap.objs.size) (s.heap.objs.size + 1) → ZOk h' z TI TO → (∃ vt, IsTupA h' TO vt ∧ vt.size = N) → (∀ j, j < N → St j (i + 1) h') →
      IsTupA h' s.heap.objs.size vs → h'.get? (s.heap.objs.size + 1) = some { cls := .type "tuple", data := .seq #[.int c tk, .ref s.heap.objs.size] } → h'.objs.size = s.heap.objs.size + 2 →
      (∀ b o, b ≠ e → b ≠ z → b ≠ TO → (∀ j, j < N → b ≠ it j) → s.heap.get? b = some o → h'.get? b = some o) → Q (.ref (s.heap.objs.size + 1)) { s with heap := h', toks := tk + 1 }) :
    wpAny (model prog w) A (Builtin.«enumerate.__next__» ⟨[.ref e], []⟩) (fun fin s' => ∃ v, fin = .done (.ret v) ∧ Q v s') E s := by
  obtain ⟨hp, g, d, tk₀, os⟩ := s
  show wpAny _ _ (field (.ref e) 2 >>= _) _ _ _
  refine wpAny_bind (wpAny_field he rfl (x := .ref z) rfl ?_)
  refine wpAny_bind (nextOf_zipN_item hN S D hz hTI hTO hs st hlt fun vs h₁ tk hvn hvx hz₁ hTO₁ hst₁ hT₁ hsz₁ hk₁ => ?_)
  replace hT₁ : IsTupA h₁ hp.objs.size vs := hT₁
  replace hsz₁ : h₁.objs.size = hp.objs.size + 1 := hsz₁
  have he₁ : IsEnum h₁ e z c old := hk₁ _ _ nez neT nei he
  show wpAny _ _ (field (.ref e) 3 >>= _) _ _ ⟨h₁, g, d, tk, os⟩
  refine wpAny_bind (wpAny_field he₁ rfl (x := rawInt c) rfl ?_)
  show wpAny _ _ (field (.ref e) 4 >>= _) _ _ ⟨h₁, g, d, tk, os⟩
  refine wpAny_bind (wpAny_field he₁ rfl (x := .none) rfl ?_)
  show wpAny _ _ (mkInt c >>= _) _ _ ⟨h₁, g, d, tk, os⟩
  refine wpAny_bind (wpAny_mkInt ?_)
  show wpAny _ _ (setField (.ref e) 3 (rawInt (c + 1)) >>= _) _ _ ⟨h₁, g, d, tk + 1, os⟩
  refine wpAny_bind (wpAny_setField_rec he₁ (by simp) fun h₂ he₂ hs₂ => ?_)
  replace hs₂ : Heap.SameBut e h₁ h₂ := hs₂
  replace he₂ : IsEnum h₂ e z (c + 1) old := he₂
  show wpAny _ _ (setField (.ref e) 4 .none >>= _) _ _ ⟨h₂, g, d, tk + 1, os⟩
  refine wpAny_bind (wpAny_setField_rec he₂ (by simp) fun h₃ he₃ hs₃ => ?_)
  replace hs₃ : Heap.SameBut e h₂ h₃ := hs₃
  replace he₃ : IsEnum h₃ e z (c + 1) old := he₃
  show wpAny _ _ (newTuple [.int c tk, .ref hp.objs.size] >>= _) _ _ ⟨h₃, g, d, tk + 1, os⟩
  refine wpAny_bind (wpAny_newTuple ?_)
  have hsz : h₃.objs.size = hp.objs.size + 1 := by rw [hs₃.1, hs₂.1, hsz₁]
  have hel : e < hp.objs.size := Heap.lt_size he
  have up₃ : ∀ b o, b ≠ e → h₁.get? b = some o → (h₃.push { cls := .type "tuple", data := .seq #[.int c tk, .ref hp.objs.size] }).get? b = some o := fun b o hb q => Heap.get?_push_of_some _ (hs₃.extBut b o hb (hs₂.extBut b o hb q))
  have he₄ : IsEnum (h₃.push { cls := .type "tuple", data := .seq #[.int c tk, .ref hp.objs.size] }) e z (c + 1) old := Heap.get?_push_of_some _ he₃
  have ht₄ : (h₃.push { cls := .type "tuple", data := .seq #[.int c tk, .ref hp.objs.size] }).get? (hp.objs.size + 1) = some { cls := .type "tuple", data := .seq #[.int c tk, .ref hp.objs.size] } := by rw [← hsz]; exact Heap.get?_push_size _ rfl
  have hz₄ : (h₃.push { cls := .type "tuple", data := .seq #[.int c tk, .ref hp.objs.size] }).objs.size = hp.objs.size + 2 := by rw [Heap.size_push, hsz]
  generalize hh₄ : h₃.push { cls := .type "tuple", data := .seq #[.int c tk, .ref hp.objs.size] } = h₄ at he₄ ht₄ hz₄ up₃
  show wpAny _ _ (Builtin.SmallTypes.ownedTupleIsFree (.ref e) >>= _) _ _ ⟨h₄, g, d, tk + 1, os⟩
  refine wpAny_bind ?_
  unfold Builtin.SmallTypes.ownedTupleIsFree
  refine wpAny_bind (wpAny_field he₄ rfl (x := .none) rfl (wpAny_pure ?_))
  simp only [if_true]
  refine wpAny_bind (wpAny_rule ?_)
  refine wpAny_bind (wpAny_field he₄ rfl (x := old) rfl ?_)
  refine wpAny_bind (wpAny_setField_rec he₄ (by simp) fun h₅ he₅ hs₅ => ?_)
  replace hs₅ : Heap.SameBut e h₄ h₅ := hs₅
  replace he₅ : IsEnum h₅ e z (c + 1) (.ref hp.objs.size) := he₅
  show wpAny _ _ (Builtin.SmallTypes.ownedTupleHandOut (.ref e) (.ref h₃.objs.size) >>= _) _ _ ⟨h₅, g, d, tk + 1, os⟩
  rw [hsz]
  refine wpAny_bind ?_
  unfold Builtin.SmallTypes.ownedTupleHandOut
  refine wpAny_bind (wpAny_setField_rec he₅ (by simp) fun h₆ he₆ hs₆ => ?_)
  replace hs₆ : Heap.SameBut e h₅ h₆ := hs₆
  replace he₆ : IsEnumOut h₆ e z (c + 1) (.ref hp.objs.size) (hp.objs.size + 1) := he₆
  refine wpAny_setField_rec he₆ (by simp) fun h₇ he₇ hs₇ => ?_
  replace hs₇ : Heap.SameBut e h₆ h₇ := hs₇
  replace he₇ : IsEnumOut h₇ e z (c + 1) (.ref hp.objs.size) (hp.objs.size + 1) := he₇
  have up₇ : ∀ b o, b ≠ e → h₄.get? b = some o → h₇.get? b = some o := fun b o hb q => hs₇.extBut b o hb (hs₆.extBut b o hb (hs₅.extBut b o hb q))
  have up : ∀ b o, b ≠ e → h₁.get? b = some o → h₇.get? b = some o := fun b o hb q => up₇ b o hb (up₃ b o hb q)
  obtain ⟨f0, bb, hz1, hf0⟩ := hz₁
  obtain ⟨vt, hvt, hvn2⟩ := hTO₁
  refine wpAny_bind (wpAny_letGo (wpAny_pure ⟨_, rfl, ?_⟩))
  show Q (.ref (hp.objs.size + 1)) ⟨h₇, g, d, tk + 1, os⟩
  exact hQ vs h₇ tk hvn hvx he₇ ⟨f0, bb, up _ _ nez.symm hz1, hf0⟩ ⟨vt, up _ _ neT.symm hvt, hvn2⟩ (fun j hj => (D j hj).frame _ _ _ (hst₁ j hj) fun b hb o q => up b o (fun w => nef j hj (w ▸ hb)) q) (up _ _ (Nat.ne_of_gt hel) hT₁) (up₇ _ _ (Nat.ne_of_gt (Nat.lt_succ_of_lt hel)) ht₄) (by rw [hs₇.1, hs₆.1, hs₅.1, hz₄]) fun b o be bz bT bi q => up b o be (hk₁ b o bz bT bi q)
theorem enumZ_next_end {e : Addr} {c : Int} {old : Value} {Q : PySem.Fin → Shared → Prop} (hN : 0 < N) (S : ZipSepN z TI TO N it fp) (D : ∀ k, k < N → Draws prog w A.in1 (it k) (fp k) n (P k) (St k))
    (he : IsEnum s.heap e z c old) (hz : ZOk s.heap z TI TO) (hTI : IsTupA s.heap TI (refsN it N).toArray) (st : St 0 n s.heap)
    (hE : ∀ h' tk x, (∀ c o, c ≠ z → c ≠ TO → (∀ j, j < N → c ≠ it j) → s.heap.get? c = some o → h'.get? c = some o) → (∃ o, h'.get? x = some o ∧ o.cls = .type "StopIteration") → E (.ref x) { s with heap := h', toks := tk }) :
    wpAny (model prog w) A (Builtin.«enumerate.__next__» ⟨[.ref e], []⟩) Q E s := by
  obtain ⟨hp, g, d, tk₀, os⟩ := s
  show wpAny _ _ (field (.ref e) 2 >>= _) _ _ _
  refine wpAny_bind (wpAny_field he rfl (x := .ref z) rfl ?_)
  exact wpAny_bind (nextOf_zipN_end hN S D hz hTI st hE)
theorem pyNext_enumZ_item {e : Addr} {c : Int} {old : Value} {Q : Option Value → Shared → Prop} (hN : 0 < N) (S : ZipSepN z TI TO N it fp) (D : ∀ k, k < N → Draws prog w A.in1.in1 (it k) (fp k) n (P k) (St k))
    (he : IsEnum s.heap e z c old) (hz : ZOk s.heap z TI TO) (hTI : IsTupA s.heap TI (refsN it N).toArray) (hTO : ∃ vt, IsTupA s.heap TO vt ∧ vt.size = N) (hs : N ≤ sizeLine) (st : ∀ k, k < N → St k i s.heap) (hlt : i < n)
    (nez : e ≠ z) (neT : e ≠ TO) (nei : ∀ j, j < N → e ≠ it j) (nef : ∀ j, j < N → e ∉ fp j)
    (hQ : ∀ (vs : Array Value) h' tk, vs.size = N → (∀ j, j < N → ∃ x, vs[j]? = some x ∧ P j i x) → IsEnumOut h' e z (c + 1) (.ref s.heap.objs.size) (s.heap.objs.size + 1) → ZOk h' z TI TO → (∃ vt, IsTupA h' TO vt ∧ vt.size = N) → (∀ j, j < N → St j (i + 1) h') →
      IsTupA h' s.heap.objs.size vs → h'.get? (s.heap.objs.size + 1) = some { cls := .type "tuple", data := .seq #[.int c tk, .ref s.heap.objs.size] } → h'.objs.size = s.heap.objs.size + 2 →
      (∀ b o, b ≠ e → b ≠ z → b ≠ TO → (∀ j, j < N → b ≠ it j) → s.heap.get? b = some o → h'.get? b = some o) → Q (some (.ref (s.heap.objs.size + 1))) { s with heap := h', toks := tk + 1 }) :
    wpAny (model prog w) A (pyNext (.ref e)) Q E s := by
  have hT : s.TypeIs (.ref e) "enumerate" := ⟨_, he, rfl⟩
  unfold pyNext
  exact wpAny_bind (wpAny_attempt (wpAny_callSpecial?_slot (name := Str.ofString "__next__") hT F.slot_enumerate_next
    (wpAny_call_entry F.slot_enumerate_next hT F.entry_enumerate_next
      (enumZ_next_item hN S D he hz hTI hTO hs st hlt nez neT nei nef fun vs h' tk y1 y2 y3 y4 y5 y6 y7 y8 y9 y10 => wpAny_pure (hQ vs h' tk y1 y2 y3 y4 y5 y6 y7 y8 y9 y10)) (F.args_enumerate_next_1 _))))
theorem pyNext_enumZ_end {e : Addr} {c : Int} {old : Value} {Q : Option Value → Shared → Prop} (hN : 0 < N) (S : ZipSepN z TI TO N it fp) (D : ∀ k, k < N → Draws prog w A.in1.in1 (it k) (fp k) n (P k) (St k))
    (he : IsEnum s.heap e z c old) (hz : ZOk s.heap z TI TO) (hTI : IsTupA s.heap TI (refsN it N).toArray) (st : St 0 n s.heap)
    (hQ : ∀ h' tk, (∀ c o, c ≠ z → c ≠ TO → (∀ j, j < N → c ≠ it j) → s.heap.get? c = some o → h'.get? c = some o) → Q none { s with heap := h', toks := tk }) : wpAny (model prog w) A (pyNext (.ref e)) Q E s := by
  have hT : s.TypeIs (.ref e) "enumerate" := ⟨_, he, rfl⟩
  unfold pyNext
  refine wpAny_bind (wpAny_attempt (wpAny_callSpecial?_slot (name := Str.ofString "__next__") hT F.slot_enumerate_next
    (wpAny_call_entry F.slot_enumerate_next hT F.entry_enumerate_next (enumZ_next_end hN S D he hz hTI st fun h' tk x hk hx => ?_) (F.args_enumerate_next_1 _))))
  obtain ⟨o, ho, hc⟩ := hx
  refine wpAny_bind (wpAny_isInstance (T := "StopIteration") (b := true) ⟨o, ho, hc⟩ isSubtype_stop ?_)
  exact wpAny_pure (hQ _ _ hk)
end
/-- the iterators go on, and two new objects are laid -/
theorem turnedNew2 {X : Cx} {pins : List (Addr × Obj)} {σ : L2.St} {H : Hp} {s : Shared} {h' : Heap} {t' : Nat} {ch : List Addr} {T1 T2 : Addr} {o1 o2 : HO} (I : Inv X pins σ H s) (k : ∀ b o, b ∉ ch → s.heap.get? b = some o → h'.get? b = some o) (hf : ∀ b ∈ ch, FpOk X pins H b)
    (h1 : s.heap.objs.size ≤ T1) (h2 : s.heap.objs.size ≤ T2) (h12 : T1 ≠ T2) (new1 : ObjOk X.prog X.w (upd (upd H T1 o1) T2 o2) h' T1 o1) (new2 : ObjOk X.prog X.w (upd (upd H T1 o1) T2 o2) h' T2 o2) : Inv X pins σ (upd (upd H T1 o1) T2 o2) { s with heap := h', toks := t' } := by
  have n1 : H T1 = none := I.hok.fresh h1
  have n2 : H T2 = none := I.hok.fresh h2
  have up : ∀ {b u}, H b = some u → (upd (upd H T1 o1) T2 o2) b = some u := fun {b u} e => by rw [upd_ne (ne_of_none e n2), upd_ne (ne_of_none e n1)]; exact e
  have nit : ∀ b u, H b = some u → b ∉ ch := fun b u e z => by
    have q := (hf b z).1
    rw [q] at e; cases e
  refine I.step (g' := s.gens) (d' := s.drawn) (ch := ch) (fun b hb => ⟨(hf b hb).2.2.2.1, (hf b hb).2.1, (hf b hb).2.2.2.2.1, (hf b hb).2.2.2.2.2⟩) (fun b o _ _ hc e _ => k b o hc e) (fun b o _ _ hc e _ => ⟨o.slots, k b o hc e⟩)
    (fun b o _ e n => ?_) (fun b o hc e => ⟨o, k b o hc e⟩) (fun b xs e => up e) (fun b o u e => up e) (fun b ps e => ⟨#[], ?_⟩) (fun m hm => ?_) (fun b u e => ?_) I.bare
  · rw [upd_ne (Nat.ne_of_lt (Nat.lt_of_lt_of_le (Heap.lt_size e) h2)), upd_ne (Nat.ne_of_lt (Nat.lt_of_lt_of_le (Heap.lt_size e) h1))]; exact n
  · rw [up e]; simp
  · obtain ⟨o, es, ep, ho, r⟩ := hm
    exact ⟨o, es, ep, k _ o (fun z => (hf _ z).2.1 rfl) ho, r⟩
  · by_cases hb : b = T2
    · subst hb
      rw [upd_same] at e
      cases e
      exact new2
    · rw [upd_ne hb] at e
      by_cases hb1 : b = T1
      · subst hb1
        rw [upd_same] at e
        cases e
        exact new1
      · rw [upd_ne hb1] at e
        refine (I.hok b u e).stay (fun c v hc q => k c v ?_ q) (fun c q => up q) fun c xs q => up q
        rcases hc with z | z
        · rw [z]; exact nit b u e
        · exact nit c _ z
theorem paired_of {α β : Type} {R : α → β → Prop} : ∀ {xs : List α} {us : List β}, xs.length = us.length → (∀ (i : Nat) (x : α) (u : β), xs[i]? = some x → us[i]? = some u → R x u) → Paired R xs us
  | [], [], _, _ => .nil
  | x :: xs, u :: us, hl, h => .cons (h 0 x u rfl rfl) (paired_of (Nat.succ.inj hl) fun i y v e1 e2 => h (i + 1) y v e1 e2)
  | [], _ :: _, hl, _ => nomatch hl
  | _ :: _, [], hl, _ => nomatch hl
/-- N lists of n items, the i-th ones in a tuple, with i in a pair -/
def Iez (K : PySem.W.Frag) (N n : Nat) (a : Nat → Addr) : It :=
  ⟨fun i H => i < n ∧ ∀ k, k < N → ∃ xs, SqL K H (a k) xs ∧ xs.length = n,
   fun i H v H' => ∃ T1 T2 ys, v = .ref T2 ∧ H T1 = none ∧ H T2 = none ∧ T1 ≠ T2 ∧ H' = upd (upd H T1 (.tup ys)) T2 (.tup [.int (i : Nat), .ref T1]) ∧ ys.length = N ∧ ∀ k, k < N → ∀ xs, SqL K H (a k) xs → ys[k]? = xs[i]?,
   fun i H => i = n ∧ ∀ k, k < N → ∃ xs, SqL K H (a k) xs ∧ xs.length = n⟩
structure ZState (z TI TO e : Addr) (N : Nat) (it a : Nat → Addr) (i : Nat) (h : Heap) : Prop where
  en : ∃ old, IsEnum h e z ((i : Nat) : Int) old
  zo : ZOk h z TI TO
  ti : IsTupA h TI (refsN it N).toArray
  to : ∃ vt, IsTupA h TO vt ∧ vt.size = N
  its : ∀ k, k < N → h.IsListIter (it k) (a k) i
/-- the lists of such a zip -/
theorem lists_of {X : Cx} {pins : List (Addr × Obj)} {σ : L2.St} {H : Hp} {s : Shared} {N n : Nat} {a : Nat → Addr} (I : Inv X pins σ H s) (h : ∀ k, k < N → ∃ xs, SqL X.K H (a k) xs ∧ xs.length = n) :
    ∃ (items : Nat → Array Value) (xss : Nat → List V), ∀ k, k < N → SqL X.K H (a k) (xss k) ∧ (xss k).length = n ∧ Vals (xss k) (items k).toList ∧ s.heap.IsList (a k) (items k) ∧ (items k).size = n := by
  have h1 : ∀ k, ∃ (p : Array Value × List V), k < N → SqL X.K H (a k) p.2 ∧ p.2.length = n ∧ Vals p.2 p.1.toList ∧ s.heap.IsList (a k) p.1 ∧ p.1.size = n := fun k => by
    by_cases hk : k < N
    · obtain ⟨xs, hx, hn⟩ := h k hk
      obtain ⟨its, r, pl, hz⟩ := I.list hx
      refine ⟨(its.toArray, xs), fun _ => ⟨hx, hn, by simpa using r, pl.isList, ?_⟩⟩
      have := r.length
      simp only [List.size_toArray]
      omega
    · exact ⟨(#[], []), fun q => absurd q hk⟩
  exact ⟨fun k => (Classical.choose (h1 k)).1, fun k => (Classical.choose (h1 k)).2, fun k hk => Classical.choose_spec (h1 k) hk⟩
theorem turn_enumZ {P : Program} {w : World} {K : PySem.W.Frag} {elts : List Expr} {kk : Nat} {tpos : Pos} {z TI TO e : Addr} {N n : Nat} {it a : Nat → Addr} (hN : 0 < N) (hs : N ≤ sizeLine) (S : ZipSepN z TI TO N it fun k => [it k, a k])
    (nez : e ≠ z) (neT : e ≠ TO) (neI : e ≠ TI) (nei : ∀ j, j < N → e ≠ it j) (nea : ∀ j, j < N → e ≠ a j) (nai : ∀ j, j < N → a j ≠ it j) :
    Turn P w K (.Tuple elts kk tpos) (Iez K N n a) (e :: z :: TO :: TI :: (List.range N).map it) e (fun i h => ZState z TI TO e N it a i h) where
  mem := by simp
  obj := fun i h st b hb => by
    obtain ⟨⟨old, he⟩, ⟨f0, bb, hz, _⟩, hti, ⟨vt, hto, _⟩, hit⟩ := st
    rcases List.mem_cons.mp hb with rfl | hb
    · exact ⟨_, he, fun v q => nomatch q⟩
    · rcases List.mem_cons.mp hb with rfl | hb
      · exact ⟨_, hz, fun v q => nomatch q⟩
      · rcases List.mem_cons.mp hb with rfl | hb
        · exact ⟨_, hto, fun v q => nomatch q⟩
        · rcases List.mem_cons.mp hb with rfl | hb
          · exact ⟨_, hti, fun v q => nomatch q⟩
          · obtain ⟨k, hk, rfl⟩ := List.mem_map.mp hb
            obtain ⟨o, ho, hc, hd⟩ := hit k (List.mem_range.mp hk)
            exact ⟨o, ho, fun v q => by rw [hd] at q; cases q⟩
  keep := fun i h h' st k => by
    obtain ⟨⟨old, he⟩, ⟨f0, bb, hz, hf0⟩, hti, ⟨vt, hto, hv⟩, hit⟩ := st
    exact ⟨⟨old, k e (by simp) _ he⟩, ⟨f0, bb, k z (by simp) _ hz, hf0⟩, k TI (by simp) _ hti, ⟨vt, k TO (by simp) _ hto, hv⟩, fun j hj => (hit j hj).at fun o q => k (it j) (by simp [hj]; exact .inr (.inr (.inr (.inr ⟨j, hj, rfl⟩)))) o q⟩
  item := by
    intro X hP hw hK hc i pins s σ H E I hf st hg
    subst hP hw hK
    obtain ⟨hlt, hls⟩ := hg
    obtain ⟨items, xss, hL⟩ := lists_of I hls
    obtain ⟨⟨old, he⟩, hz, hti, hto, hit⟩ := st
    have D : ∀ k, k < N → Draws X.prog X.w X.A.in1.in1 (it k) [it k, a k] n (fun i v => (items k)[i]? = some v) (fun i h => h.IsListIter (it k) (a k) i ∧ h.IsList (a k) (items k)) := fun k hk => by
      have q := Draws.list (prog := X.prog) (w := X.w) (A := X.A.in1.in1) (by simp [I.ok.hd hc]) (it k) (a k) (nai k hk) (items k)
      rw [(hL k hk).2.2.2.2] at q
      exact q
    have hel : e < s.heap.objs.size := Heap.lt_size he
    refine pyNext_enumZ_item hN S D he hz hti hto hs (fun k hk => ⟨hit k hk, (hL k hk).2.2.2.1⟩) hlt nez neT nei (fun j hj q => ?_) fun vs h' tk hvn hvx ho hz' hto' hst' hT1 hT2 hsz hk => ?_
    · rcases List.mem_cons.mp q with q | q
      · exact nei j hj q
      · exact nea j hj (List.mem_singleton.mp q)
    refine ⟨_, rfl, wpAny_letOwnedTupleGo_enum (s := { s with heap := h', toks := tk + 1 }) ho fun h'' he' sb => ?_⟩
    have hlive : ∀ b ∈ e :: z :: TO :: TI :: (List.range N).map it, b < s.heap.objs.size := fun b hb => by
      rcases List.mem_cons.mp hb with rfl | hb
      · exact hel
      · rcases List.mem_cons.mp hb with rfl | hb
        · obtain ⟨_, _, q, _⟩ := hz
          exact Heap.lt_size q
        · rcases List.mem_cons.mp hb with rfl | hb
          · obtain ⟨_, q, _⟩ := hto
            exact Heap.lt_size q
          · rcases List.mem_cons.mp hb with rfl | hb
            · exact Heap.lt_size hti
            · obtain ⟨k, hk, rfl⟩ := List.mem_map.mp hb
              obtain ⟨o, q, _⟩ := hit k (List.mem_range.mp hk)
              exact Heap.lt_size q
    have sb2 : ∀ c, c ≠ e → h''.get? c = h'.get? c := fun c hc => sb.2 c hc
    have hT1' : IsTupA h'' s.heap.objs.size vs := (sb2 _ (Nat.ne_of_gt hel)).trans hT1
    have hT2' : h''.get? (s.heap.objs.size + 1) = some { cls := .type "tuple", data := .seq #[.int i tk, .ref s.heap.objs.size] } := (sb2 _ (Nat.ne_of_gt (Nat.lt_succ_of_lt hel))).trans hT2
    obtain ⟨ys, hys⟩ : ∃ ys : List V, ys = (List.range N).map fun k => (xss k).getD i .non := ⟨_, rfl⟩
    have hyl : ys.length = N := by rw [hys, List.length_map, List.length_range]
    have hyk : ∀ k, k < N → ys[k]? = (xss k)[i]? := fun k hk => by
      rw [hys, List.getElem?_map, List.getElem?_range hk]
      have hl : i < (xss k).length := by rw [(hL k hk).2.1]; exact hlt
      show some ((xss k).getD i .non) = _
      rw [List.getD_eq_getElem?_getD, List.getElem?_eq_getElem hl]
      rfl
    have hvals : Vals ys vs.toList := paired_of (by rw [hyl, Array.length_toList, hvn]) fun k y u e1 e2 => by
      have hkN : k < N := by
        rw [← hyl]
        exact (List.getElem?_eq_some_iff.mp e1).1
      rw [hyk k hkN] at e1
      obtain ⟨u', hu', ru⟩ := Vals.get (hL k hkN).2.2.1 e1
      obtain ⟨x, hx, hxi⟩ := hvx k hkN
      rw [Array.getElem?_toList] at e2 hu'
      rw [hx] at e2
      rw [hxi] at hu'
      rw [← Option.some.inj e2, Option.some.inj hu']
      exact ru
    have new1 : ObjOk X.prog X.w (upd (upd H s.heap.objs.size (.tup ys)) (s.heap.objs.size + 1) (.tup [.int (i : Nat), .ref s.heap.objs.size])) h'' s.heap.objs.size (.tup ys) :=
      ⟨by rw [hyl]; exact hs, vs.toList, hvals, ⟨_, hT1', rfl, _, rfl⟩⟩
    have new2 : ObjOk X.prog X.w (upd (upd H s.heap.objs.size (.tup ys)) (s.heap.objs.size + 1) (.tup [.int (i : Nat), .ref s.heap.objs.size])) h'' (s.heap.objs.size + 1) (.tup [.int (i : Nat), .ref s.heap.objs.size]) :=
      ⟨by show 2 ≤ sizeLine; decide, [.int i tk, .ref s.heap.objs.size], .cons ⟨_, rfl⟩ (.cons rfl .nil), ⟨_, hT2', rfl, _, rfl⟩⟩
    have I1 : Inv X pins σ (upd (upd H s.heap.objs.size (.tup ys)) (s.heap.objs.size + 1) (.tup [.int (i : Nat), .ref s.heap.objs.size])) { s with heap := h'', toks := tk + 1 } :=
      turnedNew2 I (ch := e :: z :: TO :: TI :: (List.range N).map it) (fun b o hb q => by
        simp only [List.mem_cons, List.mem_map, List.mem_range, not_or, not_exists, not_and] at hb
        exact (sb2 b hb.1).trans (hk b o hb.1 hb.2.1 hb.2.2.1 (fun j hj w => hb.2.2.2.2 j hj w.symm) q)) hf (Nat.le_refl _) (Nat.le_succ _) (Nat.ne_of_lt (Nat.lt_succ_self _)) new1 new2
    refine ⟨.ref (s.heap.objs.size + 1), _, I1, rfl, ⟨s.heap.objs.size, s.heap.objs.size + 1, ys, rfl, I.hok.fresh (Nat.le_refl _), I.hok.fresh (Nat.le_succ _), Nat.ne_of_lt (Nat.lt_succ_self _), rfl, hyl, fun k hk xs hx => ?_⟩, ⟨⟨.ref s.heap.objs.size, ?_⟩, ?_, ?_, ?_, fun j hj => ?_⟩, fun b hb => ?_⟩
    · rw [hyk k hk, I.list_inj (hL k hk).1 hx]
    · rw [show ((i + 1 : Nat) : Int) = (i : Int) + 1 by omega]
      exact he'
    · obtain ⟨f0, bb, q, hf0⟩ := hz'
      exact ⟨f0, bb, (sb2 _ nez.symm).trans q, hf0⟩
    · exact (sb2 _ neI.symm).trans (hk _ _ neI.symm S.TIz S.TITO S.TIi hti)
    · obtain ⟨vt, q, hv⟩ := hto'
      exact ⟨vt, (sb2 _ neT.symm).trans q, hv⟩
    · exact (hst' j hj).1.at fun o q => (sb2 _ (Ne.symm (nei j hj))).trans q
    · have hb' := hlive b hb
      rw [upd_ne (Nat.ne_of_lt (Nat.lt_succ_of_lt hb')), upd_ne (Nat.ne_of_lt hb')]
      exact (hf b hb).1
  done := by
    intro X hP hw hK hc i pins s σ H E I hf st hg
    subst hP hw hK
    obtain ⟨rfl, hls⟩ := hg
    obtain ⟨items, xss, hL⟩ := lists_of I hls
    obtain ⟨⟨old, he⟩, hz, hti, hto, hit⟩ := st
    have D : ∀ k, k < N → Draws X.prog X.w X.A.in1.in1 (it k) [it k, a k] i (fun i v => (items k)[i]? = some v) (fun i h => h.IsListIter (it k) (a k) i ∧ h.IsList (a k) (items k)) := fun k hk => by
      have q := Draws.list (prog := X.prog) (w := X.w) (A := X.A.in1.in1) (by simp [I.ok.hd hc]) (it k) (a k) (nai k hk) (items k)
      rw [(hL k hk).2.2.2.2] at q
      exact q
    refine pyNext_enumZ_end hN S D he hz hti ⟨hit 0 hN, (hL 0 hN).2.2.2.1⟩ fun h' tk hk => ⟨rfl, I.turnedL (ch := e :: z :: TO :: TI :: (List.range N).map it) (fun b o hb q => ?_) hf⟩
    simp only [List.mem_cons, List.mem_map, List.mem_range, not_or, not_exists, not_and] at hb
    exact hk b o hb.2.1 hb.2.2.1 (fun j hj q => hb.2.2.2.2 j hj q.symm) q
  self := fun A i s Q E h0 h => let ⟨_, he⟩ := ZState.en h0; wpAny_pyIter_enum he h
end Sd

namespace Sd
open PySem PySem.Spec PyProof.Rows L2
/-! ### zip(*lists) begins -/
theorem newClass_zip (xs : List Value) : Builtin.SmallTypes.newClass "zip" ⟨.type "zip" :: xs, []⟩ = pure (.type "zip", xs) := by
  have h := sub_zip
  unfold Builtin.SmallTypes.newClass
  simp only [isType, h, pure_bind, Bool.not_true, Bool.false_eq_true, if_false]
theorem newCall_zipN (x : Value) (xs : List Value) : checkBuiltinCall "zip.__new__" ⟨.type "zip" :: x :: xs, []⟩ = pure () := by
  have h2 := F.newCall_zip_2 .none .none
  unfold checkBuiltinCall at h2 ⊢
  exact h2
section
variable {prog : Program} {w : World} {A : Around} {E : Value → Shared → Prop}
def itersAt (b N : Nat) : List Value := (List.range N).map fun j => .ref (b + j)
theorem iter_loop : ∀ (l : List Addr) (acc : Array Value) (s : Shared) (Q : Array Value → Shared → Prop), (∀ a ∈ l, ∃ items, s.heap.IsList a items) →
    (∀ h', h'.objs.size = s.heap.objs.size + l.length → (∀ (j : Nat) a, l[j]? = some a → h'.get? (s.heap.objs.size + j) = some { cls := .type "list_iterator", data := .fields #[.ref a, .int 0 0] }) →
      (∀ c o, s.heap.get? c = some o → h'.get? c = some o) → Q (acc ++ (itersAt s.heap.objs.size l.length).toArray) { s with heap := h' }) →
    wpAny (model prog w) A (forIn (l.map Value.ref) acc fun x its => do
      let v ← holding its.toList (pyIter x)
      pure (ForInStep.yield (its.push v))) Q E s
  | [], acc, s, Q, hl, hQ => by
    have h := hQ s.heap rfl (fun j a e => by simp at e) fun c o e => e
    simp only [List.map_nil, List.forIn_nil]
    refine wpAny_pure ?_
    simpa [itersAt] using h
  | a :: l, acc, s, Q, hl, hQ => by
    simp only [List.map_cons, List.forIn_cons]
    obtain ⟨items, ha⟩ := hl a (by simp)
    refine wpAny_bind (wpAny_bind (wpAny_holding (wpAny_pyIter_list ha ?_)))
    refine wpAny_pure ?_
    refine iter_loop l _ _ Q (fun b hb => ?_) fun h' hz hg hk => ?_
    · obtain ⟨it, hx⟩ := hl b (by simp [hb])
      exact ⟨it, hx.at fun o e => Heap.get?_push_of_some _ e⟩
    · have z1 : (s.heap.push { cls := .type "list_iterator", data := .fields #[.ref a, .int 0 0] }).objs.size = s.heap.objs.size + 1 := by rw [Heap.size_push]
      have h := hQ h' (by rw [hz]; show (s.heap.push _).objs.size + _ = _; rw [z1, List.length_cons]; omega) (fun j b e => ?_) fun c o e => hk c o (Heap.get?_push_of_some _ e)
      · have e : (acc.push (Value.ref s.heap.objs.size)) ++ (itersAt (s.heap.push { cls := .type "list_iterator", data := .fields #[.ref a, .int 0 0] }).objs.size l.length).toArray = acc ++ (itersAt s.heap.objs.size (a :: l).length).toArray := by
          apply Array.ext'
          rw [z1, itersAt, itersAt, List.length_cons, List.range_succ_eq_map]
          simp only [List.map_cons, List.map_map, Array.toList_append, Array.toList_push, List.append_assoc, List.singleton_append, Nat.add_zero, List.cons.injEq, List.append_cancel_left_eq, true_and]
          apply List.map_congr_left
          intro x _
          show Value.ref _ = Value.ref _
          rw [show s.heap.objs.size + 1 + x = s.heap.objs.size + x.succ by omega]
        have h2 := h
        rw [← e] at h2
        exact h2
      · rcases j with _ | j
        · have e' : a = b := by simpa using e
          subst e'
          exact hk _ _ (Heap.get?_push_size _ rfl)
        · have := hg j b (by simpa using e)
          have e2 : (s.heap.push { cls := .type "list_iterator", data := .fields #[.ref a, .int 0 0] }).objs.size + j = s.heap.objs.size + (j + 1) := by rw [z1]; omega
          rw [← e2]
          exact this
theorem iterAll_lists {l : List Addr} {s : Shared} {Q : List Value → Shared → Prop} (hl : ∀ a ∈ l, ∃ items, s.heap.IsList a items)
    (hQ : ∀ h', h'.objs.size = s.heap.objs.size + l.length → (∀ (j : Nat) a, l[j]? = some a → h'.get? (s.heap.objs.size + j) = some { cls := .type "list_iterator", data := .fields #[.ref a, .int 0 0] }) →
      (∀ c o, s.heap.get? c = some o → h'.get? c = some o) → Q (itersAt s.heap.objs.size l.length) { s with heap := h' }) :
    wpAny (model prog w) A (Builtin.SmallTypes.iterAll (l.map Value.ref)) Q E s := by
  unfold Builtin.SmallTypes.iterAll
  refine wpAny_bind (iter_loop l #[] s _ hl fun h' a b c => wpAny_pure ?_)
  simpa using hQ h' a b c
abbrev itO (a : Addr) : Obj := { cls := .type "list_iterator", data := .fields #[.ref a, .int 0 0] }
theorem meets_zipN {a0 : Addr} {l : List Addr} (hsz : (a0 :: l).length ≤ sizeLine) :
    Meets (Builtin.«zip.__new__» ⟨.type "zip" :: Value.ref a0 :: l.map Value.ref, []⟩) (fun _ R s => (∀ a ∈ a0 :: l, ∃ items, s.heap.IsList a items) ∧
      ∀ h', h'.objs.size = s.heap.objs.size + (a0 :: l).length + 3 → (∀ (j : Nat) a, (a0 :: l)[j]? = some a → h'.get? (s.heap.objs.size + j) = some (itO a)) →
        IsTupA h' (s.heap.objs.size + (a0 :: l).length) (itersAt s.heap.objs.size (a0 :: l).length).toArray → (∃ vt, IsTupA h' (s.heap.objs.size + (a0 :: l).length + 1) vt ∧ vt.size = (a0 :: l).length) →
        IsZipB h' (s.heap.objs.size + (a0 :: l).length + 2) (s.heap.objs.size + (a0 :: l).length) (s.heap.objs.size + (a0 :: l).length + 1) .none (.bool false) →
        (∀ c o, s.heap.get? c = some o → h'.get? c = some o) →
        R (.ok (.ret (.ref (s.heap.objs.size + (a0 :: l).length + 2)))) { s with heap := h' }) :=
  .of_wp fun prog w A R s h => by
    obtain ⟨hl, h⟩ := h
    unfold Builtin.«zip.__new__»
    refine wpAny_bind (wpAny_of_eq (newClass_zip _) ?_)
    try dsimp only
    show wpAny _ _ (Builtin.SmallTypes.iterAll ((a0 :: l).map Value.ref) >>= _) _ _ _
    refine wpAny_bind (iterAll_lists hl fun h1 z1 g1 k1 => ?_)
    have hlen : (itersAt s.heap.objs.size (a0 :: l).length).length = (a0 :: l).length := by simp [itersAt]
    refine wpAny_bind (wpAny_newTuple ?_ (by rw [hlen]; exact hsz))
    refine wpAny_bind (wpAny_newTuple ?_ (by rw [List.length_map, hlen]; exact hsz))
    show wpAny _ _ (newObj (.type "zip") (.fields #[.none, .bool false, .bool false, .ref _, .ref _]) >>= _) _ _ _
    refine wpAny_bind (wpAny_newObj_type ?_)
    refine wpAny_pure ⟨_, rfl, ?_⟩
    have w1 := Heap.size_push h1 { cls := .type "tuple", data := .seq (itersAt s.heap.objs.size (a0 :: l).length).toArray }
    have w2 := Heap.size_push (h1.push { cls := .type "tuple", data := .seq (itersAt s.heap.objs.size (a0 :: l).length).toArray }) { cls := .type "tuple", data := .seq ((itersAt s.heap.objs.size (a0 :: l).length).map fun _ => Value.none).toArray }
    rw [w1] at w2
    have w3 : ((h1.push { cls := .type "tuple", data := .seq (itersAt s.heap.objs.size (a0 :: l).length).toArray }).push { cls := .type "tuple", data := .seq ((itersAt s.heap.objs.size (a0 :: l).length).map fun _ => Value.none).toArray }).objs.size = h1.objs.size + 2 := w2
    have h := h (((h1.push { cls := .type "tuple", data := .seq (itersAt s.heap.objs.size (a0 :: l).length).toArray }).push { cls := .type "tuple", data := .seq ((itersAt s.heap.objs.size (a0 :: l).length).map fun _ => Value.none).toArray }).push
      { cls := .type "zip", data := .fields #[.none, .bool false, .bool false, .ref h1.objs.size, .ref (h1.push { cls := .type "tuple", data := .seq (itersAt s.heap.objs.size (a0 :: l).length).toArray }).objs.size] })
      (by rw [Heap.size_push, w3, z1]) (fun j a e => Heap.get?_push_of_some _ (Heap.get?_push_of_some _ (Heap.get?_push_of_some _ (g1 j a e)))) (by rw [← z1]; exact Heap.get?_push_of_some _ (Heap.get?_push_of_some _ (Heap.get?_push_size _ rfl)))
      ⟨((itersAt s.heap.objs.size (a0 :: l).length).map fun _ => Value.none).toArray, by rw [← z1, ← w1]; exact Heap.get?_push_of_some _ (Heap.get?_push_size _ rfl), by rw [List.size_toArray, List.length_map, hlen]⟩
      (by rw [← z1, ← w3, ← w1]; exact Heap.get?_push_size _ rfl)
      (fun c o e => Heap.get?_push_of_some _ (Heap.get?_push_of_some _ (Heap.get?_push_of_some _ (k1 c o e))))
    rw [← z1, ← w3] at h
    exact h
/-- zip(*lists), one or more -/
theorem zipN_begins {l : List Addr} {s : Shared} {Q : Value → Shared → Prop} (h0 : 0 < l.length) (hsz : l.length ≤ sizeLine) (hl : ∀ a ∈ l, ∃ items, s.heap.IsList a items)
    (hQ : ∀ h', h'.objs.size = s.heap.objs.size + l.length + 3 → (∀ (j : Nat) a, l[j]? = some a → h'.get? (s.heap.objs.size + j) = some (itO a)) →
        IsTupA h' (s.heap.objs.size + l.length) (itersAt s.heap.objs.size l.length).toArray → (∃ vt, IsTupA h' (s.heap.objs.size + l.length + 1) vt ∧ vt.size = l.length) →
        IsZipB h' (s.heap.objs.size + l.length + 2) (s.heap.objs.size + l.length) (s.heap.objs.size + l.length + 1) .none (.bool false) →
        (∀ c o, s.heap.get? c = some o → h'.get? c = some o) → Q (.ref (s.heap.objs.size + l.length + 2)) { s with heap := h' }) :
    wpAny (model prog w) A (call (.type "zip") (l.map Value.ref)) Q E s := by
  cases l with
  | nil => exact absurd h0 (Nat.lt_irrefl 0)
  | cons a0 l =>
    refine callType_new F.called_zip (by decide) (by kernel_rfl) (newCall_zipN _ _) (fun obj => by kernel_rfl) F.entry_zip_new (meets_zipN hsz) ⟨hl, fun h' z g t o zz k => ?_⟩
    exact ⟨⟨_, zz, rfl⟩, hQ h' z g t o zz k⟩
end
end Sd

namespace Sd
open PySem PySem.Spec PyProof.Rows L2
/-! ### enumerate(zip(*lists)) begins -/
theorem meets_enumZ {z TI TO : Addr} {f0 b : Value} :
    Meets (Builtin.«enumerate.__new__» ⟨[.type "enumerate", .ref z], []⟩) (fun _ R s => IsZipB s.heap z TI TO f0 b ∧
      R (.ok (.ret (.ref s.heap.objs.size))) { s with heap := s.heap.push { cls := .type "enumerate", data := .fields #[.none, .bool false, .ref z, rawInt 0, .none, .none] } }) :=
  .of_wp fun prog w A R s h => by
    obtain ⟨hp, g, d, tk, os⟩ := s; obtain ⟨h1, h⟩ := h
    have hsub := sub_enumerate
    have go : ∀ {A' : Around} {E : Value → Shared → Prop} {Q : Value → Shared → Prop}, Q (.ref z) ⟨hp, g, d, tk, os⟩ → wpAny (model prog w) A' (pyIter (.ref z)) Q E ⟨hp, g, d, tk, os⟩ :=
      fun q => wpAny_pyIter_slot (s := ⟨hp, g, d, tk, os⟩) ⟨_, h1, rfl⟩ F.slot_zip_iter (wpAny_call_entry F.slot_zip_iter ⟨_, h1, rfl⟩ F.entry_zip_iter (by
        show wpAny _ _ (ret (.ref z)) _ _ _
        exact wpAny_pure ⟨_, rfl, "zip", _, ⟨_, h1, rfl⟩, F.slot_zip_next.lookup, q⟩) (F.args_zip_iter_1 _))
    wp_walk using go
    refine wpAny_stack_any fun st => wpAny_pure ?_
    split
    · rename_i c _ _ _ _ _
      cases (c == Value.type "enumerate") <;>
      · wp_walk using go
        exact ⟨_, rfl, h⟩
    · wp_walk using go
      exact ⟨_, rfl, h⟩
section
variable {P : Program} {w : World} {A : Around} {E : Value → Shared → Prop} {s : Shared}
theorem enumZ_begins {z TI TO : Addr} {f0 b : Value} {Q : Value → Shared → Prop} (hz : IsZipB s.heap z TI TO f0 b)
    (h : ∀ h', IsEnum h' s.heap.objs.size z 0 .none → (∀ b u, s.heap.get? b = some u → h'.get? b = some u) → Q (.ref s.heap.objs.size) { s with heap := h' }) :
    wpAny (model P w) A (call (.type "enumerate") [.ref z]) Q E s := by
  refine callType_new F.called_enumerate (by decide) (F.typeCall_enumerate_1 _) (F.newCall_enumerate_1 _) (fun obj => F.args_object_init_2 obj _) F.entry_enumerate_new meets_enumZ ⟨hz, ?_⟩
  have he : IsEnum (s.heap.push { cls := .type "enumerate", data := .fields #[.none, .bool false, .ref z, rawInt 0, .none, .none] }) s.heap.objs.size z 0 .none := Heap.get?_push_size s.heap rfl
  exact ⟨⟨_, he, rfl⟩, h _ he fun b u x => Heap.get?_push_of_some _ x⟩
end
section
variable {M : Model} {A : Around} {E : Value → Shared → Prop} {s : Shared} {env : Env} {pos p : Pos} {e : Expr} {T : String} {Q : Value → Shared → Prop}
/-- T(*e), T a type of the machine -/
theorem callWith_typeS (h : wpAny M A (eval e env) (fun v s₁ => PySem.W.StarOf M A E v (fun vs s₂ => wpAny M A (call (.type T) vs) Q E s₂) s₁) E s)
    (he : starEach [.Starred e p] env = [(true, eval e env)] := by rfl) :
    wpAny M A (callWith pos (.type T) [] (backTo pos (starEach [.Starred e p] env)) []) Q E s := by
  rw [he]
  unfold callWith
  refine wpAny_bind (wpAny_holding (wpAny_mono (PySem.W.ks_lone (Q := fun a s₂ => wpAny M A (call (.type T) a.pos a.kw) Q E s₂) h) (fun a s₁ h₁ => wpAny_bind (wpAny_standAt ?_)) fun _ _ x => x))
  refine wpAny_bind (wpAny_pure ?_)
  exact wpAny_bind (wpAny_mono (wpAny_operate' h₁) (fun r s₂ hr => wpAny_bind (wpAny_holding (wpAny_point (wpAny_pure hr)))) fun _ _ x => x)
end
end Sd

namespace Sd
open PySem PySem.Spec PyProof.Rows L2
theorem vals_refs : ∀ {l : List Addr} {us : List Value}, Vals (l.map V.ref) us → us = l.map Value.ref
  | [], _, .nil => rfl
  | a :: l, _, .cons (b := u) r h => by
    obtain rfl : u = Value.ref a := r
    rw [vals_refs h]
    rfl
theorem nne {a b : Nat} (h : a < b ∨ b < a) : a ≠ b := by omega
/-- a list L of lists, one or more, each of n items -/
def ListsOf (K : PySem.W.Frag) (H : Hp) (L : Addr) (as : List Addr) (n : Nat) : Prop :=
  SqL K H L (as.map V.ref) ∧ 0 < as.length ∧ ∀ a ∈ as, ∃ xs, SqL K H a xs ∧ xs.length = n
def iEnumZ (K : PySem.W.Frag) (te : TE) : TI := fun σ H R => te σ H fun x H1 => ∃ L n as, x = .ref L ∧ ListsOf K H1 L as n ∧ R (Iez K as.length n fun k => as.getD k 0) H1
theorem pi_enumZ {X : Cx} {e : Expr} {te : TE} {p p2 sp pos pos2 tpos : Pos} {elts : List Expr} {kk : Nat} (hg : Gl X "enumerate") (hm : X.mg "enumerate" = none) (hg2 : Gl X "zip") (hm2 : X.mg "zip" = none) (he : PE X e te)
    (hs : starEach [.Call (.Name "zip" p2) [.Starred e sp] [] pos2] X.env = [(false, eval (.Call (.Name "zip" p2) [.Starred e sp] [] pos2) X.env)] := by rfl) (hst : starEach [.Starred e sp] X.env = [(true, eval e X.env)] := by rfl) :
    PI X (.Tuple elts kk tpos) (.Call (.Name "enumerate" p) [.Call (.Name "zip" p2) [.Starred e sp] [] pos2] [] pos) (iEnumZ X.K te) := by
  refine ⟨fun pins s σ H R I h => ?_⟩
  refine Call_ (ld_blt I hg hm boot_enumerate (PyProof.Rows.callWith_type1 (PyProof.Rows.args_cons ?_ hs) hs rfl))
  refine Call_ (ld_blt I hg2 hm2 PyProof.Rows.boot_zip (callWith_typeS (thn (he.run pins s σ H _ I h) fun v s1 ⟨y, H1, I1, ry, L, n, as, ey, ⟨hL, h0, hls⟩, q⟩ => ?_) hst))
  subst ey
  obtain rfl : v = Value.ref L := ry
  obtain ⟨itsL, rL, _, hzL⟩ := I1.list hL
  rw [List.length_map] at hzL
  refine StX.star_lst I1 hL fun us s2 I2 rv => ?_
  rw [vals_refs rv]
  have hal : ∀ a ∈ as, ∃ items, s2.heap.IsList a items := fun a ha => by
    obtain ⟨xs, hx, _⟩ := hls a ha
    obtain ⟨its, _, pl, _⟩ := I2.list hx
    exact ⟨_, pl.isList⟩
  have hlt : ∀ k, k < as.length → @LT.lt Nat instLTNat (as.getD k 0) s2.heap.objs.size := fun k hk => by
    obtain ⟨items, o, ho, _⟩ := hal (as.getD k 0) (by rw [List.getD_eq_getElem?_getD, List.getElem?_eq_getElem hk]; exact List.getElem_mem hk)
    exact Heap.lt_size ho
  refine zipN_begins h0 hzL hal fun h' hz hits hTI hTO hzz hk => ?_
  refine PyProof.Rows.args_nil (enumZ_begins hzz fun h'' hen hk2 => ?_)
  rw [show ({ s2 with heap := h' } : Shared).heap.objs.size = s2.heap.objs.size + as.length + 3 from hz] at hen ⊢
  refine wpAny_pyIter_enum hen ?_
  have I3 : Inv X pins σ H1 { s2 with heap := h'' } := I2.kept (t' := s2.toks) fun b u x => hk2 b u (hk b u x)
  have S : ZipSepN (s2.heap.objs.size + as.length + 2) (s2.heap.objs.size + as.length) (s2.heap.objs.size + as.length + 1) as.length (fun k => s2.heap.objs.size + k) (fun k => [s2.heap.objs.size + k, as.getD k 0]) := by
    refine ⟨nne (by omega), nne (by omega), nne (by omega), fun k hk => nne (by omega), fun k hk => by simp, fun k hk => ?_, fun k hk => ?_, fun k l hk hl hne => ?_⟩
    · have := hlt k hk
      simp only [List.mem_cons, List.not_mem_nil, or_false, not_or]
      exact ⟨nne (by omega), nne (by omega)⟩
    · have := hlt k hk
      simp only [List.mem_cons, List.not_mem_nil, or_false, not_or]
      exact ⟨nne (by omega), nne (by omega)⟩
    · have := hlt l hl
      simp only [List.mem_cons, List.not_mem_nil, or_false, not_or]
      exact ⟨nne (by omega), nne (by omega)⟩
  refine ⟨s2.heap.objs.size + as.length + 3, _, _, _, H1, rfl, I3, turn_enumZ (n := n) (e := s2.heap.objs.size + as.length + 3) h0 hzL S (nne (by omega)) (nne (by omega)) (nne (by omega)) (fun j hj => nne (by omega)) (fun j hj => ?_) (fun j hj => ?_), ?_, fun b hb => ?_, q⟩
  · have := hlt j hj
    exact nne (by omega)
  · have := hlt j hj
    exact nne (by omega)
  · refine ⟨⟨.none, hen⟩, ⟨.none, .bool false, hk2 _ _ hzz, .inl rfl⟩, hk2 _ _ hTI, ?_, fun k hk' => ?_⟩
    · obtain ⟨vt, h1, h2⟩ := hTO
      exact ⟨vt, hk2 _ _ h1, h2⟩
    · exact ⟨_, hk2 _ _ (hits k _ (by rw [List.getD_eq_getElem?_getD, List.getElem?_eq_getElem hk']; rfl)), rfl, rfl⟩
  · have hle : s2.heap.objs.size ≤ b := by
      simp only [List.mem_cons, List.mem_map, List.mem_range] at hb
      rcases hb with rfl | rfl | rfl | rfl | ⟨k, hk', rfl⟩ <;> omega
    exact I2.fpOk hle (I2.hok.fresh hle)
theorem enumZ {X : Cx} {K : PySem.W.Frag} {e : Expr} {te : TE} {p p2 sp pos pos2 tpos : Pos} {elts : List Expr} {kk : Nat} (hK : X.K = K) (hg : Gl X "enumerate") (hm : X.mg "enumerate" = none) (hg2 : Gl X "zip") (hm2 : X.mg "zip" = none) (he : PE X e te)
    (hs : starEach [.Call (.Name "zip" p2) [.Starred e sp] [] pos2] X.env = [(false, eval (.Call (.Name "zip" p2) [.Starred e sp] [] pos2) X.env)] := by rfl) (hst : starEach [.Starred e sp] X.env = [(true, eval e X.env)] := by rfl) :
    PI X (.Tuple elts kk tpos) (.Call (.Name "enumerate" p) [.Call (.Name "zip" p2) [.Starred e sp] [] pos2] [] pos) (iEnumZ K te) := hK ▸ pi_enumZ hg hm hg2 hm2 he hs hst
/-- a new tuple of the i-th items, in a new pair with i -/
def YEz (K : PySem.W.Frag) (N : Nat) (a : Nat → Addr) : Nat → Hp → V → Hp → Prop := fun i H v H' =>
  ∃ T1 T2 ys, v = .ref T2 ∧ H T1 = none ∧ H T2 = none ∧ T1 ≠ T2 ∧ H' = upd (upd H T1 (.tup ys)) T2 (.tup [.int (i : Nat), .ref T1]) ∧ ys.length = N ∧ ∀ k, k < N → ∀ xs, SqL K H (a k) xs → ys[k]? = xs[i]?
theorem walk_enumZ {K : PySem.W.Frag} {N n : Nat} {a : Nat → Addr} : Walk (Iez K N n a) n (fun H => ∀ k, k < N → ∃ xs, SqL K H (a k) xs ∧ xs.length = n) (YEz K N a) :=
  ⟨fun i _ hi q => ⟨hi, q⟩, fun _ q => ⟨rfl, q⟩, fun _ _ _ _ _ _ y => y⟩
/-- the lists that were told stand as lists by number -/
theorem ListsOf.at {K : PySem.W.Frag} {H : Hp} {L : Addr} {as : List Addr} {n : Nat} (h : ListsOf K H L as n) : ∀ k, k < as.length → ∃ xs, SqL K H (as.getD k 0) xs ∧ xs.length = n := fun k hk => by
  refine h.2.2 _ ?_
  rw [List.getD_eq_getElem?_getD, List.getElem?_eq_getElem hk]
  exact List.getElem_mem hk
end Sd

namespace Sd
open PySem PySem.Spec PyProof.Rows L2
/-! ### min and max of a tuple of ints -/
theorem reads_ints {h : Heap} : ∀ {ns : List Int} {us : List Value}, Vals (ns.map V.int) us → PySem.ReadsAll h us (ns.map PyData.int) []
  | [], _, .nil => .nil
  | n :: ns, _, .cons r rs => by
    obtain ⟨t, rfl⟩ := r
    exact .cons (.int n t) (reads_ints rs)
theorem depth_ints : ∀ ns : List Int, PyData.depthAll (ns.map PyData.int) = 0
  | [] => by simp [PyData.depthAll]
  | n :: ns => by
    have := depth_ints ns
    simp [PyData.depthAll, PyData.depth, this]
theorem alikeInts (ns : List Int) : PySem.W.AlikeAll (ns.map PyData.int) := by
  refine ⟨fun x hx y hy => ?_, fun x hx => ?_⟩
  · obtain ⟨i, _, rfl⟩ := List.mem_map.mp hx
    obtain ⟨j, _, rfl⟩ := List.mem_map.mp hy
    rfl
  · obtain ⟨i, _, rfl⟩ := List.mem_map.mp hx
    exact fun e => nomatch e
theorem foldl_min (n : Int) (ns : List Int) : ns.foldl min n ∈ n :: ns ∧ ∀ y ∈ n :: ns, ns.foldl min n ≤ y := by
  induction ns generalizing n with
  | nil => exact ⟨by simp, fun y hy => by simp at hy; subst hy; exact Int.le_refl _⟩
  | cons a ns ih =>
    obtain ⟨h1, h2⟩ := ih (min n a)
    refine ⟨?_, fun y hy => ?_⟩
    · show ns.foldl min (min n a) ∈ _
      rcases List.mem_cons.mp h1 with e | e
      · rw [e]
        by_cases h : n ≤ a
        · rw [Int.min_eq_left h]; simp
        · rw [Int.min_eq_right (by omega)]; simp
      · simp [e]
    · show ns.foldl min (min n a) ≤ y
      have h3 := h2 (min n a) (by simp)
      rcases List.mem_cons.mp hy with rfl | hy
      · omega
      · rcases List.mem_cons.mp hy with rfl | hy
        · omega
        · exact h2 y (by simp [hy])
theorem foldl_max (n : Int) (ns : List Int) : ns.foldl max n ∈ n :: ns ∧ ∀ y ∈ n :: ns, y ≤ ns.foldl max n := by
  induction ns generalizing n with
  | nil => exact ⟨by simp, fun y hy => by simp at hy; subst hy; exact Int.le_refl _⟩
  | cons a ns ih =>
    obtain ⟨h1, h2⟩ := ih (max n a)
    refine ⟨?_, fun y hy => ?_⟩
    · show ns.foldl max (max n a) ∈ _
      rcases List.mem_cons.mp h1 with e | e
      · rw [e]
        by_cases h : n ≤ a
        · rw [Int.max_eq_right h]; simp
        · rw [Int.max_eq_left (by omega)]; simp
      · simp [e]
    · show y ≤ ns.foldl max (max n a)
      have h3 := h2 (max n a) (by simp)
      rcases List.mem_cons.mp hy with rfl | hy
      · omega
      · rcases List.mem_cons.mp hy with rfl | hy
        · omega
        · exact h2 y (by simp [hy])
def rMinT (K : PySem.W.Frag) : List V → Hp → VK → Prop := fun vs H Q => ∃ (a : Addr) (ns : List Int), vs = [V.ref a] ∧ SqT K H a (ns.map V.int) ∧ 0 < ns.length ∧ ∀ m, m ∈ ns → (∀ y, y ∈ ns → m ≤ y) → Q (.int m) H
def rMaxT (K : PySem.W.Frag) : List V → Hp → VK → Prop := fun vs H Q => ∃ (a : Addr) (ns : List Int), vs = [V.ref a] ∧ SqT K H a (ns.map V.int) ∧ 0 < ns.length ∧ ∀ m, m ∈ ns → (∀ y, y ∈ ns → y ≤ m) → Q (.int m) H
theorem cr_minT {X : Cx} {K : PySem.W.Frag} (hK : X.K = K) (hc : X.calm = true) {k : Nat} (hr : Room k X.A) : CallR X (.builtin "min") (rMinT K) := by
  subst hK
  intro pins s σ H vs us Q I r h
  obtain ⟨a, ns, rfl, hs, hne, q⟩ := h
  obtain ⟨its, rv, hl, _⟩ := I.tuple hs
  rw [Vals.ref1 r]
  cases ns with
  | nil => exact absurd hne (Nat.lt_irrefl 0)
  | cons n ns =>
    have hu := hr.units
    have hd := depth_ints (n :: ns)
    refine PySem.W.min_tuple_data (vs := its.toArray) (x := .int n) (xs := ns.map .int) (as := []) (I.ok.hd hc) hl (by simpa using reads_ints rv) (alikeInts (n :: ns)) ?_ fun i v h' tk bs hv hR kp => ?_
    · have e : PyData.depthAll (PyData.int n :: ns.map PyData.int) = 0 := hd
      omega
    · rw [PySem.W.minD_ints] at hR
      obtain ⟨h1, h2⟩ := foldl_min n ns
      cases hR with
      | int _ t => exact ⟨.int _, H, I.kept kp, ⟨t, rfl⟩, q _ h1 h2⟩
theorem cr_maxT {X : Cx} {K : PySem.W.Frag} (hK : X.K = K) (hc : X.calm = true) {k : Nat} (hr : Room k X.A) : CallR X (.builtin "max") (rMaxT K) := by
  subst hK
  intro pins s σ H vs us Q I r h
  obtain ⟨a, ns, rfl, hs, hne, q⟩ := h
  obtain ⟨its, rv, hl, _⟩ := I.tuple hs
  rw [Vals.ref1 r]
  cases ns with
  | nil => exact absurd hne (Nat.lt_irrefl 0)
  | cons n ns =>
    have hu := hr.units
    have hd := depth_ints (n :: ns)
    refine PySem.W.max_tuple_data (vs := its.toArray) (x := .int n) (xs := ns.map .int) (as := []) (I.ok.hd hc) hl (by simpa using reads_ints rv) (alikeInts (n :: ns)) ?_ fun i v h' tk bs hv hR kp => ?_
    · have e : PyData.depthAll (PyData.int n :: ns.map PyData.int) = 0 := hd
      omega
    · rw [PySem.W.maxD_ints] at hR
      obtain ⟨h1, h2⟩ := foldl_max n ns
      cases hR with
      | int _ t => exact ⟨.int _, H, I.kept kp, ⟨t, rfl⟩, q _ h1 h2⟩
end Sd

namespace Sd
open PySem PySem.Spec PyProof.Rows L2

/-! ### the text of a list of ints tells the list -/
def tailL : List (List Nat) → List Nat
  | [] => []
  | t :: r => 44 :: 32 :: (t ++ tailL r)
theorem tl_textFrom : ∀ (ts : List Str) (k : Nat) (acc : Str), TL.tl (textFrom (k + 1) acc ts) = TL.tl acc ++ tailL (ts.map TL.tl)
  | [], _, acc => (List.append_nil _).symm
  | t :: r, k, acc => by
    show TL.tl (textFrom (k + 1 + 1) (acc ++ ((if k + 1 > 0 then ", " else "" : String) : Str) ++ t) r) = _
    rw [tl_textFrom r (k + 1) _, if_pos (Nat.succ_pos k), TL.tl_append, TL.tl_append]
    show TL.tl acc ++ TL.tl ((", " : String) : Str) ++ TL.tl t ++ tailL (r.map TL.tl) = TL.tl acc ++ 44 :: 32 :: (TL.tl t ++ tailL (r.map TL.tl))
    rw [show TL.tl ((", " : String) : Str) = [44, 32] from tl_ofString ", "]
    simp [List.append_assoc]
def bodyL : List (List Nat) → List Nat
  | [] => []
  | t :: r => t ++ tailL r
theorem tl_listText (ts : List Str) : TL.tl (listText ts) = 91 :: (bodyL (ts.map TL.tl) ++ [93]) := by
  unfold listText
  rw [TL.tl_append, show TL.tl (("]" : String) : Str) = [93] from tl_ofString "]"]
  cases ts with
  | nil =>
    show TL.tl (("[" : String) : Str) ++ [93] = _
    rw [show TL.tl (("[" : String) : Str) = [91] from tl_ofString "["]
    rfl
  | cons t r =>
    show TL.tl (textFrom 1 ((("[" : String) : Str) ++ ((if 0 > 0 then ", " else "" : String) : Str) ++ t) r) ++ [93] = _
    rw [tl_textFrom r 0 _, if_neg (Nat.lt_irrefl 0), TL.tl_append, TL.tl_append, show TL.tl (("[" : String) : Str) = [91] from tl_ofString "[", show TL.tl (("" : String) : Str) = [] from tl_ofString ""]
    rfl
def NoStop (t : List Nat) : Prop := ∀ c ∈ t, c ≠ 44 ∧ c ≠ 93
theorem stop_cut : ∀ {t u X Y : List Nat}, NoStop t → NoStop u → (∃ x X', X = x :: X' ∧ (x = 44 ∨ x = 93)) → (∃ y Y', Y = y :: Y' ∧ (y = 44 ∨ y = 93)) → t ++ X = u ++ Y → t = u ∧ X = Y
  | [], [], _, _, _, _, _, _, e => ⟨rfl, e⟩
  | [], c :: u, X, Y, _, hu, ⟨x, X', hx, h1⟩, _, e => by
    rw [hx] at e
    have := List.cons.inj (show x :: X' = c :: (u ++ Y) from e)
    have h2 := hu c List.mem_cons_self
    omega
  | c :: t, [], X, Y, ht, _, _, ⟨y, Y', hy, h1⟩, e => by
    rw [hy] at e
    have := List.cons.inj (show c :: (t ++ X) = y :: Y' from e)
    have h2 := ht c List.mem_cons_self
    omega
  | c :: t, d :: u, X, Y, ht, hu, hX, hY, e => by
    have z := List.cons.inj (show c :: (t ++ X) = d :: (u ++ Y) from e)
    obtain ⟨a, b⟩ := stop_cut (fun x hx => ht x (List.mem_cons_of_mem _ hx)) (fun x hx => hu x (List.mem_cons_of_mem _ hx)) hX hY z.2
    exact ⟨by rw [z.1, a], b⟩
theorem tail_stop (a : List (List Nat)) : ∃ x X', tailL a ++ [93] = x :: X' ∧ (x = 44 ∨ x = 93) := by
  cases a with
  | nil => exact ⟨93, [], rfl, .inr rfl⟩
  | cons t r => exact ⟨44, _, rfl, .inl rfl⟩
theorem tail_inj : ∀ {a b : List (List Nat)}, (∀ t ∈ a, NoStop t) → (∀ t ∈ b, NoStop t) → tailL a ++ [93] = tailL b ++ [93] → a = b
  | [], [], _, _, _ => rfl
  | [], u :: v, _, _, e => by
    have := (List.cons.inj (show 93 :: [] = 44 :: _ from e)).1
    omega
  | t :: r, [], _, _, e => by
    have := (List.cons.inj (show 44 :: _ = 93 :: [] from e)).1
    omega
  | t :: r, u :: v, ha, hb, e => by
    have e2 := (List.cons.inj (List.cons.inj (show 44 :: 32 :: (t ++ tailL r ++ [93]) = 44 :: 32 :: (u ++ tailL v ++ [93]) from e)).2).2
    rw [List.append_assoc, List.append_assoc] at e2
    obtain ⟨x, y⟩ := stop_cut (ha t List.mem_cons_self) (hb u List.mem_cons_self) (tail_stop r) (tail_stop v) e2
    rw [x, tail_inj (fun z hz => ha z (List.mem_cons_of_mem _ hz)) (fun z hz => hb z (List.mem_cons_of_mem _ hz)) y]
theorem body_inj : ∀ {a b : List (List Nat)}, (∀ t ∈ a, NoStop t ∧ t ≠ []) → (∀ t ∈ b, NoStop t ∧ t ≠ []) → bodyL a ++ [93] = bodyL b ++ [93] → a = b
  | [], [], _, _, _ => rfl
  | [], u :: v, _, hb, e => by
    obtain ⟨h1, h2⟩ := hb u List.mem_cons_self
    cases u with
    | nil => exact absurd rfl h2
    | cons c u =>
      have := (List.cons.inj (show 93 :: [] = c :: _ from e)).1
      have := h1 c List.mem_cons_self
      omega
  | t :: r, [], ha, _, e => by
    obtain ⟨h1, h2⟩ := ha t List.mem_cons_self
    cases t with
    | nil => exact absurd rfl h2
    | cons c u =>
      have := (List.cons.inj (show c :: _ = 93 :: [] from e)).1
      have := h1 c List.mem_cons_self
      omega
  | t :: r, u :: v, ha, hb, e => by
    have e2 : t ++ (tailL r ++ [93]) = u ++ (tailL v ++ [93]) := by
      rw [← List.append_assoc, ← List.append_assoc]
      exact e
    obtain ⟨x, y⟩ := stop_cut (ha t List.mem_cons_self).1 (hb u List.mem_cons_self).1 (tail_stop r) (tail_stop v) e2
    rw [x, tail_inj (fun z hz => (ha z (List.mem_cons_of_mem _ hz)).1) (fun z hz => (hb z (List.mem_cons_of_mem _ hz)).1) y]
theorem intL_stop (n : Int) : NoStop (intL n) ∧ intL n ≠ [] := ⟨fun c hc => ⟨fun e => intL_free (n := n) (s := 44) (.inl (by decide)) (by decide) (e ▸ hc), fun e => intL_free (n := n) (s := 93) (.inr (by decide)) (by decide) (e ▸ hc)⟩, intL_ne n⟩
theorem intL_inj {n m : Int} (h : intL n = intL m) : n = m := by
  by_cases h1 : n < 0
  · by_cases h2 : m < 0
    · rw [intL_neg h1, intL_neg h2] at h
      have := TL.numL_inj (List.cons.inj h).2
      omega
    · rw [intL_neg h1, intL_pos (by omega)] at h
      exact absurd (h ▸ List.mem_cons_self) (TL.numL_free (.inl (by decide)))
  · by_cases h2 : m < 0
    · rw [intL_pos (by omega), intL_neg h2] at h
      exact absurd (h ▸ List.mem_cons_self) (TL.numL_free (.inl (by decide)))
    · rw [intL_pos (by omega), intL_pos (by omega)] at h
      have := TL.numL_inj h
      omega
theorem map_intL_inj : ∀ {a b : List Int}, a.map intL = b.map intL → a = b
  | [], [], _ => rfl
  | [], _ :: _, h => by simp at h
  | _ :: _, [], h => by simp at h
  | x :: a, y :: b, h => by
    have z := List.cons.inj (show intL x :: a.map intL = intL y :: b.map intL from h)
    rw [intL_inj z.1, map_intL_inj z.2]
theorem tl_dI (ns : List Int) : TL.tl (dI ns).shown = 91 :: (bodyL (ns.map intL) ++ [93]) := by
  have e : (dI ns).shown = listText (PyData.shownAll (ns.map PyData.int)) := by
    unfold dI
    simp only [PyData.shown]
  rw [e, shownAll_map, tl_listText, List.map_map, List.map_map]
  refine congrArg (fun x => 91 :: (bodyL x ++ [93])) (List.map_congr_left fun n _ => ?_)
  show TL.tl (PyData.int n).shown = intL n
  simp only [PyData.shown]
  rw [str_int]
  rfl
theorem shown_inj {a b : List Int} (h : (dI a).shown = (dI b).shown) : a = b := by
  have e := congrArg TL.tl h
  rw [tl_dI, tl_dI] at e
  refine map_intL_inj (body_inj (fun t ht => ?_) (fun t ht => ?_) (List.cons.inj e).2)
  · obtain ⟨n, _, rfl⟩ := List.mem_map.mp ht
    exact intL_stop n
  · obtain ⟨n, _, rfl⟩ := List.mem_map.mp ht
    exact intL_stop n

/-! ### how many there are -/
theorem nodup_le {α : Type} [DecidableEq α] : ∀ {L ns : List α}, L.Nodup → (∀ k ∈ L, k ∈ ns) → L.length ≤ ns.length
  | [], _, _, _ => Nat.zero_le _
  | x :: L, ns, hn, hm => by
    have hx := hm x List.mem_cons_self
    have hn2 := List.nodup_cons.mp hn
    have := nodup_le (L := L) (ns := ns.erase x) hn2.2 fun k hk => (List.mem_erase_of_ne (show k ≠ x from fun e => hn2.1 (by rw [← e]; exact hk))).mpr (hm k (List.mem_cons_of_mem _ hk))
    rw [List.length_erase_of_mem hx] at this
    have := List.length_pos_of_mem hx
    rw [List.length_cons]
    omega
theorem not_nodup {α : Type} [DecidableEq α] : ∀ {ns : List α}, ¬ ns.Nodup → ∃ ms : List α, ms.length < ns.length ∧ ∀ k ∈ ns, k ∈ ms
  | [], h => absurd List.nodup_nil h
  | x :: r, h => by
    by_cases hx : x ∈ r
    · exact ⟨r, Nat.lt_succ_self _, fun k hk => by
        rcases List.mem_cons.mp hk with e | e
        · rw [e]; exact hx
        · exact e⟩
    · have hr : ¬ r.Nodup := fun z => h (List.nodup_cons.mpr ⟨hx, z⟩)
      obtain ⟨ms, h1, h2⟩ := not_nodup hr
      refine ⟨x :: ms, Nat.succ_lt_succ h1, fun k hk => ?_⟩
      rcases List.mem_cons.mp hk with e | e
      · rw [e]; exact List.mem_cons_self
      · exact List.mem_cons_of_mem _ (h2 k e)
theorem len_iff {α : Type} [DecidableEq α] {L ns : List α} (hL : L.Nodup) (hm : ∀ k, k ∈ ns ↔ k ∈ L) : L.length = ns.length ↔ ns.Nodup := by
  constructor
  · intro e
    refine Classical.byContradiction fun h => ?_
    obtain ⟨ms, h1, h2⟩ := not_nodup h
    have := nodup_le hL fun k hk => h2 k ((hm k).mpr hk)
    omega
  · intro h
    have a := nodup_le hL fun k hk => (hm k).mpr hk
    have b := nodup_le h fun k hk => (hm k).mp hk
    omega
theorem len_lt {α : Type} [DecidableEq α] {L ns : List α} (hL : L.Nodup) (hm : ∀ k, k ∈ ns ↔ k ∈ L) (h : ¬ ns.Nodup) : L.length < ns.length := by
  have a := nodup_le hL fun k hk => (hm k).mpr hk
  have : ¬ L.length = ns.length := fun e => h ((len_iff hL hm).mp e)
  omega

/-! ### numbers for keys, in a dict -/
section
variable {κ α : Type} [DecidableEq κ]
theorem val_at {kvs : List (κ × V)} {k : κ} {v : V} (h : valV kvs k = some v) : ∃ j : Nat, kvs[j]? = some (k, v) := by
  unfold valV at h
  obtain ⟨p, h1, h2⟩ := Option.map_eq_some_iff.mp h
  have h3 : p.1 = k := of_decide_eq_true (p := p.1 = k) (List.find?_some (p := fun kv : κ × V => decide (kv.1 = k)) h1)
  obtain ⟨j, hj⟩ := List.mem_iff_getElem?.mp (List.mem_of_find?_eq_some h1)
  refine ⟨j, ?_⟩
  rw [hj, ← h2, ← h3]
structure Kn (kvs : List (κ × V)) (S : List κ) : Prop where
  pos : ∀ j : Nat, j < kvs.length → ∃ k, kvs[j]? = some (k, .int (j : Int))
  has : ∀ k ∈ S, ∃ v, valV kvs k = some v
  len : kvs.length ≤ S.length
theorem Kn.nil : Kn ([] : List (κ × V)) [] := ⟨fun j h => absurd h (Nat.not_lt_zero j), fun k h => (List.not_mem_nil h).elim, Nat.le_refl _⟩
theorem Kn.val {kvs : List (κ × V)} {S : List κ} {k : κ} {v : V} (h : Kn kvs S) (e : valV kvs k = some v) : ∃ n : Nat, v = .int (n : Int) ∧ n < kvs.length ∧ kvs[n]? = some (k, v) := by
  obtain ⟨j, hj⟩ := val_at e
  have hl := (List.getElem?_eq_some_iff.mp hj).1
  obtain ⟨k', hk⟩ := h.pos j hl
  rw [hj] at hk
  have z := Option.some.inj hk
  exact ⟨j, congrArg (·.2) z, hl, hj⟩
theorem Kn.inj {kvs : List (κ × V)} {S : List κ} {k k' : κ} {v : V} (h : Kn kvs S) (e : valV kvs k = some v) (e' : valV kvs k' = some v) : k = k' := by
  obtain ⟨n, h1, _, h3⟩ := h.val e
  obtain ⟨m, h4, _, h6⟩ := h.val e'
  rw [h1] at h4
  have := V.int.inj h4
  obtain rfl : n = m := by omega
  rw [h3] at h6
  exact congrArg (·.1) (Option.some.inj h6)
theorem Kn.old {kvs : List (κ × V)} {S : List κ} {k : κ} {v : V} (h : Kn kvs S) (e : valV kvs k = some v) : Kn kvs (S ++ [k]) := ⟨h.pos, fun k' hk => by
  rcases List.mem_append.mp hk with z | z
  · exact h.has k' z
  · rw [List.mem_singleton.mp z]
    exact ⟨v, e⟩, by rw [List.length_append]; have := h.len; omega⟩
theorem Kn.new {kvs : List (κ × V)} {S : List κ} {k : κ} (h : Kn kvs S) (e : valV kvs k = none) : Kn (kvs ++ [(k, .int (kvs.length : Int))]) (S ++ [k]) := by
  refine ⟨fun j hj => ?_, fun k' hk => ?_, by rw [List.length_append, List.length_append]; exact Nat.succ_le_succ h.len⟩
  · rw [List.length_append] at hj
    by_cases z : j < kvs.length
    · rw [List.getElem?_append_left z]
      exact h.pos j z
    · have : j = kvs.length := by
        have : ([(k, V.int (kvs.length : Int))] : List (κ × V)).length = 1 := rfl
        omega
      subst this
      rw [List.getElem?_append_right (Nat.le_refl _), Nat.sub_self]
      exact ⟨k, rfl⟩
  · rw [valV_snoc k k' _ kvs e]
    by_cases z : k' = k
    · rw [if_pos z]
      exact ⟨_, rfl⟩
    · rw [if_neg z]
      rcases List.mem_append.mp hk with y | y
      · exact h.has k' y
      · exact absurd (List.mem_singleton.mp y) z
def nOf (kvs : List (κ × V)) (k : κ) : Int := match valV kvs k with
  | some (.int n) => n
  | _ => 0
theorem Kn.of {kvs : List (κ × V)} {S : List κ} {k : κ} (h : Kn kvs S) (hk : k ∈ S) : valV kvs k = some (.int (nOf kvs k)) ∧ 0 ≤ nOf kvs k ∧ nOf kvs k < kvs.length := by
  obtain ⟨v, e⟩ := h.has k hk
  obtain ⟨n, h1, h2, _⟩ := h.val e
  have z : nOf kvs k = n := by
    unfold nOf
    rw [e, h1]
  rw [z, e, h1]
  exact ⟨rfl, by omega, by omega⟩
/-- ks number the items of xs: like ones alike, unlike ones not -/
structure Num (xs : List α) (ks : List Int) : Prop where
  len : ks.length = xs.length
  eq : ∀ i j : Nat, i < xs.length → j < xs.length → (ks[i]? = ks[j]? ↔ xs[i]? = xs[j]?)
  lo : ∀ k ∈ ks, 0 ≤ k ∧ k ≤ xs.length
theorem Kn.num {kvs : List (κ × V)} {xs : List α} {f : α → κ} (hf : ∀ a b, f a = f b → a = b) (h : Kn kvs (xs.map f)) : Num xs (xs.map fun x => nOf kvs (f x)) := by
  refine ⟨List.length_map .., fun i j hi hj => ?_, fun k hk => ?_⟩
  · rw [List.getElem?_map, List.getElem?_map, List.getElem?_eq_getElem hi, List.getElem?_eq_getElem hj]
    constructor
    · intro e
      have e : nOf kvs (f xs[i]) = nOf kvs (f xs[j]) := Option.some.inj e
      have a := h.of (List.mem_map.mpr ⟨xs[i], List.getElem_mem hi, rfl⟩)
      have b := h.of (List.mem_map.mpr ⟨xs[j], List.getElem_mem hj, rfl⟩)
      rw [e] at a
      rw [hf _ _ (h.inj a.1 b.1)]
    · intro e
      rw [Option.some.inj e]
  · obtain ⟨x, hx, rfl⟩ := List.mem_map.mp hk
    have a := h.of (List.mem_map.mpr ⟨x, hx, rfl⟩)
    have := h.len
    rw [List.length_map] at this
    omega
/-! ### how many keys -/
structure Cn (kvs : List (κ × V)) (S : List κ) : Prop where
  nd : (kvs.map (·.1)).Nodup
  mem : ∀ k, k ∈ S ↔ k ∈ kvs.map (·.1)
theorem Cn.nil : Cn ([] : List (κ × V)) [] := ⟨List.nodup_nil, fun k => Iff.rfl⟩
theorem any_mem {kvs : List (κ × V)} {k : κ} : (kvs.any fun kv => decide (kv.1 = k)) = true ↔ k ∈ kvs.map (·.1) := by
  rw [List.any_eq_true, List.mem_map]
  constructor
  · rintro ⟨p, h1, h2⟩
    exact ⟨p, h1, of_decide_eq_true h2⟩
  · rintro ⟨p, h1, h2⟩
    exact ⟨p, h1, decide_eq_true h2⟩
theorem Cn.put {kvs : List (κ × V)} {S : List κ} (h : Cn kvs S) (k : κ) (v : V) : Cn (putK kvs k v) (S ++ [k]) := by
  unfold putK
  by_cases z : (kvs.any fun kv => decide (kv.1 = k)) = true
  · rw [if_pos z]
    have e : (kvs.map fun kv => if kv.1 = k then (kv.1, v) else kv).map (·.1) = kvs.map (·.1) := by
      rw [List.map_map]
      refine List.map_congr_left fun p _ => ?_
      show (if p.1 = k then (p.1, v) else p).1 = p.1
      split <;> rfl
    refine ⟨by rw [e]; exact h.nd, fun k' => ?_⟩
    rw [e, List.mem_append, ← h.mem k']
    constructor
    · intro y
      rcases y with y | y
      · exact y
      · rw [List.mem_singleton.mp y]
        exact (h.mem k).mpr (any_mem.mp z)
    · exact .inl
  · rw [if_neg z, ]
    have hk : k ∉ kvs.map (·.1) := fun y => z (any_mem.mpr y)
    refine ⟨?_, fun k' => ?_⟩
    · rw [List.map_append, List.nodup_append]
      refine ⟨h.nd, List.nodup_cons.mpr ⟨List.not_mem_nil, List.nodup_nil⟩, fun a ha b hb e => ?_⟩
      rw [List.mem_singleton.mp hb] at e
      have e : a = k := e
      rw [e] at ha
      exact hk ha
    · rw [List.map_append, List.mem_append, List.mem_append, h.mem k']
      exact Iff.rfl
theorem Cn.all {kvs : List (κ × V)} {S : List κ} (h : Cn kvs S) : kvs.length = S.length ↔ S.Nodup := by
  have := len_iff h.nd h.mem
  rwa [List.length_map] at this
theorem Cn.less {kvs : List (κ × V)} {S : List κ} (h : Cn kvs S) (hn : ¬ S.Nodup) : kvs.length < S.length := by
  have := len_lt h.nd h.mem hn
  rwa [List.length_map] at this
theorem Cn.le {kvs : List (κ × V)} {S : List κ} (h : Cn kvs S) : kvs.length ≤ S.length := by
  have := nodup_le h.nd fun k hk => (h.mem k).mpr hk
  rwa [List.length_map] at this
end
end Sd

namespace Sd
open PySem PySem.Spec PyProof.Rows L2

theorem at_getN {r : List Int} {i : Nat} {z : Int} (e : z = (i : Int)) (h : i < r.length) : atI (r.map V.int) z = some (.int (r.getD i 0)) := by
  subst e
  refine atI_nat ?_
  rw [List.getElem?_map, List.getD_eq_getElem?_getD, List.getElem?_eq_getElem h]
  rfl
theorem at_lastN {xs : List V} {v : V} {n : Nat} (hl : xs.length = n + 1) (h : xs[n]? = some v) : atI xs (-1) = some v := by
  unfold atI ixN
  rw [if_neg (by decide), if_pos (by omega)]
  show xs[((-1 : Int) + (xs.length : Int)).toNat]? = _
  rw [show ((-1 : Int) + (xs.length : Int)).toNat = n by omega]
  exact h
theorem Prs.onto {H : Hp} {D : Addr} {us : List V} {o : HO} (e : H D = some (.lst us)) {vs : List V} {ps : List (Int × Int)} (h : Prs H vs ps) : Prs (upd H D o) vs ps := by
  induction h with
  | nil => exact .nil
  | cons h t ih => exact .cons (by rw [upd_ne fun z => by rw [z, e] at h; cases h]; exact h) ih
theorem LL.onto {H : Hp} {D : Addr} {vs : List V} {o : HO} (e : H D = some (.lst vs)) {ws : List V} {S : List (List Int)} (h : LL H ws S) (hs : ∀ v ∈ ws, v ∈ vs) : LL (upd H D o) ws S := by
  induction h with
  | nil => exact .nil
  | cons h t ih =>
    rename_i a r vs' S'
    refine .cons ?_ (ih fun v hv => hs v (List.mem_cons_of_mem _ hv))
    rw [upd_ne fun z => ?_]
    · exact h
    · rw [z, e] at h
      have e2 := Option.some.inj h
      injection e2 with e2
      have hm := hs _ List.mem_cons_self
      rw [e2] at hm
      obtain ⟨n, _, hn⟩ := List.mem_map.mp hm
      cases hn

/-! ### a dict of either kind of keys -/
def tDNewE : TE := fun _ H Q => (∀ p, H p = none → Q (.ref p) (upd H p (.dK []))) ∨ ∀ p, H p = none → Q (.ref p) (upd H p (.dT []))
theorem pe_dnewE {X : Cx} {pos : Pos} : PE X (.Dict [] [] pos) tDNewE := ⟨fun pins s σ H Q I h => h.elim (fun h => pe_dnewK.run pins s σ H Q I h) (fun h => pe_dnewT.run pins s σ H Q I h)⟩
def rLenE : List V → Hp → VK → Prop := fun xs H Q => ∃ a : Addr, xs = [.ref a] ∧ ((∃ kvs, H a = some (.dK kvs) ∧ Q (.int kvs.length) H) ∨ ∃ kvs, H a = some (.dT kvs) ∧ Q (.int kvs.length) H)
theorem cr_lenE {X : Cx} : CallR X (.builtin "len") rLenE := by
  intro pins s σ H xs us Q I r h
  obtain ⟨a, rfl, h⟩ := h
  rcases h with ⟨kvs, e, q⟩ | ⟨kvs, e, q⟩
  · exact call_lenD pins s σ H _ us Q I r ⟨a, kvs, rfl, e, q⟩
  · exact call_len_dT pins s σ H _ us Q I r ⟨a, kvs, rfl, e, q⟩
/-- d.setdefault(y, z), the keys of either kind -/
def DSd (H : Hp) (a : Addr) (y z : V) (Q : VK) : Prop :=
  (∃ kvs k, H a = some (.dK kvs) ∧ y = kV k ∧ kvs.length < sizeLine ∧ (∀ v, valV kvs k = some v → Q v H) ∧ (valV kvs k = none → Q z (upd H a (.dK (kvs ++ [(k, z)]))))) ∨
  ∃ kvs k b, H a = some (.dT kvs) ∧ y = .ref b ∧ H b = some (.tup (k.map kV)) ∧ kvs.length < sizeLine ∧ (∀ v, valV kvs k = some v → Q v H) ∧ (valV kvs k = none → Q z (upd H a (.dT (kvs ++ [(k, z)]))))
def tDSdE (td ty tx : TE) : TE := fun σ H Q => td σ H fun x H1 => ∃ a, x = .ref a ∧ IsD H1 a ∧ ty σ H1 fun y H2 => tx σ H2 fun z H3 => DSd H3 a y z Q
section
variable {X : Cx} {o e f : Expr} {td ty tx : TE} {apos cpos : Pos}
theorem pe_dsetdE {k : Nat} (hr : Room k X.A) (ho : PE X o td) (he : PE X e ty) (hf : PE X f tx) (m : M2 X o "setdefault" apos e f cpos) : PE X (.Call (.Attribute o "setdefault" apos) [e, f] [] cpos) (tDSdE td ty tx) := by
  have hu : X.A.units + 1 < cLine := by
    have := hr.units
    omega
  refine ⟨fun pins s σ H Q I h => ?_⟩
  refine wpAny_Call_method m.base m.few m.line PySem.F.plainAttrs_dict PySem.F.slot_dict_setdefault PySem.F.type_dict_setdefault (thn (ho.run pins s σ H _ I h) fun u s1 ⟨x, H1, I1, rx, a, ex, d, q1⟩ => ?_)
  subst ex
  obtain rfl : u = Value.ref a := rx
  obtain ⟨t1, t2, _⟩ := isD_at I1 d
  refine ⟨t1, t2, ?_⟩
  rw [m.trees]
  refine Calls.callWith_builtin rfl (Calls.evalArgs_plain (Calls.spliced_cons (thn (he.run pins s1 σ H1 _ I1 q1) fun iv s2 ⟨y, H2, I2, ry, q2⟩ =>
    Calls.spliced_cons (thn (hf.run pins s2 σ H2 _ I2 q2) fun fv s3 ⟨z, H3, I3, rz, g⟩ => Calls.spliced_nil ?_))))
  rcases g with ⟨kvs, k, ea, ey, hl, q3, q4⟩ | ⟨kvs, k, b, ea, ey, eb, hl, q3, q4⟩
  · subst ey
    exact d_setd I3 ea ry rz hl (fun v hv w' s4 I4 rw' => ⟨v, _, I4, rw', q3 v hv⟩) fun hn w' s4 I4 rw' => ⟨z, _, I4, rw', by rw [putK_new z hn]; exact q4 hn⟩
  · subst ey
    cases (show iv = Value.ref b from ry)
    obtain ⟨zz, hd, xs, rel, dd⟩ := dt_of I3.hok ea
    have hz : xs.length ≤ sizeLine := by rw [← Paired.length rel]; exact zz
    refine call_setdefault_heap (hsz := hz) (tupleKind_room_in1 hu) (key_of I3.hok eb) hd dd (fun p hp => ?_) (fun hn h' dd' hs => ?_)
    · have q := rel.val k
      rw [hp] at q
      cases q0 : valV kvs k with
      | none =>
        rw [q0] at q
        exact (show False from q).elim
      | some v0 =>
        rw [q0] at q
        exact ⟨v0, _, I3.tok _, q, q3 v0 q0⟩
    · have q := rel.val k
      rw [hn] at q
      cases q0 : valV kvs k with
      | some v0 =>
        rw [q0] at q
        exact (show False from q).elim
      | none =>
        have hl2 : (putK kvs k z).length ≤ sizeLine := by
          have := length_putK kvs k z
          omega
        obtain ⟨q, es, ep, hq, h2, h3, h4, _, h5⟩ := dd'
        refine ⟨z, _, d_write (ob := .dT (putK kvs k z)) I3 (by rw [ea]; exact True.intro) hs ⟨q, hq⟩ ⟨hl2, hd, _, (rel.put k eb rz).keeps fun c ys ec => ?_, q, es, ep, hq, h2, h3, h4, h5⟩, rz, ?_⟩
        · rw [upd_ne (ne_of ec ea (fun z => nomatch z))]
          exact ec
        · rw [putK_new z q0]
          exact q4 q0
end
theorem pe_dgetR {X : Cx} {k : Nat} {o i : Expr} {td ty : TE} {pos : Pos} (hr : Room k X.A) (ho : PE X o td) (hi : PE X i ty) (hs : NoSl i) : PE X (.Subscript o i pos) (tDGet td ty) := pe_dget (by have := hr.units; omega) ho hi hs
theorem ps_dputR {X : Cx} {k : Nat} {o i value : Expr} {td ty tv : TE} {pos pos' : Pos} (hr : Room k X.A) (ho : PE X o td) (hi : PE X i ty) (hv : PE X value tv) (hs : swapsWith value (some (.Subscript o i pos')) pos.line X.env = pure false := by rfl) :
    PS X (.Assign [.Subscript o i pos'] value pos) (sDPut td ty tv) := ps_dput (by have := hr.units; omega) ho hi hv hs
/-! ### a set of a long list of ints, how many are in it -/
def rSetOfL (K : PySem.W.Frag) (w : World) : List V → Hp → VK → Prop := fun xs H Q => ∃ (l : Addr) (ns : List Int), xs = [V.ref l] ∧ SqL K H l (ns.map V.int) ∧ ns.length < 4000 ∧
  ∀ (a : Addr) (c : Nat), H a = none → c ≤ ns.length → Q (.ref a) (upd H a (SetO w a (fun j => decide (j ∈ ns)) c))
theorem cr_setOfL {X : Cx} {K : PySem.W.Frag} {w : World} (hK : X.K = K) (hw : X.w = w) (hc : X.calm = true) : CallR X (.type "set") (rSetOfL K w) := by
  subst hK hw
  intro pins s σ H xs us Q I r h
  obtain ⟨l, ns, rfl, hl, hf, q⟩ := h
  rw [Vals.ref1 r]
  obtain ⟨its, rv, pl, hz⟩ := I.list hl
  have hn : H s.heap.objs.size = none := I.hok.fresh (Nat.le_refl _)
  refine call_set_intsL (P := X.prog) (w := X.w) ns (I.ok.hd hc) pl.isList (by simpa using intsAre_of rv) (by unfold scanBound; omega) fun s₂ hI => ?_
  obtain ⟨h', tk, c, rfl, R, hcn, k⟩ := hI
  exact ⟨.ref s.heap.objs.size, upd H s.heap.objs.size (SetO X.w s.heap.objs.size (fun j => decide (j ∈ ns)) c), I.laid (t' := tk) k (Nat.le_refl _) (setO_new R), rfl, q _ c hn hcn⟩
def rLenS (w : World) : List V → Hp → VK → Prop := fun xs H Q => ∃ (a : Addr) (S : Int → Bool) (c : Nat), xs = [.ref a] ∧ H a = some (SetO w a S c) ∧ ((∃ L : List Int, L.Nodup ∧ L.length = c ∧ ∀ k, S k = true ↔ k ∈ L) → Q (.int c) H)
theorem cr_lenS {X : Cx} {w : World} (hw : X.w = w) : CallR X (.builtin "len") (rLenS w) := by
  subst hw
  intro pins s σ H xs us Q I r h
  obtain ⟨a, S, c, rfl, e, q⟩ := h
  rw [Vals.ref1 r]
  have R : SetR X.w s.heap a S c := (show ObjOk X.prog X.w H s.heap a (SetO X.w a S c) from I.hok a _ e).1
  obtain ⟨o, es, ep, t, ho, hx, hd, g, nd, hm, hb, hf, hn, _⟩ := R
  refine call_len_set ho hx hd hf (by unfold scanBound at hb; omega) ?_
  rw [hn]
  exact ⟨.int c, H, I.tok _, ⟨_, rfl⟩, q ⟨es.toList.map keyOf, nd, by rw [List.length_map, Array.length_toList]; exact hn, hm⟩⟩
end Sd

/-! ### errors of own classes as values: made, asked, read -/
namespace PySem
namespace HandSPX
open PySem.W PySem.Calls PyProof.Rows
section
variable {prog : Program} {w : World} {A : Around} {E : Value → Shared → Prop} {R : Result → Shared → Prop} {h : Heap} {g : Array GenState} {d : Drawn} {t : Nat} {os : OsState}
variable {nm q : Str} {C N : Addr} {bs bm bmB : List Value} {hdct : Bool} {sn : List Str} {sub : List Value} {ab : Bool} {col : Option Bool} {dd : Option Addr} {k0 k1 k2 k3 k5 : Option Value} {B newId initId : String} {kw : List (Str × Value)}
theorem sd_check_new (F : ExcBaseFacts B newId initId bmB) (hT : ∀ X : String, bm.contains (.type X) = bmB.contains (.type X)) {rest : List Value} {M : Model} {Q : Unit → Shared → Prop}
    (hC : h.get? C = some (excClassObj nm q C N bs bm hdct sn sub ab col dd k0 k1 k2 k3 k5 newId)) (hq : Q () ⟨h, g, d, t, os⟩) : wpAny M A (checkBuiltinCall newId ⟨.ref C :: rest, kw⟩) Q E ⟨h, g, d, t, os⟩ := by
  have hcont : (Value.ref C :: bm).contains (.type B) = true := by rw [List.contains_cons, hT, F.hasB, Bool.or_true]
  have hstar := F.noStar
  simp only [checkBuiltinCall, F.newKind, F.newSplit, F.newRow]
  repeat (first | refine wpAny_loadPart_at hC ?_ | (refine wpAny_isSubtype_exc hC ?_; rw [hcont]) | refine wpAny_staticBase_exc hC ?_ | refine wpAny_madeBy_exc hC ?_ | simp only [bne_self_eq_false, Bool.false_eq_true, if_false] | wp_step)
  exact hq
theorem sd_new (F : ExcBaseFacts B newId initId bmB) (hT : ∀ X : String, bm.contains (.type X) = bmB.contains (.type X)) {rest : List Value}
    (hC : h.get? C = some (excClassObj nm q C N bs bm hdct sn sub ab col dd k0 k1 k2 k3 k5 newId))
    (hq : R (.ok (.ret (.ref (h.objs.size + 1)))) ⟨(h.push { cls := .type "tuple", data := .seq rest.toArray }).push
      { cls := .ref C, data := .fields #[.ref h.objs.size, .none, .none, .none, .bool false, .none] }, g, d, t, os⟩) (hrest : rest.length ≤ sizeLine) :
    codeAny (model prog w) A (.builtin newId ⟨.ref C :: rest, kw⟩) R ⟨h, g, d, t, os⟩ := by
  have hends := F.ends
  have hcB : (Value.ref C :: bm).contains (.type B) = true := by rw [List.contains_cons, hT, F.hasB, Bool.or_true]
  have hcA : (Value.ref C :: bm).contains (.type "AttributeError") = false := by rw [List.contains_cons, hT, F.noAttr]; rfl
  have hcN : (Value.ref C :: bm).contains (.type "NameError") = false := by rw [List.contains_cons, hT, F.noName]; rfl
  refine codeAny_builtinAt F.entry ?_
  unfold Builtin.«BaseException.__new__»
  refine wpAt_bind ?_
  show wpAt _ _ _ (stack >>= _) _ _ _
  refine wpAt_bind (wpAt_stack fun p below => wpAt_of_wpAny ?_)
  wp_walk
  refine wpAt_of_wpAny ?_
  rw [F.owner]
  repeat (first | with_reducible refine wpAny_madeHere_exc F.canon hC ?_ | with_reducible refine wpAny_loadPart_at hC ?_ | (with_reducible refine wpAny_isSubtype_exc hC ?_; first | rw [hcB] | rw [hcA] | rw [hcN]) | wp_step)
  show R _ _
  rw [Heap.size_push]
  exact hq
theorem sd_type_call (F : ExcBaseFacts B newId initId bmB) (hT : ∀ X : String, bm.contains (.type X) = bmB.contains (.type X)) {rest : List Value} {fI : Addr} {Q : Fin → Shared → Prop}
    (hC : h.get? C = some (excClassObj nm q C N bs bm hdct sn sub ab col dd k0 k1 k2 k3 k5 newId))
    (hi : W.Looks (model prog w) h (typeLookup (.ref C) "__init__") (some (.ref fI))) (hb : ∀ self, W.Looks (model prog w) h (bindSpecial (.ref fI) self) (.ref fI, [self])) (hrest : rest.length ≤ sizeLine)
    (hq : codeAny (model prog w) A (.call (.ref fI) ⟨.ref (h.objs.size + 1) :: rest, kw⟩)
      (fun r s' => match r with | .ok (.ret v) => v = .none ∧ Q (.done (.ret (.ref (h.objs.size + 1)))) s' | .ok _ => False | .error e => E e s')
      ⟨(h.push (W.kdv_tup rest)).push (excO C h.objs.size), g, d, t, os⟩) :
    wpAny (model prog w) A (Builtin.«type.__call__» ⟨.ref C :: rest, kw⟩) Q E ⟨h, g, d, t, os⟩ := by
  repeat (first | with_reducible refine wpAny_loadPart_at hC ?_ | with_reducible refine wpAny_madeBy_exc hC ?_ | wp_step)
  refine codeAny_call_builtin_code (Code.quiet_builtin _ F.quiet) (sd_check_new F hT hC ?_)
  refine sd_new F hT hC ?_ hrest
  show wpAny _ _ _ _ _ _
  have k : ∀ b o, h.get? b = some o → ((h.push (W.kdv_tup rest)).push (excO C h.objs.size)).get? b = some o := fun b o e => Heap.get?_push_of_some _ (Heap.get?_push_of_some _ e)
  have hC₁ := k _ _ hC
  have hget : ((h.push (W.kdv_tup rest)).push (excO C h.objs.size)).get? (h.objs.size + 1) = some (excO C h.objs.size) := by heap_get
  have hcC : (Value.ref C :: bm).contains (.ref C) = true := by simp
  have i1 := hi.keeps k
  have b1 := (hb (.ref (h.objs.size + 1))).keeps k
  unfold isInstance
  repeat (first | with_reducible refine wpAny_loadPart_at hget ?_ | (with_reducible refine wpAny_isSubtype_exc hC₁ ?_; rw [hcC]) | wp_step)
  show wpAny _ _ (typeLookup (.ref C) _) _ _ _
  refine i1.at ?_
  refine wpAny_holding (wpAny_bind (b1.at ?_))
  refine wpAny_bind (wpAny_call (codeAny_mono hq fun r s' z => ?_))
  rcases r with e | (v | _ | _ | _) <;> first | exact z | exact z.elim | skip
  obtain ⟨rfl, z⟩ := z
  first
    | exact wpAny_pure (wpAny_pure z)
    | (wp_walk; exact z)
theorem sd_call (F : ExcBaseFacts B newId initId bmB) (hT : ∀ X : String, bm.contains (.type X) = bmB.contains (.type X)) {rest : List Value} {fI : Addr}
    (hC : h.get? C = some (excClassObj nm q C N bs bm hdct sn sub ab col dd k0 k1 k2 k3 k5 newId))
    (hi : W.Looks (model prog w) h (typeLookup (.ref C) "__init__") (some (.ref fI))) (hb : ∀ self, W.Looks (model prog w) h (bindSpecial (.ref fI) self) (.ref fI, [self])) (hrest : rest.length ≤ sizeLine)
    (hq : codeAny (model prog w) (A.under (.builtin "type.__call__" ⟨.ref C :: rest, kw⟩)) (.call (.ref fI) ⟨.ref (h.objs.size + 1) :: rest, kw⟩) (W.InitBack (h.objs.size + 1) R)
      ⟨(h.push (W.kdv_tup rest)).push (excO C h.objs.size), g, d, t, os⟩) :
    codeAny (model prog w) A (.call (.ref C) ⟨rest, kw⟩) R ⟨h, g, d, t, os⟩ := by
  have f1 := tc_lookup
  have f2 := tc_bind (.ref C)
  have hTy : (⟨h, g, d, t, os⟩ : Shared).TypeIs (.ref C) "type" := ⟨_, hC, rfl⟩
  refine codeAny_of_tree ?_
  show wpAny _ _ (callAny (.ref C) _) _ _ _
  repeat (any_goals (first | assumption | with_reducible refine wpAny_loadPart_at hC ?_ | wp_step))
  refine ⟨rfl, ?_⟩
  refine codeAny_call_builtin_at (Code.quiet_builtin _ (by decide +kernel)) entry_typeCall (wpAny_check_type_call_sub hC (sd_type_call F hT hC hi hb hrest ?_))
  refine codeAny_mono hq fun r s' z => ?_
  rcases r with e | (v | _ | _ | _) <;> exact z
end
end HandSPX
end PySem
namespace Sd
open PySem PySem.Spec PyProof.Rows L2
/-- an error as a value: its class and its fields -/
def ErrAt (H : Hp) (a D : Addr) (fs : List (Str × V)) : Prop := (fs = [] ∧ H a = some (ExO (.ref D) a)) ∨ ∃ dx, H a = some (exo a D (some dx)) ∧ H dx = some (exd dx fs)
section
variable {X : Cx} {pins : List (Addr × Obj)} {σ : L2.St} {H : Hp} {s : Shared} {a D : Addr} {fs : List (Str × V)}
theorem err_inst (I : Inv X pins σ H s) (e : ErrAt H a D fs) : ∃ ox od, PySem.W.InstAt s.heap a ox D od := by
  rcases e with ⟨_, e⟩ | ⟨dx, e, ed⟩
  · obtain ⟨⟨oe, vs, hget, hz, hv, _⟩, _, _⟩ := I.hok a _ e
    obtain ⟨oc, od, oda, osl⟩ := oe
    obtain ⟨h1, h2⟩ := hz
    dsimp only at h1 h2 hv
    subst h1 h2 hv
    exact ⟨_, none, hget, rfl, rfl, trivial⟩
  · obtain ⟨t1, ho⟩ := exo_at I.hok e
    obtain ⟨mA, hns, rel⟩ := exd_at I.hok ed
    obtain ⟨od, hod, _⟩ := lookIn_ns hns
    exact ⟨_, some od, ho, rfl, rfl, hod⟩
/-- isinstance(e, c) -/
def rIsX (K : PySem.W.Frag) : List V → Hp → VK → Prop := fun xs H Q => ∃ (a D : Addr) (fs : List (Str × V)) (c : V) (cv : Value) (b : Bool), xs = [.ref a, c] ∧ ErrAt H a D fs ∧ ExcC K D ∧ (∀ u, RelV c u → u = cv) ∧ PySem.W.kitOne K (.ref D) cv = some b ∧ Q (.bl b) H
theorem call_isX : CallR X (.builtin "isinstance") (rIsX X.K) := by
  intro pins s σ H xs us Q I r h
  obtain ⟨a, D, fs, c, cv, b, rfl, e, C, hcv, ek, q⟩ := h
  cases r with
  | cons rx rr =>
    cases rr with
    | cons rt rr =>
      cases rr
      cases rx
      have ec := hcv _ rt
      subst ec
      obtain ⟨ox, od, J⟩ := err_inst I e
      obtain ⟨cd, hcd, _⟩ := PySem.W.any_some C.hd
      exact PySem.W.kia_one (PySem.W.kitx_exc (ox := ox) (od := od) (by rw [hcd]; rfl) C.hg C.hk C.hs C.ha C.hn C.ht C.hm) I.kIn J ek (fun z => nomatch z) fun tk => ⟨.bl b, H, I.kept (t' := tk) fun _ _ z => z, rfl, q⟩
/-- e.f -/
def tErrF (K : PySem.W.Frag) (f : Str) (te : TE) : TE := fun σ H Q => te σ H fun x H1 => ∃ a D fs v, x = .ref a ∧ ErrAt H1 a D fs ∧ XfC K D ∧ PySem.W.findIn K (.ref D) f = some none ∧ fs.lookup f = some v ∧ Q v H1
theorem pe_errF {e : Expr} {te : TE} {pos : Pos} {n : Str} (he : PE X e te) (hb : attributeBase e n X.env (eval e X.env) = eval e X.env := by rfl) : PE X (.Attribute e n pos) (tErrF X.K n te) := by
  refine ⟨fun pins s σ H Q I h => ?_⟩
  refine attr_of hb (thn (he.run pins s σ H _ I h) fun u s1 hh => ?_)
  obtain ⟨x, H1, I1, rx, a, D, fs, v, ex, ea, T, hno, l, q⟩ := hh
  subst ex
  obtain rfl : u = Value.ref a := rx
  rcases ea with ⟨e0, _⟩ | ⟨dd, ea, ed⟩
  · rw [e0] at l
    cases l
  · obtain ⟨t1, ho⟩ := exo_at I1.hok ea
    obtain ⟨mA, hns, hr⟩ := exd_at I1.hok ed
    obtain ⟨od, hod, hl⟩ := lookIn_ns hns
    obtain ⟨u, hu, ru⟩ := RelO.some_of (v := v) (o := mA n) (by rw [← l]; exact hr n)
    have J : PySem.W.InstAt s1.heap a _ D (some od) := ⟨ho, rfl, rfl, hod⟩
    exact HandSPX.exc_get I1.kIn J T.ga T.gg T.exC (PySem.W.findObj_own T.hdC hno rfl (by rw [hl, hu])) (handed_of ru) ⟨v, H1, I1.tok _, ru, q⟩
end
/-- C(e, ..) or C(k = e) by an own __init__, as a value -/
def tMkV (C : Addr) (sp : Sp) (ta : TA) : TE := fun σ H Q => ta σ H fun vs H1 => vs.length = 1 ∧ ∀ a, H1 a = none → sp (.ref a :: vs) (upd H1 a (exo a C none)) (fun v H2 => v = .non ∧ Q (.ref a) H2) (fun _ _ _ => False)
section
variable {X : Cx} {CX : CXT} {x : Str} {C fI : Addr} {k : Nat} {fd : FuncData} {ps : List Str} {sp : Sp} {e : Expr} {es : List Expr} {p pos : Pos} {ta : TA}
theorem run_mkV {pins : List (Addr × Obj)} {σ : L2.St} {H1 : Hp} {s1 : Shared} {us us2 : List Value} {kw : List (Str × Value)} {vs : List V} {Q : VK} (T : OexC X.K C) (iC : PySem.W.findIn X.K (.ref C) "__init__" = some (some (.ref fI))) (tI : PySem.W.typeIn X.K (.ref fI) = some (.type "function"))
    (F1 : FnOk X.prog X.w X.K X.mg X.base CX k fI fd ps sp) (hr : Room (k + 1) X.A) (hx : Passes CX X (fun _ _ _ => False)) (hl1 : us.length ≤ 1000)
    (hb : ∀ (s : Shared) (a : Addr), X.K.In s.heap → BindsTo s fd ⟨Value.ref a :: us, kw⟩ (ps.zip (Value.ref a :: us2))) (r1 : Vals vs us2) (I1 : Inv X pins σ H1 s1)
    (q1 : ∀ a, H1 a = none → sp (.ref a :: vs) (upd H1 a (exo a C none)) (fun v H2 => v = .non ∧ Q (.ref a) H2) (fun _ _ _ => False)) :
    wpAny (model X.prog X.w) X.A (call (.ref C) us kw) (EP X pins σ Q) X.xe s1 := by
  obtain ⟨nm, q, N, bs, bm, sn, sub, ab, col, dd, k0, k1, k2, k3, k5, hC, hbm⟩ := T.cls
  obtain ⟨hp, g, dr, tk, os⟩ := s1
  have hsz : hp.objs.size ≤ hp.objs.size + 1 := Nat.le_succ _
  have hn : H1 (hp.objs.size + 1) = none := I1.hok.fresh hsz
  have hq := q1 (hp.objs.size + 1) hn
  have kk : ∀ b o, hp.get? b = some o → ((hp.push (PySem.W.kdv_tup us)).push (PySem.HandSPX.excO C hp.objs.size)).get? b = some o := fun b o e => Heap.get?_push_of_some _ (Heap.get?_push_of_some _ e)
  have hget : ((hp.push (PySem.W.kdv_tup us)).push (PySem.HandSPX.excO C hp.objs.size)).get? (hp.objs.size + 1) = some (PySem.HandSPX.excO C hp.objs.size) := by heap_get
  have I2 : Inv X pins σ (upd H1 (hp.objs.size + 1) (exo (hp.objs.size + 1) C none)) ⟨(hp.push (PySem.W.kdv_tup us)).push (PySem.HandSPX.excO C hp.objs.size), g, dr, tk, os⟩ :=
    I1.laid (t' := tk) (a := hp.objs.size + 1) (o := exo (hp.objs.size + 1) C none) (h' := (hp.push (PySem.W.kdv_tup us)).push (PySem.HandSPX.excO C hp.objs.size)) kk hsz (exo_ok hget)
  have r2 : Vals (V.ref (hp.objs.size + 1) :: vs) (Value.ref (hp.objs.size + 1) :: us2) := .cons rfl r1
  have hus : us.length ≤ sizeLine := by
    rw [sizeLine_eq]
    omega
  refine wpAny_call (PySem.HandSPX.sd_call F.excBase_ValueError (fun Y => PySem.HandSPX.refsVE_contains Y bm hbm) (I1.kIn _ _ hC) (PySem.W.looks_findIn I1.kIn iC) (fun self => PySem.W.bind_fn I1.kIn self tI) hus
    (codeAny_mono (F1.run _ X.stack _ _ ⟨Value.ref (hp.objs.size + 1) :: us, kw⟩ (Value.ref (hp.objs.size + 1) :: us2) _ _ (fun _ _ _ => False) (hr.make C us kw) (I2.env0.make C us kw) (hb _ _ I2.kIn) r2 hq) fun r s' hq' => ?_))
  cases r with
  | error er => exact hx pins σ _ _ er s' I2 hq'
  | ok fl =>
    cases fl with
    | ret u =>
      obtain ⟨v, H', I3, rv, ev, q3⟩ := I2.after hq'
      subst ev
      exact ⟨rv, ⟨V.ref (hp.objs.size + 1), H', I3, rfl, q3⟩⟩
    | next => exact False.elim hq'
    | brk => exact False.elim hq'
    | cont => exact False.elim hq'
/-- C(e) -/
theorem pe_mkV (T : OexC X.K C) (iC : PySem.W.findIn X.K (.ref C) "__init__" = some (some (.ref fI))) (tI : PySem.W.typeIn X.K (.ref fI) = some (.type "function"))
    (F1 : FnOk X.prog X.w X.K X.mg X.base CX k fI fd ps sp) (hr : Room (k + 1) X.A) (hb : Binds X.K fd ps []) (hx : Passes CX X (fun _ _ _ => False)) (hg : Gl X x) (hm : X.mg x = some (.ref C)) (hp2 : ps.length = 2) (ha : PA X (e :: es) ta)
    (hdb : (x == ("__debug__" : Str)) = false := by decide) (he : starEach (e :: es) X.env = (false, eval e X.env) :: starEach es X.env := by rfl) (hpl : (backTo pos (starEach es X.env)).any (·.1) = false := by rfl) :
    PE X (.Call (.Name x p) (e :: es) [] pos) (tMkV C sp ta) := by
  refine ⟨fun pins s σ H Q I h => ?_⟩
  refine wpAny_Call_Name_kw (ld_glob I hg hm ?_ hdb)
  refine PySem.W.callWith_K (h₀ := X.base) I.ok.mod.kin T.kC (thn (ha.run pos pins s σ H _ I h) fun us s1 ⟨vs, H1, I1, r1, hz, q1⟩ => ⟨I1.kIn, ?_⟩) he hpl
  have hu1 : us.length = 1 := by
    rw [← Paired.length r1]
    exact hz
  show wpAny _ _ (call (.ref C) us) _ _ _
  exact run_mkV (us := us) (us2 := us) T iC tI F1 hr hx (by omega) (fun s a Y => by
    have z := hb s (Value.ref a :: us) Y (by rw [List.append_nil, List.length_cons, hu1, hp2])
    rw [List.append_nil] at z
    exact z) r1 I1 q1
/-- C(k = e) -/
theorem pe_mkVW {ks : List Str} {kws : List Keyword} {g : List Value → List Value → List Value} {gV : List V → List V → List V} (T : OexC X.K C) (iC : PySem.W.findIn X.K (.ref C) "__init__" = some (some (.ref fI))) (tI : PySem.W.typeIn X.K (.ref fI) = some (.type "function"))
    (F1 : FnOk X.prog X.w X.K X.mg X.base CX k fI fd ps sp) (hr : Room (k + 1) X.A) (hb : KBn X.K fd ps 1 ks g gV) (hgg : ∀ a u, g [a] [u] = [a, u]) (hk1 : ks.length = 1) (hx : Passes CX X (fun _ _ _ => False)) (hg : Gl X x) (hm : X.mg x = some (.ref C)) (hkw : PK X kws ta)
    (hall : (backToKw pos (keywordEach kws X.env)).all (·.1.isSome) = true := by rfl) (hks : (backToKw pos (keywordEach kws X.env)).filterMap (·.1) = ks := by rfl) (hdb : (x == ("__debug__" : Str)) = false := by decide)
    (hpl : ((backTo pos (starEach [] X.env)).any (·.1) || (backToKw pos (keywordEach kws X.env)).any (·.1.isNone)) = false := by rfl) :
    PE X (.Call (.Name x p) [] kws pos) (tMkV C sp ta) := by
  refine ⟨fun pins s σ H Q I h => ?_⟩
  refine wpAny_Call_Name_kw (ld_glob I hg hm ?_ hdb)
  refine PySem.W.callWith_KW0 (h₀ := X.base) I.ok.mod.kin T.kC hall ?_ hpl
  refine thn (hkw.run pos pins s σ H _ I h) fun ws s2 ⟨zs, H2, I2, rz, l1, q2⟩ => ⟨I2.kIn, ?_⟩
  rw [hks]
  have hw1 : ws.length = 1 := by
    rw [← Paired.length rz]
    exact l1
  refine run_mkV (us := []) (us2 := ws) (kw := ks.zip ws) T iC tI F1 hr hx (Nat.zero_le _) (fun s a Y => ?_) rz I2 q2
  match ws, hw1 with
  | [u], _ =>
    have z := hb.to s [Value.ref a] [u] Y rfl (by rw [hk1]; rfl)
    rw [hgg] at z
    exact z
end

/-- {x}: None, a text or an int, as a text -/
def tFmtN (te : TE) : TE := fun σ H Q => te σ H fun x H1 => (x = .non ∧ Q (.str "None") H1) ∨ ∃ i : Int, x = .int i ∧ i.natAbs.log2 < 1920 ∧ Q (.str (toString i)) H1
theorem pe_fmtN {X : Cx} {e : Expr} {te : TE} {pos : Pos} (he : PE X e te) : PE X (.FormattedValue e (-1) none pos) (tFmtN te) := by
  refine ⟨fun pins s σ H Q I h => ?_⟩
  refine wpAny_FormattedValue_plain (thn (he.run pins s σ H _ I h) fun v s1 hv => ?_)
  obtain ⟨x, H1, I1, r1, q⟩ := hv
  rcases q with ⟨rfl, q⟩ | ⟨i, rfl, hz, q⟩
  · obtain rfl : v = Value.none := r1
    exact wpAny_formatField_none ⟨.str "None", H1, I1.tok _, ⟨_, rfl⟩, q⟩
  · obtain ⟨t, rfl⟩ := r1
    exact wpAny_formatField_int hz ⟨.str (toString i), H1, I1.tok _, ⟨_, rfl⟩, q⟩
section
variable {X : Cx} {o e : Expr} {es : List Expr} {ta : TA} {p1 p2 pos : Pos}
/-- D.__init__(self, ..), D an own class over ValueError without an own __init__ -/
theorem pe_dinit {D : Addr} {nm : Str} {mc : Value} {pl : Sem Bool} (hg : Gl X nm) (hm : X.mg nm = some (.ref D)) (r : ClX.CRead X.K D mc) (vV : PySem.W.findCls X.K (.ref D) mc "__init__" = some (.val (.builtin "ValueError.__init__"))) (ha : PA X (e :: es) ta)
    (hc : eval (.Call (.Attribute (.Name nm p1) "__init__" p2) (e :: es) [] pos) X.env = (do
      let ov ← eval (.Name nm p1) X.env
      standAt p2.atName
      let (f, first) ← holding [ov] (getMethod ov "__init__" pl)
      callWith pos f first (backTo pos (starEach (e :: es) X.env)) (backToKw pos (keywordEach [] X.env))) := by rfl)
    (hdb : (nm == ("__debug__" : Str)) = false := by decide)
    (he : starEach (e :: es) X.env = (false, eval e X.env) :: starEach es X.env := by rfl) (hpl : (backTo pos (starEach es X.env)).any (·.1) = false := by rfl) :
    PE X (.Call (.Attribute (.Name nm p1) "__init__" p2) (e :: es) [] pos) (tVeI X.K ta) := by
  refine ⟨fun pins s σ H Q I h => ?_⟩
  refine PySem.W.methodCall_KW (ld_glob I hg hm ?_ hdb) hc
  refine PySem.W.method_cls I.kIn r.ga (PySem.W.cls_value I.kIn r.rd vV (by decide +kernel) ?_)
  show wpAny _ _ (callWith pos (Value.builtin "ValueError.__init__") [] (backTo pos (starEach (e :: es) X.env)) []) _ _ _
  refine PyProof.Rows.callWith_method1 (thn (ha.run pos pins _ σ H _ (I.tok _) h) fun us s1 ⟨vs, H1, I1, r1, a, C, ws, ev, hl, T, ea, q⟩ => ?_) he hpl
  subst ev
  cases r1 with
  | @cons _ u0 _ ur ra rw' =>
    obtain rfl : u0 = Value.ref a := ra
    have hlen : ur.length ≤ sizeLine := by
      rw [← Paired.length rw', sizeLine_eq]
      omega
    exact oinit_ok T I1 ea hlen fun s' J => ⟨.non, H1, J, rfl, q⟩
end
/-! ### what the text must say of own classes of errors -/
/-- that C hangs on ValueError, keeps a dict, and is made by ValueError.__new__ -/
def sdOex (K : PySem.W.Frag) (C : Addr) : Bool := match K.lookup C with
  | some ⟨.type "type", _, .cls cd, sl⟩ => (match cd.mro, sl.toList with
    | .ref C' :: bm, [_, _, _, _, some (.builtin n), _] => C' == C && n == "ValueError.__new__" && !cd.hasDel && cd.hasDict && PySem.HandSPX.refsVE bm
    | _, _ => false)
  | _ => false
theorem oex_of {K : PySem.W.Frag} {C : Addr} (q : sdOex K C = true) (sa : PySem.W.findIn K (.ref C) "__setattr__" = some (some (.builtin "object.__setattr__"))) (exC : PySem.W.subIn K (.ref C) (.type "BaseException") = some true)
    (tyC : PySem.W.typeIn K (.ref C) = some (.type "type")) (kC : PySem.W.keepIn K (.ref C) = true) : OexC K C := by
  refine ⟨?_, sa, exC, tyC, kC⟩
  unfold sdOex at q
  split at q
  · rename_i dd cd sl ho
    split at q
    · rename_i C' bm k0 k1 k2 k3 n k5 hm hs
      simp only [Bool.and_eq_true, beq_iff_eq, Bool.not_eq_true'] at q
      obtain ⟨⟨⟨⟨rfl, rfl⟩, hdel⟩, hd⟩, hr⟩ := q
      obtain ⟨nm, bs, mro, ns, qn, hd', sn, sub, ab, col, del⟩ := cd
      dsimp only at hm hdel hd
      subst hm hdel hd
      have hsl : sl = #[k0, k1, k2, k3, some (.builtin "ValueError.__new__"), k5] := by
        obtain ⟨l⟩ := sl
        simp only at hs
        rw [hs]
      subst hsl
      exact ⟨_, _, _, _, _, _, _, _, _, _, _, _, _, _, _, ho, hr⟩
    · cases q
  · cases q
/-- what is asked of each of them -/
structure ErrC (K : PySem.W.Frag) (C : Addr) : Prop where
  exc : ExcC K C
  xf : XfC K C
  kp : PySem.W.keepIn K (.ref C) = true
theorem errC_of {K : PySem.W.Frag} {D : Addr} (hg : PySem.W.findIn K (.ref D) "__getattribute__" = some (some (.builtin "BaseException.__getattribute__"))) (hk : PySem.W.findIn K (.ref D) "__getattr__" = some none) (hs : PySem.W.subIn K (.ref D) (.type "BaseException") = some true)
    (hd : PySem.W.hasDictIn K D = true) (ha : PySem.W.findIn K (.ref D) "__class__" = some (some (.builtin "object.__class__"))) (hn : PySem.W.specialIn K (.builtin "object.__class__") "__get__" = some (some (.builtin "getset_descriptor.__get__")))
    (ht : PySem.W.takesIn K (.builtin "object.__class__") = some true) (hm : PySem.W.mroIn K D (.type "object") = some true) (kp : PySem.W.keepIn K (.ref D) = true) : ErrC K D :=
  ⟨⟨hg, hk, hs, hd, ha, hn, ht, hm⟩, ⟨hg, hk, hs, hd⟩, kp⟩
/-- isinstance(an instance of D, c) for each c -/
def Kits (K : PySem.W.Frag) (D : Addr) (cs : List Addr) (bs : List Bool) : Prop := cs.map (fun c => PySem.W.kitOne K (.ref D) (.ref c)) = bs.map some
theorem Kits.at {K : PySem.W.Frag} {D : Addr} {cs : List Addr} {bs : List Bool} (h : Kits K D cs bs) {i : Nat} {c : Addr} {b : Bool} (hc : cs[i]? = some c) (hb : bs[i]? = some b) : PySem.W.kitOne K (.ref D) (.ref c) = some b := by
  have e := congrArg (fun l => l[i]?) h
  (try dsimp only at e)
  rw [List.getElem?_map, List.getElem?_map, hc, hb] at e
  exact Option.some.inj e
theorem ErrAt.up {H H' : Hp} {a D : Addr} {fs : List (Str × V)} (e : ErrAt H a D fs) (s : Same H H') : ErrAt H' a D fs := by
  rcases e with ⟨e0, e⟩ | ⟨dx, e, ed⟩
  · exact .inl ⟨e0, s _ _ e⟩
  · exact .inr ⟨dx, s _ _ e, s _ _ ed⟩
theorem ErrAt.but {T : Addr} {c : Int} {H H' : Hp} {a D : Addr} {fs : List (Str × V)} (e : ErrAt H a D fs) (s : But T H H') (k : Stk H T c) : ErrAt H' a D fs := by
  obtain ⟨x, y, z', hT, _⟩ := k
  have ne : ∀ {b : Addr} {o : HO}, H b = some o → o ≠ .lst [.int x, .int y, .int z'] → b ≠ T := fun {b o} h n z => by
    rw [z, hT] at h
    exact n (Option.some.inj h).symm
  rcases e with ⟨e0, e⟩ | ⟨dx, e, ed⟩
  · exact .inl ⟨e0, s _ _ e (ne e fun z => by unfold ExO at z; cases z)⟩
  · exact .inr ⟨dx, s _ _ e (ne e fun z => by unfold exo at z; cases z), s _ _ ed (ne ed fun z => by unfold exd at z; cases z)⟩
theorem errFL {X : Cx} {K : PySem.W.Frag} {e : Expr} {te : TE} {pos : Pos} {n : Str} (h : X.K = K) (he : PE X e te) (hb : attributeBase e n X.env (eval e X.env) = eval e X.env := by rfl) : PE X (.Attribute e n pos) (tErrF K n te) := h ▸ pe_errF he hb
theorem isXL {X : Cx} {K : PySem.W.Frag} (h : X.K = K) : CallR X (.builtin "isinstance") (rIsX K) := h ▸ call_isX
end Sd

/-! ### lists gone over, tuples unpacked, lists comprehended while an error is handled -/
namespace HotX
open PySem PySem.Spec PyProof.Rows
section
variable {prog : Program} {w : World} {A : Around} {E : Value → Shared → Prop} {s : Shared}
theorem sd_list_end {it l x1 : Addr} {i : Nat} {items} {Q : Option Value → Shared → Prop} (hot : HotAt A x1 s.heap) (hne : x1 ≠ it)
    (hit : s.heap.IsListIter it l i) (hl : s.heap.IsList l items) (hx : items[i]? = none)
    (hQ : ∀ h', Heap.ExtBut it s.heap h' → Q none { s with heap := h' }) : wpAny (model prog w) A (pyNext (.ref it)) Q E s := by
  obtain ⟨o, ho, hc, hd⟩ := id hit
  obtain ⟨ol, hol, _, nl, hdl⟩ := hl
  obtain ⟨hh, o1, vs1, h1, d1, c1⟩ := hot
  unfold pyNext
  refine wpAny_bind (wpAny_attempt (wpAny_callSpecial?_slot (name := Str.ofString "__next__") hit.typeIs slot_listiter_next
    (wpAny_call_entry slot_listiter_next hit.typeIs entry_listiter_next ?_ (args_listiter_next _))))
  show wpAny _ _ (field (.ref it) 0 >>= _) _ _ s
  refine wpAny_bind (wpAny_field ho hd (x := .ref l) rfl ?_)
  show wpAny _ _ (if (Value.ref l == Value.none) = true then _ else _) _ _ s
  rw [if_neg (show ¬ ((Value.ref l == Value.none) = true) from Bool.false_ne_true)]
  show wpAny _ _ (field (.ref it) 1 >>= _) _ _ s
  refine wpAny_bind (wpAny_field ho hd (x := .int i 0) rfl ?_)
  show wpAny _ _ (seqItems? (.ref l) >>= _) _ _ s
  refine wpAny_bind (wpAny_seqItems hol hdl ?_)
  simp only [Int.toNat_natCast, hx]
  refine wpAny_bind (wpAny_rule (wpAny_bind (wpAny_setField ho hd (by simp) ?_)))
  show wpAny _ _ (newExc (.type "StopIteration") [] >>= _) _ _ _
  refine wpAny_bind ?_
  simp only [newExc, newTuple]
  refine wpAny_bind (wpAny_newObj_type ?_ (by size_fits))
  refine wpAny_bind (m := firstArgMember _ _) (wpAny_of_eq (a := Value.none) (by first | rfl | (simp only [firstArgMember]; rfl)) ?_)
  refine wpAny_newObj_type ?_ (by size_fits)
  generalize hu : s.heap.update it _ = hU
  have k0 : ∀ b o, b ≠ it → s.heap.get? b = some o → hU.get? b = some o := fun b o hb e => by
    rw [← hu, Heap.get?_update_other _ _ (Ne.symm hb)]
    exact e
  refine raiseNew_hot ⟨hh, o1, vs1, Heap.get?_push_of_some _ (Heap.get?_push_of_some _ (k0 _ _ hne h1)), d1, c1⟩ (Nat.ne_of_lt (Heap.lt_size (Heap.get?_push_of_some _ (k0 _ _ hne h1)))) (Heap.get?_push_size _ rfl) rfl (by first | (simp; done) | (simp; omega) | (simp only [Array.size_append]; simp; omega)) ?_
  refine wpAny_bind (wpAny_isInstance (T := "StopIteration") (b := true) ⟨_, Heap.get?_update_self _ (Heap.get?_push_size _ rfl) rfl, rfl⟩ isSubtype_stop ?_)
  refine wpAny_pure (hQ _ fun b o hb e => ?_)
  have e1 := Heap.get?_push_of_some { cls := .type "tuple", data := .seq ([] : List Value).toArray } (k0 b o hb e)
  rw [Heap.get?_update_other _ _ (Nat.ne_of_gt (Heap.lt_size (Heap.get?_push_of_some _ (k0 b o hb e))))]
  exact Heap.get?_push_of_some _ (Heap.get?_push_of_some _ (k0 b o hb e))
theorem sd_tup_end {it t x1 : Addr} {i : Nat} {items} {Q : Option Value → Shared → Prop} (hot : HotAt A x1 s.heap) (hne : x1 ≠ it)
    (hit : IsTupIter s.heap it t i) (ht : IsTup s.heap t items) (hx : items[i]? = none)
    (hQ : ∀ h', Heap.ExtBut it s.heap h' → Q none { s with heap := h' }) : wpAny (model prog w) A (pyNext (.ref it)) Q E s := by
  obtain ⟨o, ho, hc, hd⟩ := id hit
  obtain ⟨ol, hol, _, nl, hdl⟩ := ht
  obtain ⟨hh, o1, vs1, h1, d1, c1⟩ := hot
  unfold pyNext
  refine wpAny_bind (wpAny_attempt (wpAny_callSpecial?_slot (name := Str.ofString "__next__") hit.typeIs F.slot_tuple_iterator_next
    (wpAny_call_entry F.slot_tuple_iterator_next hit.typeIs F.entry_tuple_iterator_next ?_ (F.args_tuple_iterator_next_1 _))))
  show wpAny _ _ (field (.ref it) 0 >>= _) _ _ s
  refine wpAny_bind (wpAny_field ho hd (x := .ref t) rfl ?_)
  show wpAny _ _ (if (Value.ref t == Value.none) = true then _ else _) _ _ s
  rw [if_neg (show ¬ ((Value.ref t == Value.none) = true) from Bool.false_ne_true)]
  show wpAny _ _ (field (.ref it) 1 >>= _) _ _ s
  refine wpAny_bind (wpAny_field ho hd (x := .int i 0) rfl ?_)
  show wpAny _ _ (seqItems? (.ref t) >>= _) _ _ s
  refine wpAny_bind (wpAny_seqItems hol hdl ?_)
  simp only [Int.toNat_natCast, hx]
  refine wpAny_bind (wpAny_rule (wpAny_bind (wpAny_setField ho hd (by simp) ?_)))
  show wpAny _ _ (newExc (.type "StopIteration") [] >>= _) _ _ _
  refine wpAny_bind ?_
  simp only [newExc, newTuple]
  refine wpAny_bind (wpAny_newObj_type ?_ (by size_fits))
  refine wpAny_bind (m := firstArgMember _ _) (wpAny_of_eq (a := Value.none) (by first | rfl | (simp only [firstArgMember]; rfl)) ?_)
  refine wpAny_newObj_type ?_ (by size_fits)
  generalize hu : s.heap.update it _ = hU
  have k0 : ∀ b o, b ≠ it → s.heap.get? b = some o → hU.get? b = some o := fun b o hb e => by
    rw [← hu, Heap.get?_update_other _ _ (Ne.symm hb)]
    exact e
  have k2 := fun b o hb e => Heap.get?_push_of_some { cls := .type "tuple", data := .seq ([] : List Value).toArray } (k0 b o hb e)
  refine raiseNew_hot ⟨hh, o1, vs1, Heap.get?_push_of_some _ (k2 _ _ hne h1), d1, c1⟩ (Nat.ne_of_lt (Heap.lt_size (k2 _ _ hne h1))) (Heap.get?_push_size _ rfl) rfl (by first | (simp; done) | (simp; omega) | (simp only [Array.size_append]; simp; omega)) ?_
  refine wpAny_bind (wpAny_isInstance (T := "StopIteration") (b := true) ⟨_, Heap.get?_update_self _ (Heap.get?_push_size _ rfl) rfl, rfl⟩ isSubtype_stop ?_)
  refine wpAny_pure (hQ _ fun b o hb e => ?_)
  rw [Heap.get?_update_other _ _ (Nat.ne_of_gt (Heap.lt_size (k2 b o hb e)))]
  exact Heap.get?_push_of_some _ (k2 b o hb e)
/-- (..) = t, while an error is handled -/
theorem sd_unpack {env : Env} {elts : List Expr} {k : Nat} {pos : Pos} {t x1 : Addr} {items : Array Value} {Q : Unit → Shared → Prop} (hot : HotAt A x1 s.heap) (ht : IsTup s.heap t items)
    (hn : (assignEach elts env).length = items.size) (hstar : (assignEach elts env).findIdx? (·.1) = none)
    (h : ∀ h', Heap.ExtBut s.heap.objs.size s.heap h' → wpAny (model prog w) A (assignInOrder ((assignEach elts env).map (·.2)) items.toList) Q E { s with heap := h' }) :
    wpAny (model prog w) A (assign (.Tuple elts k pos) env (.ref t)) Q E s := by
  have lt : t ≠ s.heap.objs.size := by
    obtain ⟨o, ho, _⟩ := ht
    exact Nat.ne_of_lt (Heap.lt_size ho)
  rw [assign_Tuple]
  refine wpAny_bind (wpAny_standAt ?_)
  unfold unpack
  rw [hn, hstar]
  refine wpAny_bind (wpAny_holding ?_)
  unfold unpackItems
  refine wpAny_bind ?_
  unfold notIterableAtAll
  refine wpAny_bind (wpAny_specialOf ht.typeIs F.slot_tuple_iter.lookup ?_)
  refine wpAny_pure ?_
  simp only [Bool.false_eq_true, if_false]
  refine wpAny_bind (wpAny_holding (iter_tuple ht ?_))
  refine wpAny_bind (wpAny_holding (draw_tuple lt items.size 0 _ _ ⟨_, Heap.get?_push_size _ rfl, rfl, rfl⟩ (ht.push _) (by omega) fun h₁ hit₁ hs₁ => ?_))
  have all : List.take items.size (List.drop 0 items.toList) = items.toList := by
    rw [List.drop_zero]
    exact List.take_of_length_le (by simp)
  rw [all, if_neg (by simp)]
  obtain ⟨hh, o1, vs1, e1, d1, c1⟩ := hot
  have hot₁ : HotAt A x1 h₁ := ⟨hh, o1, vs1, hs₁.extBut _ _ (Nat.ne_of_lt (Heap.lt_size e1)) (Heap.get?_push_of_some _ e1), d1, c1⟩
  refine wpAny_bind (wpAny_holding (sd_tup_end hot₁ (Nat.ne_of_lt (Heap.lt_size e1)) hit₁ ((ht.push _).extBut hs₁.extBut lt) (by simp) fun h₂ he₂ => ?_))
  simp only [Option.isSome_none, Bool.false_eq_true, if_false]
  exact wpAny_pure (h h₂ fun b o hb e => he₂ b o hb (hs₁.extBut b o hb (Heap.get?_push_of_some _ e)))
end
end HotX
namespace Sd
open PySem PySem.Spec PyProof.Rows L2 L2H HotX
abbrev St' := L2.St
/-- wherever what the context says holds, the handled error stands, its own context None -/
def HotW (X : Cx) : Prop := ∀ (pins : List (Addr × Obj)) (σ : L2.St) (H : Hp) (s : Shared), L2.Inv X pins σ H s → ∃ x1, HotAt X.A x1 s.heap
theorem hotW_pn {X : Cx} (c : HotC X) : HotW X := fun _ _ _ _ I => c.at I
theorem hotW_blk {X : Cx} {pins : List (Addr × Obj)} {σ : L2.St} {H : Hp} {s : Shared} {scope : Scope} {ce : Env} {fp : List Addr} (c : HotC X) (I : L2.Inv X pins σ H s) (hfp : ∀ b ∈ fp, FpOk X pins H b) : HotW (X.blk s H scope ce fp) := fun _ _ _ s' J => by
  obtain ⟨p, ⟨hh, v1, e1, c1⟩, hp⟩ := c
  have P := I.pin p (List.mem_append_left _ hp)
  have n1 : p.1 ∉ (X.blk s H scope ce fp).fs := fun hm => (List.mem_cons.mp (I.stkSub p.1 hm)).elim P.2.2.1 P.2.2.2.1
  have n2 : p.1 ∉ (X.blk s H scope ce fp).ex := fun hm => (hfp p.1 hm).2.2.2.2.2 p (List.mem_append_left _ hp) rfl
  exact ⟨p.1, hh, p.2, v1, J.base.keep p.1 p.2 P.1 P.2.1 n1 n2, e1, c1⟩
section
variable {X : Cx}
/-- a, b = a tuple -/
theorem pg_tupZ {K : PySem.W.Frag} {es : List Expr} {k : Nat} {t : TGs} {n : Nat} {pos : Pos} (hK : X.K = K) (hz : HotW X) (h : PGs X es t)
    (hn : (assignEach es X.env).length = n := by rfl) (hst : (assignEach es X.env).findIdx? (·.1) = none := by rfl) : PG X (.Tuple es k pos) (gTup K n t) := by
  subst hK
  refine ⟨fun pins s σ H v u Q I r ⟨a, xs, e1, hq, hl, hw⟩ => ?_⟩
  subst e1
  cases r
  obtain ⟨its, rv, ht, _⟩ := I.tuple hq
  obtain ⟨x1, hot⟩ := hz pins σ H s I
  refine sd_unpack hot ht (by simp [hn, ← hl, rv.length]) hst fun h' hx => ?_
  exact h.run pins _ σ H xs _ Q (I.kept (t' := s.toks) fun b o e => hx b o (Nat.ne_of_lt (Heap.lt_size e)) e) (by simpa using rv) hw
end
/-- turns of an iterator while an error is handled -/
structure TurnZ (P : Program) (w : World) (K : PySem.W.Frag) (tg : Expr) (J : It) (fp : List Addr) (it : Addr) (tn : Nat → Heap → Prop) : Prop where
  obj : ∀ i h, tn i h → ∀ b ∈ fp, ∃ o, h.get? b = some o ∧ ∀ v, o.data ≠ .cell v
  keep : ∀ i h h', tn i h → (∀ b ∈ fp, ∀ o, h.get? b = some o → h'.get? b = some o) → tn i h'
  item : ∀ (X : Cx), X.prog = P → X.w = w → X.K = K → ∀ (i : Nat) (pins : List (Addr × Obj)) (s : Shared) (σ : L2.St) (H : Hp) (E : Value → Shared → Prop), L2.Inv X pins σ H s → (∀ b ∈ fp, FpOk X pins H b) → tn i s.heap → J.go i H →
    wpAny (model P w) X.A (pyNext (.ref it)) (fun r s1 => ∃ u, r = some u ∧
      wpAny (model P w) X.A (letOwnedTupleGo tg (.ref it) u) (fun _ s2 => ∃ x H', L2.Inv X pins σ H' s2 ∧ RelV x u ∧ J.yld i H x H' ∧ tn (i + 1) s2.heap ∧ ∀ b ∈ fp, H' b = none) E s1) E s
  done : ∀ (X : Cx), X.prog = P → X.w = w → X.K = K → ∀ (i : Nat) (pins : List (Addr × Obj)) (s : Shared) (σ : L2.St) (H : Hp) (E : Value → Shared → Prop) (x1 : Addr), HotAt X.A x1 s.heap → x1 ∉ fp → L2.Inv X pins σ H s → (∀ b ∈ fp, FpOk X pins H b) → tn i s.heap → J.stop i H →
    wpAny (model P w) X.A (pyNext (.ref it)) (fun r s1 => r = none ∧ L2.Inv X pins σ H s1) E s
  self : ∀ (A : Around) (i : Nat) (s : Shared) (Q : Value → Shared → Prop) (E : Value → Shared → Prop), tn i s.heap → Q (.ref it) s → wpAny (model P w) A (pyIter (.ref it)) Q E s
theorem turn_listZ {P : Program} {w : World} {K : PySem.W.Frag} {tg : Expr} (a it : Addr) : TurnZ P w K tg (Itl K a) [it] it (fun i h => h.IsListIter it a i) where
  obj := fun i h st b hb => by
    rw [List.mem_singleton.mp hb]
    obtain ⟨o, e, _, d⟩ := st
    exact ⟨o, e, fun v z => by rw [d] at z; cases z⟩
  keep := fun i h h' st k => st.at fun o e => k it (List.mem_singleton_self _) o e
  item := by
    intro X hP hw hK i pins s σ H E I hf st ⟨xs, x, hq, hx⟩
    subst hP hw hK
    obtain ⟨its, rv, p, _⟩ := I.list hq
    obtain ⟨u, hu, ru⟩ := rv.get hx
    obtain ⟨f0, f1, f2, f3, f4, f5⟩ := hf it (List.mem_singleton_self _)
    refine wpAny_pyNext_list_item st p.isList (x := u) (by simpa using hu) fun h' st' sb => ?_
    have I1 : L2.Inv X pins σ H { s with heap := h' } := I.turned (t' := s.toks) (fun b o hb e => (sb.2 b hb).trans e) f0 f1 f3 f4 f5
    obtain ⟨o, e, c, d⟩ := id st'
    exact ⟨u, rfl, go_of (s := { s with heap := h' }) e c d (by decide) ⟨x, H, I1, ru, ⟨rfl, fun ys hy => by rw [I.list_inj hy hq]; exact hx⟩, st', fun b hb => (hf b hb).1⟩⟩
  done := by
    intro X hP hw hK i pins s σ H E x1 hot nx I hf st ⟨xs, hq, hx⟩
    subst hP hw hK
    obtain ⟨its, rv, p, _⟩ := I.list hq
    obtain ⟨f0, f1, f2, f3, f4, f5⟩ := hf it (List.mem_singleton_self _)
    have hl := rv.length
    exact sd_list_end hot (fun z => nx (by rw [z]; exact List.mem_singleton_self _)) st p.isList (by simp; omega) fun h' eb => ⟨rfl, I.turned (t' := s.toks) (fun b o hb e => eb b o hb e) f0 f1 f3 f4 f5⟩
  self := fun _ _ _ _ _ st h => wpAny_pyIter_listiter st h
def PIEZ (X : Cx) (pins : List (Addr × Obj)) (σ : L2.St) (tg : Expr) (R : It → Hp → Prop) (itv : Value) (s2 : Shared) : Prop :=
  ∃ (it : Addr) (fp : List Addr) (tn : Nat → Heap → Prop) (J : It) (H' : Hp), itv = .ref it ∧ L2.Inv X pins σ H' s2 ∧ TurnZ X.prog X.w X.K tg J fp it tn ∧ tn 0 s2.heap ∧ (∀ b ∈ fp, FpOk X pins H' b) ∧ R J H'
structure PIZ (X : Cx) (tg iter : Expr) (wi : TI) : Prop where
  run : ∀ (pins : List (Addr × Obj)) (s : Shared) (σ : L2.St) (H : Hp) (R : It → Hp → Prop), L2.Inv X pins σ H s → wi σ H R →
    wpAny (model X.prog X.w) X.A (eval iter X.env) (fun v s1 => wpAny (model X.prog X.w) X.A (pyIter v) (PIEZ X pins σ tg R) X.xe s1) X.xe s
section
variable {X : Cx} {tg : Expr}
theorem pi_listZ {K : PySem.W.Frag} {l : Expr} {tl : TE} (hK : X.K = K) (hl : PE X l tl) : PIZ X tg l (iList K tl) := by
  subst hK
  refine ⟨fun pins s σ H R I h => thn (hl.run pins s σ H _ I h) fun v s1 ⟨x, H1, I1, r1, a, e, ⟨xs, hq⟩, q⟩ => ?_⟩
  subst e
  cases r1
  obtain ⟨its, rv, p, _⟩ := I1.list hq
  refine wpAny_pyIter_list p.isList ?_
  refine ⟨s1.heap.objs.size, [s1.heap.objs.size], _, _, H1, rfl, I1.kept (t' := s1.toks) fun b o e => Heap.get?_push_of_some _ e, turn_listZ a _, ⟨_, Heap.get?_push_size _ rfl, rfl, rfl⟩, fun b hb => ?_, q⟩
  rw [List.mem_singleton.mp hb]
  exact I1.fpOk (Nat.le_refl _) (I1.hok.fresh (Nat.le_refl _))
/-- the handled error, at a state -/
theorem hotC_at {pins : List (Addr × Obj)} {σ : L2.St} {H : Hp} {s : Shared} {fp : List Addr} {p : Addr × Obj} (hot : Hot1 X.A p) (hp : p ∈ X.pn) (I : L2.Inv X pins σ H s) (hf : ∀ b ∈ fp, FpOk X pins H b) : HotAt X.A p.1 s.heap ∧ p.1 ∉ fp := by
  obtain ⟨hh, v1, e1, c1⟩ := hot
  exact ⟨⟨hh, p.2, v1, (I.pin p (List.mem_append_left _ hp)).1, e1, c1⟩, fun hm => (hf p.1 hm).2.2.2.2.2 p (List.mem_append_left _ hp) rfl⟩
theorem ps_forZ {iter : Expr} {body : List Stmt} {wi : TI} {g : TG} {tb : TS} {pos : Pos} (hp : PassesOwn (model X.prog X.w) X.A X.env X.xe) (hc : HotC X) (hi : PIZ X tg iter wi) (hg : PG X tg g) (hb : PSs X body tb)
    (hs : ∀ x, foldedSetIterable iter X.env x = pure x := by intro _; rfl) : PS X (.For tg iter body [] pos) (tFor wi g tb) := by
  obtain ⟨p, hot, hpn⟩ := hc
  refine ⟨fun pins s σ H D I h => ?_⟩
  refine wpAny_For (thn (hi.run pins s σ H _ I h) fun v s1 h1 => thn h1 fun itv s2 ⟨it, fp, tn, J, H2, e, I2, T, st2, f2, W, ⟨m0, w0⟩, turn⟩ => ?_) hs
  subst e
  have stat : ∀ {H' : Hp}, (∀ b ∈ fp, H' b = none) → ∀ b ∈ fp, FpOk X pins H' b := fun hn b hb => ⟨hn b hb, (f2 b hb).2⟩
  refine codeAny_forLoop_any (fun n s' => ∃ i σ' H', L2.Inv X pins σ' H' s' ∧ tn i s'.heap ∧ (∀ b ∈ fp, H' b = none) ∧ W i n σ' H') (fun n s3 ⟨i, σ3, H3, I3, st3, fr3, w3⟩ => ?_) m0 ⟨0, σ, H2, I2, st2, fun b hb => (f2 b hb).1, w0⟩
  obtain ⟨ha, nx⟩ := hotC_at hot hpn I3 (stat fr3)
  rcases turn i n σ3 H3 w3 with ⟨stop, qn⟩ | ⟨go, N, hN, step⟩
  · refine wpAny_passesOwn hp (thn (T.done X rfl rfl rfl i pins s3 σ3 H3 X.xe p.1 ha nx I3 (stat fr3) st3 stop) fun r s4 ⟨hr, I4⟩ => ?_)
    subst hr
    exact wpAny_execs_nil ⟨σ3, H3, I4, qn⟩
  · refine wpAny_passesOwn hp (thn (T.item X rfl rfl rfl i pins s3 σ3 H3 X.xe I3 (stat fr3) st3 go) fun r s4 ⟨u, hr, h4⟩ => ?_)
    subst hr
    refine wpAny_passesOwn hp (thn h4 fun _ s5 ⟨x, H5, I5, r5, y5, st5, fr5⟩ => ?_)
    refine wpAny_passesOwn hp (thn (hg.run _ s5 σ3 H5 x u _ (I5.pinned (stat fr5) (T.obj _ _ st5)) r5 (step x H5 y5)) fun _ s6 ⟨σ6, H6, I6, q6⟩ => ?_)
    refine wpAny_passesOwn hp (thn (hb.run _ s6 σ6 H6 _ I6 q6) fun f s7 q7 => ?_)
    have again : ∀ {σ7 : L2.St} {H7 : Hp}, L2.Inv X (pins ++ pinsAt fp s5.heap) σ7 H7 s7 → N σ7 H7 → ∃ m, m < n ∧ ∃ i σ' H', L2.Inv X pins σ' H' s7 ∧ tn i s7.heap ∧ (∀ b ∈ fp, H' b = none) ∧ W i m σ' H' := fun {σ7 H7} I7 n7 => by
      obtain ⟨m', hm, w7⟩ := hN σ7 H7 n7
      have at7 : ∀ b ∈ fp, ∀ o, s5.heap.get? b = some o → s7.heap.get? b = some o ∧ H7 b = none := fun b hb o e =>
        ⟨(I7.pin (b, o) (List.mem_append_right _ (List.mem_append_right _ (mem_pinsAt hb e)))).1, (I7.pin (b, o) (List.mem_append_right _ (List.mem_append_right _ (mem_pinsAt hb e)))).2.1⟩
      refine ⟨m', hm, i + 1, σ7, H7, I7.unpinned, T.keep _ _ _ st5 fun b hb o e => (at7 b hb o e).1, fun b hb => ?_, w7⟩
      obtain ⟨o, e, _⟩ := T.obj _ _ st5 b hb
      exact (at7 b hb o e).2
    cases f with
    | next =>
      obtain ⟨_, _, I7, n7⟩ := q7
      exact again I7 n7
    | cont =>
      obtain ⟨_, _, I7, n7⟩ := q7
      exact again I7 n7
    | brk =>
      obtain ⟨σ7, H7, I7, q7⟩ := q7
      exact ⟨σ7, H7, I7.unpinned, q7⟩
    | ret v =>
      obtain ⟨x7, σ7, H7, I7, r7, q7⟩ := q7
      exact ⟨x7, σ7, H7, I7.unpinned, r7, q7⟩
section
variable {elt iter : Expr} {ifs : List Expr} {scope : Scope} {own : List (Str × Nat)} {pos : Pos} {wi : TI} {g : TG} {tt : TT} {te : TE}
/-- a comprehension's parts, in each block where the handled error stands -/
structure LcZ (X : Cx) (tg elt : Expr) (ifs : List Expr) (scope : Scope) (g : TG) (tt : TT) (te : TE) : Prop where
  tg : ∀ (s : Shared) (H : Hp) (C : Addr) (cl : List (Str × Addr)) (fp : List Addr), HotW (X.blk s H scope (compEnvC scope cl C X.env) fp) → PG (X.blk s H scope (compEnvC scope cl C X.env) fp) tg g
  ifs : ∀ (s : Shared) (H : Hp) (C : Addr) (cl : List (Str × Addr)) (fp : List Addr), PTs (X.blk s H scope (compEnvC scope cl C X.env) fp) ifs tt
  elt : ∀ (s : Shared) (H : Hp) (C : Addr) (cl : List (Str × Addr)) (fp : List Addr), PE (X.blk s H scope (compEnvC scope cl C X.env) fp) elt te
theorem lcZ_core {pins : List (Addr × Obj)} {s : Shared} {σ : L2.St} {H : Hp} {Q : VK} {pos' : Pos} {use : Option (Value → Sem Unit)} {Qf : Value → Shared → Prop}
    (hc : HotC X) (hN : X.N.Nodup) (I : L2.Inv X pins σ H s) (hi : PIZ X tg iter wi) (ok : BlkOk X.N X.env.scope scope own) (L : LcZ X tg elt ifs scope g tt te) (hs : ∀ x, foldedSetIterable iter X.env x = pure x)
    (h : tLc wi g tt te (own.map (·.2)) σ H Q)
    (fin : ∀ D C s' m H', L2.Inv X pins σ H' s' → Q (.ref D) H' → s'.heap.Ns C m → FpOk X pins H' C → compPost (model X.prog X.w) X.A X.xe use Qf (.ref D) C (.ok .next) s') :
    wpAny (model X.prog X.w) X.A (comprehension (.ListComp elt [⟨tg, iter, ifs, 0⟩] scope pos) scope X.env pos' (newList []) false (eval iter X.env) use) Qf X.xe s := by
  have hfree : ∀ y ∈ scope.names, y.2 = .free → ∃ c, X.env.cells.lookup y.1 = some c := fun y hy e => (ok.free y hy e).elim (fun k => I.ok.has _ (.inl k)) fun k => I.ok.has _ (.inr k)
  refine wpAny_comprehension_free (use := use) rfl hs (closure_ok hfree) ok.kind (fun y hy e => by rw [ok.uniq y hy, e])
    (thn (hi.run pins s σ H _ I h) fun xv s1 hx => thn hx fun itv s2 ⟨it, fp, tn, J, H2, e, I2, T, st2, f2, q⟩ => ?_)
  subst e
  refine wpAny_newObj_type (newEnv_comp ?_) (by show 0 ≤ sizeLine; decide)
  obtain ⟨W, ⟨m0, w0⟩, turn⟩ := q s2.heap.objs.size (I2.hok.fresh (Nat.le_refl _))
  -- the new list at D, its state s3
  obtain ⟨D, hD⟩ : ∃ D, D = s2.heap.objs.size := ⟨_, rfl⟩
  rw [← hD] at w0 turn
  have lt2 : ∀ b ∈ fp, b < s2.heap.objs.size := fun b hb => by
    obtain ⟨o, e, _⟩ := T.obj _ _ st2 b hb
    exact Heap.lt_size e
  obtain ⟨s3, hs3⟩ : ∃ s3 : Shared, s3 = { s2 with heap := s2.heap.push { cls := .type "list", data := .seq ([] : List Value).toArray } } := ⟨_, rfl⟩
  have h3 : s3.heap = s2.heap.push { cls := .type "list", data := .seq ([] : List Value).toArray } := by rw [hs3]
  have k3 : ∀ b o, s2.heap.get? b = some o → s3.heap.get? b = some o := fun b o e => by rw [h3]; exact Heap.get?_push_of_some _ e
  have I3 : L2.Inv X pins σ (upd H2 D (.lst [])) s3 := by
    rw [hs3]
    refine I2.laid (t' := s2.toks) (fun b o e => Heap.get?_push_of_some _ e) (Nat.le_of_eq hD.symm) ⟨Nat.zero_le _, [], 0, .nil, ?_⟩
    rw [hD]
    exact Heap.get?_push_size _ rfl
  obtain ⟨H3, hH3⟩ : ∃ H3, H3 = upd H2 D (.lst []) := ⟨_, rfl⟩
  rw [← hH3] at I3 w0
  have f3 : ∀ b ∈ fp, FpOk X pins H3 b ∧ b < s3.heap.objs.size := fun b hb => by
    refine ⟨⟨?_, (f2 b hb).2⟩, by rw [h3, Heap.size_push]; exact Nat.lt_succ_of_lt (lt2 b hb)⟩
    rw [hH3, upd_ne (by rw [hD]; exact Nat.ne_of_lt (lt2 b hb))]
    exact (f2 b hb).1
  have I4 := block_start I3 ok hN f3
  -- the block
  obtain ⟨cl, hcl⟩ : ∃ cl, cl = cellsFrom (s3.heap.objs.size + 1) scope.names (cloFrom X.env.cells scope.names []) := ⟨_, rfl⟩
  have hw := hotW_blk (scope := scope) (ce := compEnvC scope cl s3.heap.objs.size X.env) hc I3 fun b hb => (f3 b hb).1
  have pg := L.tg s3 H3 s3.heap.objs.size cl fp hw
  have pt := L.ifs s3 H3 s3.heap.objs.size cl fp
  have pe := L.elt s3 H3 s3.heap.objs.size cl fp
  rw [← hcl] at I4
  rw [← hs3] 
  rw [show s2.heap.objs.size = D from hD.symm]
  show codeAny _ _ (.compStart (.ListComp elt [⟨tg, iter, ifs, 0⟩] scope pos) 0 (.ref it) (.ref D) (compEnvC scope (cellsFrom (s3.heap.objs.size + 1) scope.names (cloFrom X.env.cells scope.names [])) s3.heap.objs.size X.env)) (compPost (model X.prog X.w) X.A X.xe use Qf (.ref D) s3.heap.objs.size) { s3 with heap := pushCells (s3.heap.push { cls := .type "dict", data := .dict #[] }) scope.names }
  rw [← hcl]
  obtain ⟨ce, hce⟩ : ∃ ce, ce = compEnvC scope cl s3.heap.objs.size X.env := ⟨_, rfl⟩
  have cL : ce.locals = s3.heap.objs.size := by rw [hce]; rfl
  rw [← hce] at I4 hw pg pt pe ⊢
  obtain ⟨s4, hs4⟩ : ∃ s4 : Shared, s4 = { s3 with heap := pushCells (s3.heap.push { cls := .type "dict", data := .dict #[] }) scope.names } := ⟨_, rfl⟩
  rw [← hs4] at I4 ⊢
  have st4 : tn 0 s4.heap := T.keep _ _ _ (T.keep _ _ _ st2 fun b _ o e => k3 b o e) fun b _ o e => by rw [hs4]; exact pushCells_keeps _ _ _ _ (Heap.get?_push_of_some _ e)
  have stat : ∀ {σ' : L2.St} {H' : Hp} {s' : Shared}, L2.Inv (X.blk s3 H3 scope ce fp) [] σ' H' s' → (∀ b ∈ fp, H' b = none) → ∀ b ∈ fp, FpOk (X.blk s3 H3 scope ce fp) [] H' b := fun {σ' H' s'} I' hn b hb =>
    ⟨hn b hb, (I'.ok.exf b hb).1, I'.ok.exfs b hb, .inl hb, fun x c e => (I'.ok.exf b hb).2 x c e, fun p hp => absurd (show p ∈ ([] : List (Addr × Obj)) ++ [] from hp) (by simp)⟩
  have loop : codeAny (model X.prog X.w) X.A (.compLoop (.ListComp elt [⟨tg, iter, ifs, 0⟩] scope pos) 0 (.ref it) (.ref D) ce) (compPost (model X.prog X.w) X.A X.xe use Qf (.ref D) s3.heap.objs.size) s4 := by
    refine compLoop_any (fun n s' => ∃ i H', L2.Inv (X.blk s3 H3 scope ce fp) [] (wipe σ (own.map (·.2))) H' s' ∧ tn i s'.heap ∧ (∀ b ∈ fp, H' b = none) ∧ W i n H') (fun n s5 ⟨i, H5, I5, st5, n5, w5⟩ => ?_) m0 ⟨0, H3, I4, st4, fun b hb => (f3 b hb).1.1, w0⟩
    rcases turn i n H5 w5 with ⟨stop, qq⟩ | ⟨go, Nx, hNx, step⟩
    · -- the end: back in the def
      obtain ⟨p, ⟨hh, v1, d1, c1⟩, hp⟩ := id hc
      have P := I3.pin p (List.mem_append_left _ hp)
      have nf : p.1 ∉ fp := fun hm => (f3 p.1 hm).1.2.2.2.2.2 p (List.mem_append_left _ hp) rfl
      have g5 := I5.base.keep p.1 p.2 P.1 P.2.1 (fun hm => (List.mem_cons.mp (I3.stkSub p.1 hm)).elim P.2.2.1 P.2.2.2.1) nf
      refine thnF (T.done (X.blk s3 H3 scope ce fp) rfl rfl rfl i [] s5 _ H5 (fun _ _ => False) p.1 ⟨hh, p.2, v1, g5, d1, c1⟩ nf I5 (stat I5 n5) st5 stop) fun r s6 ⟨hr, I6⟩ => ?_
      subst hr
      have I7 : L2.Inv X pins σ H5 s6 := I3.call' (ch := fp) I6.os I6.base I6.hok I6.bare fun b hb => ⟨(f3 b hb).1.2.2.2.1, (f3 b hb).1.2.1, (f3 b hb).1.2.2.2.2.1, (f3 b hb).1.2.2.2.2.2⟩
      have nC : H5 ce.locals = none := I6.free
      obtain ⟨m, hn, _⟩ := I6.loc
      have hn : s6.heap.Ns ce.locals m := hn
      rw [cL] at hn nC
      exact fin D s3.heap.objs.size s6 m H5 I7 qq hn (I3.fpOk (Nat.le_refl _) nC)
    · refine thnF (T.item (X.blk s3 H3 scope ce fp) rfl rfl rfl i [] s5 _ H5 (fun _ _ => False) I5 (stat I5 n5) st5 go) fun r s6 ⟨u, hr, h6⟩ => ?_
      subst hr
      refine thnF h6 fun _ s7 ⟨x, H7, I7, r7, y7, st7, n7⟩ => ?_
      refine thnF (pg.run _ s7 _ H7 x u _ (I7.pinned (stat I7 n7) (T.obj _ _ st7)) r7 (step x H7 y7)) fun _ s8 ⟨σ8, H8, I8, hw8, q8⟩ => ?_
      refine thnF (pt.run _ s8 σ8 H8 _ I8 q8) fun b s9 ⟨H9, I9, q9⟩ => ?_
      have again : ∀ {s' : Shared} {H' : Hp}, L2.Inv (X.blk s3 H3 scope ce fp) ([] ++ pinsAt fp s7.heap) σ8 H' s' → Nx H' → ∃ m, m < n ∧ ∃ i H', L2.Inv (X.blk s3 H3 scope ce fp) [] (wipe σ (own.map (·.2))) H' s' ∧ tn i s'.heap ∧ (∀ b ∈ fp, H' b = none) ∧ W i m H' := fun {s' H'} I' nx => by
        obtain ⟨m', hm, w'⟩ := hNx H' nx
        have at' : ∀ b ∈ fp, ∀ o, s7.heap.get? b = some o → s'.heap.get? b = some o ∧ H' b = none := fun b hb o e =>
          ⟨(I'.pin (b, o) (List.mem_append_right _ (List.mem_append_right _ (mem_pinsAt hb e)))).1, (I'.pin (b, o) (List.mem_append_right _ (List.mem_append_right _ (mem_pinsAt hb e)))).2.1⟩
        refine ⟨m', hm, i + 1, H', (I'.unpinned (pins := [])).weak (by rw [← hw8, wipe_length]) (fun j v e => ?_), T.keep _ _ _ st7 fun b hb o e => (at' b hb o e).1, fun b hb => ?_, w'⟩
        · rw [← hw8] at e
          exact (wipe_some e).1
        · obtain ⟨o, e, _⟩ := T.obj _ _ st7 b hb
          exact (at' b hb o e).2
      cases b with
      | false =>
        simp only [Bool.false_eq_true, if_false] at q9 ⊢
        exact again I9 q9
      | true =>
        simp only [if_true] at q9 ⊢
        refine thnF (pe.run _ s9 σ8 H9 _ I9 q9) fun z s10 ⟨yv, H10, I10, r10, acc, hD10, hz10, nx⟩ => ?_
        exact app_ok (X := X.blk s3 H3 scope ce fp) I10 hD10 hz10 r10 fun s11 I11 => again I11 nx
  exact codeAny_compStart_list loop (T.self X.A 0 _ _ _ st4 loop)
theorem pe_lcZ (hc : HotC X) (hN : X.N.Nodup) (hi : PIZ X tg iter wi) (ok : BlkOk X.N X.env.scope scope own) (L : LcZ X tg elt ifs scope g tt te) (hs : ∀ x, foldedSetIterable iter X.env x = pure x := by intro _; rfl) :
    PE X (.ListComp elt [⟨tg, iter, ifs, 0⟩] scope pos) (tLc wi g tt te (own.map (·.2))) := by
  refine ⟨fun pins s σ H Q I h => ?_⟩
  rw [eval_ListComp]
  refine lcZ_core hc hN I hi ok L hs h fun D C s' m H' I' q hn f => ⟨m, hn, fun h'' sb => ?_⟩
  obtain ⟨f0, f1, f2, f3, f4, f5⟩ := f
  exact ⟨.ref D, H', I'.turned (t' := s'.toks) (fun b o hb e => (sb.2 b hb).trans e) f0 f1 f3 f4 f5, rfl, q⟩
/-- name = [..] on one line -/
theorem ps_setLcZ {i : Nat} {y : Str} {py spos : Pos} (hc : HotC X) (hN : X.N.Nodup) (hy : X.N[i]? = some y) (hyl : X.env.scope.names.lookup y = some .local)
    (hsw : swapsWith (.ListComp elt [⟨tg, iter, ifs, 0⟩] scope pos) (some (.Name y py)) spos.line X.env = pure true) (hi : PIZ X tg iter wi) (ok : BlkOk X.N X.env.scope scope own) (L : LcZ X tg elt ifs scope g tt te) (hs : ∀ x, foldedSetIterable iter X.env x = pure x := by intro _; rfl) :
    PS X (.Assign [.Name y py] (.ListComp elt [⟨tg, iter, ifs, 0⟩] scope pos) spos) (tAsg (tLc wi g tt te (own.map (·.2))) (gName i)) := by
  refine ⟨fun pins s σ H D I h => ?_⟩
  rw [exec_Assign_Name_used _ _ _ _ hsw]
  refine wpAny_bind (wpAny_standAt (wpAny_bind ?_))
  show wpAny _ X.A (do let _ ← comprehension (.ListComp elt [⟨tg, iter, ifs, 0⟩] scope pos) scope X.env (firstIterPos [⟨tg, iter, ifs, 0⟩] pos) (newList []) false (eval iter X.env) (some (assign (.Name y py) X.env))) _ _ s
  have h : tLc wi g tt te (own.map (·.2)) σ H (fun x H1 => gName i x σ H1 D.nx) := h
  refine wpAny_bind (thn (lcZ_core (Qf := fun _ s' => SP X pins D .next s') hc hN I hi ok L hs h fun l C s' m H' I' q hn f => ?_) fun _ s' hq => wpAny_pure (wpAny_pure hq))
  show wpAny _ _ (assign (.Name y py) X.env (.ref l)) _ _ _
  refine wpAny_assign_Name (store_ok2 (v := V.ref l) I' hN hy (.inl hyl) rfl (fun s2 I2 ⟨a, sb, ha⟩ => ?_) (.inr hyl))
  obtain ⟨f0, f1, f2, f3, f4, f5⟩ := f
  have haC : C ≠ a := ha.elim (fun z => by rw [z]; exact f1) fun z => fun e => f4 y a z e.symm
  exact ⟨m, hn.sameBut sb haC, fun h3 sb3 => ⟨_, H', I2.turned (t' := s2.toks) (fun b o hb e => (sb3.2 b hb).trans e) f0 f1 f3 f4 f5, q⟩⟩
end
end
end Sd

/-! ### a def that is handed the handled error -/
namespace Sd
open PySem PySem.Spec PyProof.Rows L2 L2H HotX
/-- what a def promises that is called while p is handled; p stands beside what is tracked -/
structure FnZ (P : Program) (w : World) (K : PySem.W.Frag) (mg : Str → Option Value) (base : Heap) (CX : CXT) (k : Nat) (f : Addr) (fd : FuncData) (ps : List Str) (sp : Addr × Obj → Sp) : Prop where
  len : ∀ p vs H Q E, sp p vs H Q E → vs.length = ps.length
  run : ∀ (A : Around) (outer : List Env) (s : Shared) (H : Hp) (args : Args) (us : List Value) (vs : List V) (Q : VK) (E : XK) (p : Addr × Obj), RoomH k A → A.guards = some [] → Hot1 A p → PinOk outer H s p → Env0 P w K mg base A outer s H → BindsTo s fd args (ps.zip us) → Vals vs us → sp p vs H Q E →
    codeAny (model P w) A (.call (.ref f) args) (CR CX outer P w H s Q E) s
section
variable {P : Program} {w : World} {K : PySem.W.Frag} {mg : Str → Option Value} {base : Heap}
theorem okZ {x qual : Str} {st : Stmt} {f : Addr} {fd : FuncData} {N ps : List Str} {k : Nat} {sp : Addr × Obj → Sp} (F : Fun K x qual st f fd) (S : FnScope N ps (defScope st)) (len : ∀ p vs H Q E, sp p vs H Q E → vs.length = ps.length)
    (hb : ∀ (cd : Value) (A : Around) (outer : List Env) (s : Shared) (H : Hp) (vs : List V) (Q : VK) (E : XK) (p : Addr × Obj), A.guards = some [] → Hot1 A p → RoomH k (A.deeper (envOfC qual (defScope st) s.heap.objs.size f cd)) → sp p vs H Q E →
      ∃ t, PSs (cxH CX0 P w K mg base N qual (defScope st) f cd A outer s H E p).nox (defBody st) t ∧ t { nx := fun _ H' => Q .non H', rt := Q } (L2.start N vs) H) : FnZ P w K mg base CX0 (k + 1) f fd ps sp := by
  obtain ⟨oc, od, kV, doc, pm, an, cd, ct, osl, rfl, lk, hcd⟩ := F.ex
  refine ⟨fun p => len p, fun A outer s H args us vs Q E p hr hg hot hpin e0 hbi r hsp => ?_⟩
  have hl := len _ _ _ _ _ hsp
  have KX : K.In s.heap := e0.mod.kin.keeps fun b o e => (e0.bs b o e).1
  have lim : s.heap.NoLimit := e0.mod.nolimit.keeps fun b o e => (e0.bs b o e).1
  have hkind : ∀ y ∈ ps.zip us, (defScope st).names.lookup y.1 = some .local ∨ ((defScope st).names.lookup y.1 = some .cell ∧ ((cellsFrom (s.heap.objs.size + 1) (defScope st).names []).lookup y.1).isSome = true) := fun ⟨n, v⟩ hy =>
    (S.par n (List.of_mem_zip hy).1).elim .inl fun q => .inr ⟨q, PySem.W.cellsFrom_some _ _ _ (.inl q)⟩
  refine codeAny_call_function hr.depth (KX _ _ lk) rfl S.co S.gen rfl (PySem.W.codeRec_of KX hcd) (hbi _ _ _ _ ?_)
  refine wpAny_newFunctionEnv_cells S.kind hkind fun env he s1 y => ?_
  subst he
  refine ⟨lim.keeps y.toInCall.keep, codeAny_func ?_⟩
  obtain ⟨t, ht, hq⟩ := hb cd A outer s H vs Q E p hg hot (hr.deeper _) hsp
  have I : L2.Inv (cxH CX0 P w K mg base N qual (defScope st) f cd A outer s H E p) [] (L2.start N vs) H s1 := inv_startH S hpin e0 hl r y
  refine wpAny_mono (ht.nox.run [] s1 (L2.start N vs) H _ I hq) (fun fl s' hs => ?_) fun e s' hs => hs
  cases fl with
  | ret u =>
    obtain ⟨v, σ', H', J, rv, q⟩ := hs
    exact ⟨v, H', J.os, J.bare, J.base, J.hok, rv, q⟩
  | next =>
    obtain ⟨σ', H', J, q⟩ := hs
    exact ⟨V.non, H', J.os, J.bare, J.base, J.hok, rfl, q⟩
  | brk => exact hs.elim fun _ z => z.elim fun _ z => z.2.elim
  | cont => exact hs.elim fun _ z => z.elim fun _ z => z.2.elim
end
section
variable {X : Cx} {CX : CXT} {k : Nat} {f : Addr} {fd : FuncData} {ps : List Str} {sp : Addr × Obj → Sp} {E : L2.St → XK} {x : Str} {q pos : Pos} {e : Expr} {es : List Expr} {t : TA} {p : Addr × Obj}
/-- f(e, ..), p the handled error -/
def tCallZ (sp : Addr × Obj → Sp) (p : Addr × Obj) (E : L2.St → XK) (t : TA) : TE := fun σ H Q => t σ H fun vs H1 => sp p vs H1 Q (E σ)
theorem pe_callZ (F : FnZ X.prog X.w X.K X.mg X.base CX k f fd ps sp) (hr : RoomH k X.A) (hgd : X.A.guards = some []) (hot : Hot1 X.A p) (hp : p ∈ X.pn) (hg : Gl X x) (hm : X.mg x = some (.ref f)) (hk : PySem.W.keepIn X.K (.ref f) = true) (hb : Binds X.K fd ps []) (hx : ∀ σ, PassesAt CX X σ (E σ))
    (ha : PA X (e :: es) t) (hdb : (x == ("__debug__" : Str)) = false := by decide) (he : starEach (e :: es) X.env = (false, eval e X.env) :: starEach es X.env := by rfl) (hpl : (backTo pos (starEach es X.env)).any (·.1) = false := by rfl) :
    PE X (.Call (.Name x q) (e :: es) [] pos) (tCallZ sp p E t) := by
  refine ⟨fun pins s σ H Q I h => ?_⟩
  refine wpAny_Call_Name_kw (ld_glob I hg hm ?_ hdb)
  refine PySem.W.callWith_K (h₀ := X.base) I.ok.mod.kin hk (thn (ha.run pos pins s σ H _ I h) fun us s1 ⟨vs, H1, I1, r, q⟩ => ⟨I1.kIn, ?_⟩) he hpl
  show wpAny _ _ (call (.ref f) us) _ _ _
  have hl : us.length = ps.length := by rw [← r.length]; exact F.len _ _ _ _ _ q
  have b := hb s1 us I1.kIn (by rw [List.append_nil]; exact hl)
  rw [List.append_nil] at b
  have P1 := I1.pin p (List.mem_append_left _ hp)
  have hpin : PinOk X.stack H1 s1 p := ⟨P1.1, P1.2.1, fun hm => (List.mem_cons.mp (I1.stkSub p.1 hm)).elim P1.2.2.1 P1.2.2.2.1, P1.2.2.2.2⟩
  refine wpAny_call (codeAny_mono (F.run X.A X.stack s1 H1 ⟨us, []⟩ us vs Q (E σ) p hr hgd hot hpin I1.env0 b r q) fun r s' hq => ?_)
  cases r with
  | error e => exact hx σ pins H1 s1 e s' I1 hq
  | ok fl =>
    cases fl with
    | ret u => exact I1.after hq
    | next => exact False.elim hq
    | brk => exact False.elim hq
    | cont => exact False.elim hq
end
/-! ### the handled error, asked and read -/
/-- p is an error of the class at C with these fields -/
def PinE (H : Hp) (p : Addr × Obj) (C : Addr) (fs : List (Str × V)) : Prop := (∃ vs, p.2.data = .fields vs) ∧ ((fs = [] ∧ Zc (.ref C) none p.2) ∨ ∃ d, Zc (.ref C) (some d) p.2 ∧ H d = some (.xd fs))
theorem PinE.up {H H' : Hp} {p : Addr × Obj} {C : Addr} {fs : List (Str × V)} (h : PinE H p C fs) (s : Same H H') : PinE H' p C fs :=
  ⟨h.1, h.2.elim .inl fun ⟨d, z, e⟩ => .inr ⟨d, z, s _ _ e⟩⟩
section
variable {X : Cx} {pins : List (Addr × Obj)} {σ : L2.St} {H : Hp} {s : Shared} {p : Addr × Obj} {C : Addr} {fs : List (Str × V)}
theorem pin_inst (I : L2.Inv X pins σ H s) (hp : p ∈ X.pn) (e : PinE H p C fs) : ∃ od, PySem.W.InstAt s.heap p.1 p.2 C od ∧ (∀ f v, fs.lookup f = some v → ∃ o u, od = some o ∧ PySem.W.lookIn f o = some (some u) ∧ RelV v u) := by
  have P := (I.pin p (List.mem_append_left _ hp)).1
  obtain ⟨a, oc, od, oda, osl⟩ := p
  obtain ⟨⟨vs, hv⟩, h⟩ := e
  dsimp only at hv P h
  subst hv
  rcases h with ⟨e0, h1, h2⟩ | ⟨d, ⟨h1, h2⟩, ed⟩
  · dsimp only at h1 h2
    subst h1 h2
    refine ⟨none, ⟨P, rfl, rfl, trivial⟩, fun f v l => ?_⟩
    rw [e0] at l
    cases l
  · dsimp only at h1 h2
    subst h1 h2
    have hx : ObjOk X.prog X.w H s.heap d (.xd fs) := I.hok d _ ed
    obtain ⟨mA, hns, hr⟩ := hx
    obtain ⟨o, ho, hl⟩ := lookIn_ns hns
    refine ⟨some o, ⟨P, rfl, rfl, ho⟩, fun f v l => ?_⟩
    obtain ⟨u, hu, ru⟩ := RelO.some_of (v := v) (o := mA f) (by rw [← l]; exact hr f)
    exact ⟨o, u, rfl, by rw [hl, hu], ru⟩
/-- isinstance(e, c), e the handled error -/
def rIsP (K : PySem.W.Frag) (p : Addr × Obj) : List V → Hp → VK → Prop := fun xs H Q => ∃ (D : Addr) (fs : List (Str × V)) (c : V) (cv : Value) (b : Bool), xs = [.ref p.1, c] ∧ PinE H p D fs ∧ ExcC K D ∧ (∀ u, RelV c u → u = cv) ∧ PySem.W.kitOne K (.ref D) cv = some b ∧ Q (.bl b) H
theorem isPL {K : PySem.W.Frag} (hK : X.K = K) (hp : p ∈ X.pn) : CallR X (.builtin "isinstance") (rIsP K p) := by
  subst hK
  intro pins s σ H xs us Q I r ⟨D, fs, c, cv, b, exs, e, C, hcv, ek, q⟩
  subst exs
  cases r with
  | cons rx rr =>
    cases rr with
    | cons rt rr =>
      cases rr
      cases rx
      have ec := hcv _ rt
      subst ec
      obtain ⟨od, J, _⟩ := pin_inst I hp e
      obtain ⟨cd, hcd, _⟩ := PySem.W.any_some C.hd
      exact PySem.W.kia_one (PySem.W.kitx_exc (ox := p.2) (od := od) (by rw [hcd]; rfl) C.hg C.hk C.hs C.ha C.hn C.ht C.hm) I.kIn J ek (fun z => nomatch z) fun tk => ⟨.bl b, H, I.kept (t' := tk) fun _ _ z => z, rfl, q⟩
/-- e.f, e the handled error -/
def tPinF (K : PySem.W.Frag) (p : Addr × Obj) (f : Str) (te : TE) : TE := fun σ H Q => te σ H fun x H1 => ∃ D fs v, x = .ref p.1 ∧ PinE H1 p D fs ∧ XfC K D ∧ PySem.W.findIn K (.ref D) f = some none ∧ fs.lookup f = some v ∧ Q v H1
theorem pinFL {K : PySem.W.Frag} {e : Expr} {te : TE} {pos : Pos} {n : Str} (hK : X.K = K) (hp : p ∈ X.pn) (he : PE X e te) (hb : attributeBase e n X.env (eval e X.env) = eval e X.env := by rfl) : PE X (.Attribute e n pos) (tPinF K p n te) := by
  subst hK
  refine ⟨fun pins s σ H Q I h => ?_⟩
  refine attr_of hb (thn (he.run pins s σ H _ I h) fun u s1 ⟨x, H1, I1, rx, D, fs, v, ex, ea, T, hno, l, q⟩ => ?_)
  subst ex
  obtain rfl : u = Value.ref p.1 := rx
  obtain ⟨od, J, look⟩ := pin_inst I1 hp ea
  obtain ⟨o, u, eo, hl, ru⟩ := look n v l
  subst eo
  exact HandSPX.exc_get I1.kIn J T.ga T.gg T.exC (PySem.W.findObj_own T.hdC hno rfl hl) (handed_of ru) ⟨v, H1, I1.tok _, ru, q⟩
end
/-- repr(a field) -/
def rReprF : List V → Hp → VK → Prop := fun xs H Q => (xs = [.non] ∧ Q (.str "None") H) ∨ ∃ i : Int, xs = [.int i] ∧ i.natAbs.log2 < 1920 ∧ Q (.str (toString i)) H
theorem reprF {X : Cx} : CallR X (.builtin "repr") rReprF := by
  intro pins s σ H xs us Q I r h
  rcases h with ⟨rfl, q⟩ | ⟨i, rfl, hz, q⟩
  · cases r with
    | cons r1 r2 =>
      cases r2
      cases r1
      exact PySem.P.repr_of_none ⟨.str "None", H, I.tok _, ⟨_, rfl⟩, q⟩
  · cases r with
    | cons r1 r2 =>
      cases r2
      obtain ⟨t, rfl⟩ := r1
      exact PySem.P.repr_of_int hz ⟨.str _, H, I.tok _, ⟨_, rfl⟩, q⟩
end Sd

/-! ### errors with an own __init__ raised, their context None -/
namespace Sd
open PySem PySem.Spec PyProof.Rows L2 L2H HotX
section
variable {P : Program} {w : World} {K : PySem.W.Frag} {mg : Str → Option Value} {base : Heap}
theorem okXN {x qual : Str} {st : Stmt} {f : Addr} {fd : FuncData} {N ps : List Str} {k : Nat} {sp : Sp} (F : Fun K x qual st f fd) (S : FnScope N ps (defScope st)) (len : ∀ vs H Q E, sp vs H Q E → vs.length = ps.length)
    (hb : ∀ (cdv : Value) (A : Around) (outer : List Env) (s : Shared) (H : Hp) (vs : List V) (Q : VK) (E : XK), Room k (A.deeper (envOfC qual (defScope st) s.heap.objs.size f cdv)) → sp vs H Q E →
      ∃ t, PSs (cxOf (L2N.CX P w) P w K mg base N qual (defScope st) f cdv A outer s H E) (defBody st) t ∧ t { nx := fun _ H' => Q .non H', rt := Q } (L2.start N vs) H) : FnOk P w K mg base (L2N.CX P w) (k + 1) f fd ps sp := by
  obtain ⟨oc, od, kV, doc, pm, an, cdv, ct, osl, rfl, lk, hcd⟩ := F.ex
  exact fn_of lk hcd S len fun A outer s H vs Q E hr hsp => hb cdv A outer s H vs Q E hr hsp
end
theorem takesN0 {X : Cx} : L2N.Takes X (fun _ _ _ _ => False) := fun _ _ x => by
  obtain ⟨_, _, _, _, _, _, _, _, _, _, _, _, _, _, _, _, z⟩ := x
  exact z.elim
section
variable {X : Cx} {CX : CXT} {x : Str} {C fI : Addr} {k : Nat} {fd : FuncData} {ps : List Str} {sp : Sp} {e : Expr} {es : List Expr} {p pos : Pos} {ta : TA}
/-- C(e), to be raised -/
def tMkN (C : Addr) (sp : Sp) (ta : TA) : L2.St → Hp → XK → Prop := fun σ H Q => ta σ H fun vs H1 => vs.length = 1 ∧ ∀ a, H1 a = none → sp (.ref a :: vs) (upd H1 a (exo a C none))
  (fun v H2 => v = .non ∧ ∃ (d : Addr) (fs : List (Str × V)), H2 a = some (exo a C (some d)) ∧ H2 d = some (exd d fs) ∧ H1 d = none ∧ Q (.ref C) (some d) (upd (del H2 a) d (.xd fs))) (fun _ _ _ => False)
theorem pmk_oexN (T : OexC X.K C) (iC : PySem.W.findIn X.K (.ref C) "__init__" = some (some (.ref fI))) (tI : PySem.W.typeIn X.K (.ref fI) = some (.type "function"))
    (F1 : FnOk X.prog X.w X.K X.mg X.base CX k fI fd ps sp) (hr : Room (k + 1) X.A) (hb : Binds X.K fd ps []) (hx : Passes CX X (fun _ _ _ => False)) (hg : Gl X x) (hm : X.mg x = some (.ref C)) (hp2 : ps.length = 2) (ha : PA X (e :: es) ta)
    (hdb : (x == ("__debug__" : Str)) = false := by decide) (he : starEach (e :: es) X.env = (false, eval e X.env) :: starEach es X.env := by rfl) (hpl : (backTo pos (starEach es X.env)).any (·.1) = false := by rfl) :
    L2N.PMk X (.Call (.Name x p) (e :: es) [] pos) (tMkN C sp ta) := by
  intro pins s σ H Q I h
  obtain ⟨nm, q, N, bs, bm, sn, sub, ab, col, dd, k0, k1, k2, k3, k5, hC, hbm⟩ := T.cls
  refine wpAny_Call_Name_kw (ld_glob I hg hm ?_ hdb)
  refine PySem.W.callWith_K (h₀ := X.base) I.ok.mod.kin T.kC (thn (ha.run pos pins s σ H _ I h) fun us s1 ⟨vs, H1, I1, r1, hz, q1⟩ => ⟨I1.kIn, ?_⟩) he hpl
  show wpAny _ _ (call (.ref C) us) _ _ _
  have hu1 : us.length = 1 := by
    rw [← Paired.length r1]
    exact hz
  obtain ⟨hp, g, dr, tk, os⟩ := s1
  have hsz : hp.objs.size ≤ hp.objs.size + 1 := Nat.le_succ _
  have hq := q1 (hp.objs.size + 1) (I1.hok.fresh hsz)
  have kk : ∀ b o, hp.get? b = some o → ((hp.push (PySem.W.kdv_tup us)).push (PySem.HandSPX.excO C hp.objs.size)).get? b = some o := fun b o e => Heap.get?_push_of_some _ (Heap.get?_push_of_some _ e)
  have hget : ((hp.push (PySem.W.kdv_tup us)).push (PySem.HandSPX.excO C hp.objs.size)).get? (hp.objs.size + 1) = some (PySem.HandSPX.excO C hp.objs.size) := by heap_get
  have I2 : L2.Inv X pins σ (upd H1 (hp.objs.size + 1) (exo (hp.objs.size + 1) C none)) ⟨(hp.push (PySem.W.kdv_tup us)).push (PySem.HandSPX.excO C hp.objs.size), g, dr, tk, os⟩ :=
    I1.laid (t' := tk) (a := hp.objs.size + 1) (o := exo (hp.objs.size + 1) C none) (h' := (hp.push (PySem.W.kdv_tup us)).push (PySem.HandSPX.excO C hp.objs.size)) kk hsz (exo_ok hget)
  have b2 := hb _ (Value.ref (hp.objs.size + 1) :: us) I2.kIn (by rw [List.append_nil, List.length_cons, hu1, hp2])
  rw [List.append_nil] at b2
  have r2 : Vals (V.ref (hp.objs.size + 1) :: vs) (Value.ref (hp.objs.size + 1) :: us) := .cons rfl r1
  refine wpAny_call (PySem.HandSPX.sd_call F.excBase_ValueError (fun Y => PySem.HandSPX.refsVE_contains Y bm hbm) (I1.kIn _ _ hC) (PySem.W.looks_findIn I1.kIn iC) (fun self => PySem.W.bind_fn I1.kIn self tI) (by rw [sizeLine_eq]; omega)
    (codeAny_mono (F1.run _ X.stack _ _ ⟨Value.ref (hp.objs.size + 1) :: us, []⟩ (Value.ref (hp.objs.size + 1) :: us) _ _ (fun _ _ _ => False) (hr.make C us []) (I2.env0.make C us []) b2 r2 hq) fun r s' hq' => ?_))
  cases r with
  | error er => exact hx pins σ _ _ er s' I2 hq'
  | ok fl =>
    cases fl with
    | ret u =>
      obtain ⟨v, H2, os2, bare2, un2, hok2, rv, ev, d, fs, ea, ed, hd1, q2⟩ := hq'
      subst ev
      obtain ⟨h2, g2, d2, t2, os'⟩ := s'
      obtain ⟨t0, G, J, kG, ge, hoe, na⟩ := mk_end0 (d2 := d2) (t2 := t2) I1 hsz kk un2 hok2 os2 bare2 ea ed hd1
      exact ⟨rv, hp.objs.size + 1, _, _, ⟨G, g2, d2, t2, os'⟩, _, .ref C, some d, rfl, J, kG, ge, hoe, ⟨rfl, rfl, fun vs hv => by cases hv; rfl⟩, rfl, rfl, na, rfl, bare2, raises_own T.exC T.tyC, q2⟩
    | next => exact False.elim hq'
    | brk => exact False.elim hq'
    | cont => exact False.elim hq'
end
end Sd

/-! ### repr of things, a dict of one text among them -/
namespace Sd
open PySem PySem.Spec PyProof.Rows L2
section
variable {X : Cx} {pins : List (Addr × Obj)} {σ : L2.St} {H : Hp} {s : Shared}
theorem one_reads (I : L2.Inv X pins σ H s) {a : Addr} {k : Str} {n : Int} (h : H a = some (.dK [(.inr k, .int n)])) : Reads s.heap (.ref a) (.dict [(.str k, .int n)]) (a :: [] ++ []) ∧ sysModules ∉ (a :: [] ++ [] : List Addr) := by
  obtain ⟨_, hsys, vs, kv, o, es, ep, e, ex, ed, lo, pr, _⟩ := (show ObjOk X.prog X.w H s.heap a (.dK [(.inr k, .int n)]) from I.hok a _ h)
  cases kv with
  | @cons _ b _ _ h1 r =>
    cases r
    obtain ⟨b1, b2⟩ := b
    obtain ⟨ek, t, ev⟩ := h1
    dsimp only at ek ev
    subst ek ev
    cases hl : es.toList with
    | nil =>
      rw [hl] at pr
      cases pr
    | cons en l =>
      rw [hl] at pr
      cases pr with
      | cons pk pv pr2 =>
        cases pr2
        obtain ⟨i, t2, e1, _⟩ | ⟨y, t2, e1, e2⟩ := keyIs_shape (k := .inr k) (v := en.key) pk
        · cases e1
        · cases e1
          refine ⟨.dict e ex.1 ed (as := []) (bs := []) ?_ ?_, ?_⟩
          · rw [hl]
            show ReadsAll s.heap [en.key] [.str k] ([] ++ [])
            rw [e2]
            exact .cons (.str k t2) .nil
          · rw [hl]
            show ReadsAll s.heap [en.val] [.int n] ([] ++ [])
            rw [pv]
            exact .cons (.int n t) .nil
          · intro z
            simp only [List.append_nil, List.mem_cons, List.not_mem_nil, or_false] at z
            rw [← z] at hsys
            exact absurd hsys (by decide)
end
/-- repr tells x as s -/
def Rep (H : Hp) (x : V) (u : Str) : Prop := (∃ d : PyData, Dq H x d ∧ d.showable = true ∧ d.depth ≤ 32 ∧ d.shown.length ≤ sizeLine ∧ u = d.shown) ∨
  ∃ (a : Addr) (k : Str) (n : Int), x = .ref a ∧ H a = some (.dK [(.inr k, .int n)]) ∧ (PyData.dict [(.str k, .int n)]).showable = true ∧ (PyData.dict [(.str k, .int n)]).depth ≤ 32 ∧ (PyData.dict [(.str k, .int n)]).shown.length ≤ sizeLine ∧ u = (PyData.dict [(.str k, .int n)]).shown
theorem Rep.up {H H' : Hp} {x : V} {u : Str} (h : Rep H x u) (s : Same H H') : Rep H' x u := by
  rcases h with ⟨d, hd, r⟩ | ⟨a, k, n, e, ha, r⟩
  · exact .inl ⟨d, hd.same s, r⟩
  · exact .inr ⟨a, k, n, e, s _ _ ha, r⟩
def rReprT : List V → Hp → VK → Prop := fun xs H Q => ∃ (x : V) (u : Str), xs = [x] ∧ Rep H x u ∧ Q (.str u) H
theorem reprT {X : Cx} (hA : X.A.guards = some []) {k : Nat} (hr : Room k X.A) : CallR X (.builtin "repr") rReprT := by
  intro pins s σ H xs us Q I r ⟨x, u, ex, h, q⟩
  subst ex
  rcases h with ⟨d, hd, h1, h2, h3, eu⟩ | ⟨a, k, n, ea, ha, h1, hdep, h3, eu⟩
  · subst eu
    exact reprQ hA hr pins s σ H _ us Q I r ⟨x, d, rfl, hd, h1, h2, h3, q⟩
  · subst ea eu
    cases r with
    | cons r1 r2 =>
      cases r2
      cases r1
      have hu := hr.units
      obtain ⟨rd, ns⟩ := one_reads I ha
      exact repr_of_reads' rd h1 (fun _ => ns) hA (by omega) (fun _ _ e => e) (fun h' u tk kp => ⟨.str _, H, I.kept (t' := tk) kp, ⟨u, rfl⟩, q⟩) h3
end Sd

namespace Sd
open PySem PySem.Spec
/-! ### choices: all ascending lists of r numbers from lo to lo + m - 1, ascending -/
def cho : Nat → Nat → Nat → List (List Nat)
  | _, _, 0 => [[]]
  | _, 0, _ + 1 => []
  | lo, m + 1, r + 1 => (cho (lo + 1) m r).map (lo :: ·) ++ cho (lo + 1) m (r + 1)
theorem cho_zero (lo m : Nat) : cho lo m 0 = [[]] := by cases m <;> rfl
theorem cho_len : ∀ (lo m r : Nat) {l : List Nat}, l ∈ cho lo m r → l.length = r
  | _, m, 0, l, h => by rw [cho_zero] at h; rw [List.mem_singleton.mp h]; rfl
  | _, 0, _ + 1, l, h => by cases h
  | lo, m + 1, r + 1, l, h => by
    rw [cho, List.mem_append, List.mem_map] at h
    rcases h with ⟨t, ht, rfl⟩ | h
    · rw [List.length_cons, cho_len _ _ _ ht]
    · exact cho_len _ _ _ h
theorem cho_mem : ∀ (lo m r : Nat) {l : List Nat}, l ∈ cho lo m r ↔ (l.length = r ∧ l.Pairwise (· < ·) ∧ ∀ x ∈ l, lo ≤ x ∧ x < lo + m)
  | _, m, 0, l => by
    rw [cho_zero, List.mem_singleton]
    constructor
    · rintro rfl; simp
    · rintro ⟨h, _⟩; exact List.eq_nil_of_length_eq_zero h
  | lo, 0, r + 1, l => by
    constructor
    · intro h; cases h
    · rintro ⟨h, _, k⟩
      cases l with
      | nil => cases h
      | cons x l => have := k x (by simp); omega
  | lo, m + 1, r + 1, l => by
    rw [cho, List.mem_append, List.mem_map]
    constructor
    · rintro (⟨t, ht, rfl⟩ | h)
      · obtain ⟨h1, h2, h3⟩ := (cho_mem _ _ _).mp ht
        refine ⟨by rw [List.length_cons, h1], List.pairwise_cons.mpr ⟨fun x hx => by have := h3 x hx; omega, h2⟩, fun x hx => ?_⟩
        rcases List.mem_cons.mp hx with rfl | hx
        · omega
        · have := h3 x hx; omega
      · obtain ⟨h1, h2, h3⟩ := (cho_mem _ _ _).mp h
        exact ⟨h1, h2, fun x hx => by have := h3 x hx; omega⟩
    · rintro ⟨h1, h2, h3⟩
      cases l with
      | nil => cases h1
      | cons x l =>
        rw [List.pairwise_cons] at h2
        have hx := h3 x (by simp)
        by_cases e : x = lo
        · subst e
          refine .inl ⟨l, (cho_mem _ _ _).mpr ⟨by simpa using h1, h2.2, fun y hy => ?_⟩, rfl⟩
          have := h2.1 y hy; have := h3 y (by simp [hy]); omega
        · refine .inr ((cho_mem _ _ _).mpr ⟨h1, List.pairwise_cons.mpr h2, fun y hy => ?_⟩)
          rcases List.mem_cons.mp hy with rfl | hy
          · omega
          · have := h2.1 y hy; have := h3 y (by simp [hy]); omega
/-- the first of them -/
def chof (lo r : Nat) : List Nat := (List.range r).map (lo + ·)
theorem chof_succ (lo r : Nat) : chof lo (r + 1) = lo :: chof (lo + 1) r := by
  unfold chof
  rw [List.range_succ_eq_map, List.map_cons, List.map_map, Nat.add_zero]
  congr 1
  apply List.map_congr_left
  intro x _
  show lo + (x + 1) = lo + 1 + x
  omega
theorem cho_head : ∀ (lo m r : Nat), r ≤ m → (cho lo m r).head? = some (chof lo r)
  | _, m, 0, _ => by rw [cho_zero]; rfl
  | lo, m + 1, r + 1, h => by
    have := cho_head (lo + 1) m r (by omega)
    rw [cho, List.head?_append, List.head?_map, this, chof_succ]
    rfl
/-- the list behind a list, none behind the last one -/
def nxc (n : Nat) (l : List Nat) : Option (List Nat) :=
  let k := l.length
  match (List.range k).reverse.find? fun i =>
    l.getD i 0 != i + n - k with
  | none => none
  | some i => some (l.take i ++
    (List.range (k - i)).map (l.getD i 0 + 1 + ·))
theorem nxc_map (n : Nat) (l : List Nat) : nxc n l = ((List.range l.length).reverse.find? fun i =>
    l.getD i 0 != i + n - l.length).map fun i =>
    l.take i ++ (List.range (l.length - i)).map (l.getD i 0 + 1 + ·) := by
  unfold nxc
  dsimp only
  cases (List.range l.length).reverse.find? fun i => l.getD i 0 != i + n - l.length <;> rfl
theorem range_rev_succ (k : Nat) : (List.range (k + 1)).reverse = (List.range k).reverse.map (· + 1) ++ [0] := by
  rw [List.range_succ_eq_map, List.reverse_cons, List.map_reverse]
theorem nxc_cons (n x : Nat) (l : List Nat) : nxc n (x :: l) = match nxc n l with
    | some t => some (x :: t)
    | none => if x ≠ n - (l.length + 1) then some (chof (x + 1) (l.length + 1)) else none := by
  rw [nxc_map, nxc_map]
  rw [List.length_cons, range_rev_succ, List.find?_append, List.find?_map]
  have e : ((fun i => (x :: l).getD i 0 != i + n - (l.length + 1)) ∘ fun x => x + 1) = fun i => l.getD i 0 != i + n - l.length := by
    funext i
    show ((x :: l).getD (i + 1) 0 != i + 1 + n - (l.length + 1)) = _
    rw [List.getD_cons_succ, show i + 1 + n - (l.length + 1) = i + n - l.length by omega]
  rw [e]
  cases hf : (List.range l.length).reverse.find? fun i => l.getD i 0 != i + n - l.length with
  | some i =>
    simp only [Option.map_some, Option.or_some, Option.some_or, Option.some.injEq]
    rw [List.take_succ_cons, List.getD_cons_succ, List.cons_append, show l.length + 1 - (i + 1) = l.length - i by omega]
  | none =>
    simp only [Option.map_none, Option.none_or, List.find?_cons, List.find?_nil]
    by_cases q : x = n - (l.length + 1)
    · rw [if_neg (by simp [q]), List.getD_cons_zero, Nat.zero_add, show (x != n - (l.length + 1)) = false by simp [q]]
      rfl
    · rw [if_pos q, List.getD_cons_zero, Nat.zero_add, show (x != n - (l.length + 1)) = true by simp [q]]
      rfl
theorem nxc_nil (n : Nat) : nxc n [] = none := rfl
/-- one behind the other -/
theorem cho_links : ∀ (lo m r : Nat), r ≤ m → (∀ i a, (cho lo m r)[i]? = some a → nxc (lo + m) a = (cho lo m r)[i + 1]?)
  | lo, m, 0, _, i, a, h => by
    rw [cho_zero] at h ⊢
    cases i with
    | zero => rw [← Option.some.inj h]; rfl
    | succ i => simp at h
  | lo, m + 1, r + 1, hr, i, a, h => by
    rw [cho] at h ⊢
    have IA := cho_links (lo + 1) m r (by omega)
    by_cases hi : i < (cho (lo + 1) m r).length
    · rw [List.getElem?_append_left (by simpa using hi), List.getElem?_map] at h
      cases ht : (cho (lo + 1) m r)[i]? with
      | none => rw [ht] at h; cases h
      | some t =>
        rw [ht] at h
        have ea : a = lo :: t := (Option.some.inj h).symm
        subst ea
        have hn := IA i t ht
        have hl : t.length = r := cho_len _ _ _ (List.mem_of_getElem? ht)
        rw [nxc_cons, show lo + (m + 1) = lo + 1 + m by omega, hn, hl]
        by_cases hi2 : i + 1 < (cho (lo + 1) m r).length
        · rw [List.getElem?_append_left (by simpa using hi2), List.getElem?_map, List.getElem?_eq_getElem hi2]
          rfl
        · have : i + 1 = (cho (lo + 1) m r).length := by omega
          rw [List.getElem?_eq_none (by omega), List.getElem?_append_right (by simp; omega), List.length_map, this, Nat.sub_self, ← List.head?_eq_getElem?]
          by_cases q : r + 1 ≤ m
          · rw [cho_head _ _ _ q]
            simp only []
            rw [if_pos (by omega)]
          · have e : m = r := by omega
            subst e
            simp only []
            rw [if_neg (by omega)]
            have : cho (lo + 1) m (m + 1) = [] := by
              apply List.eq_nil_iff_forall_not_mem.mpr
              intro l hl'
              obtain ⟨h1, h2, h3⟩ := (cho_mem _ _ _).mp hl'
              have hnd : l.Nodup := h2.imp (fun h => Nat.ne_of_lt h)
              have hsub : l ⊆ (List.range m).map (lo + 1 + ·) := fun x hx => by
                have := h3 x hx
                exact List.mem_map.mpr ⟨x - (lo + 1), List.mem_range.mpr (by omega), by omega⟩
              have := hnd.length_le_of_subset hsub
              simp at this
              omega
            rw [this]
            rfl
    · rw [List.getElem?_append_right (by simp; omega)] at h ⊢
      rw [List.length_map] at h ⊢
      have q : r + 1 ≤ m := by
        apply Classical.byContradiction
        intro q
        have hmem := List.mem_of_getElem? h
        obtain ⟨h1, h2, h3⟩ := (cho_mem _ _ _).mp hmem
        have hnd : a.Nodup := h2.imp (fun h => Nat.ne_of_lt h)
        have hsub : a ⊆ (List.range m).map (lo + 1 + ·) := fun x hx => by
          have := h3 x hx
          exact List.mem_map.mpr ⟨x - (lo + 1), List.mem_range.mpr (by omega), by omega⟩
        have := hnd.length_le_of_subset hsub
        simp at this
        omega
      have IB := cho_links (lo + 1) m (r + 1) q _ a h
      rw [show lo + (m + 1) = lo + 1 + m by omega, IB, show i + 1 - (cho (lo + 1) m r).length = i - (cho (lo + 1) m r).length + 1 by omega]
/-- the lists of r numbers below n -/
def chs (n r : Nat) : List (List Nat) := cho 0 n r
theorem chs_first {n r : Nat} (h : r ≤ n) : (chs n r)[0]? = some (List.range r) := by
  rw [← List.head?_eq_getElem?, chs, cho_head 0 n r h, chof]
  simp
theorem chs_next {n r i : Nat} {a : List Nat} (h : r ≤ n) (e : (chs n r)[i]? = some a) : nxc n a = (chs n r)[i + 1]? := by
  have := cho_links 0 n r h i a e
  rw [Nat.zero_add] at this
  exact this
theorem chs_lt {n r : Nat} {l : List Nat} (h : l ∈ chs n r) : ∀ x ∈ l, x < n := fun x hx => by
  have := ((cho_mem 0 n r).mp h).2.2 x hx
  omega
end Sd
namespace Sd
open PySem PySem.Spec PyProof.Rows L2
open Sem (wp)
/-! ### itertools.combinations: its class -/
theorem mro_cb : mroOf (.type "itertools.combinations") = pure [.type "itertools.combinations", .type "object"] := by rw [mroOf_type]; kernel_rfl
theorem lookup_cb_new : typeLookup (.type "itertools.combinations") "__new__" = pure (some (.builtin "itertools.combinations.__new__")) := by rw [typeLookup_type, builtinLookup_eq_fast]; kernel_rfl
theorem sub_cb : isSubtype (.type "itertools.combinations") (.type "itertools.combinations") = pure true := by rw [isSubtype_type]; kernel_rfl
theorem init_cb : Slot "itertools.combinations" "__init__" "object.__init__" :=
  .of (owner := "object") (n := "__init__") (by rw [typeLookup_type, builtinLookup_eq_fast]; kernel_rfl) (by decide +kernel) (by decide +kernel) (by decide +kernel)
    (by first | exact .inl (by decide +kernel) | exact .inr (by decide +kernel)) (by rw [isSubtype_type]; kernel_rfl)
theorem called_cb : TypeCalled "itertools.combinations" "itertools.combinations.__new__" "object.__init__" :=
  ⟨by decide +kernel, by decide +kernel, ⟨_, _, mro_cb⟩, madeBy_type mro_cb lookup_cb_new (by decide +kernel), by decide +kernel, sub_cb, init_cb⟩
theorem typeCall_cb (a b : Value) : checkTypeCall "itertools.combinations" ⟨[a, b], []⟩ = pure () := by kernel_rfl
theorem newCall_cb (a b : Value) : checkBuiltinCall "itertools.combinations.__new__" ⟨[.type "itertools.combinations", a, b], []⟩ = pure () := by kernel_rfl
theorem entry_cb_new : entryFor table "itertools.combinations.__new__" = some Builtin.«itertools.combinations.__new__» := entryFor_of_tree (by kernel_rfl)
theorem iter_cb : Slot "itertools.combinations" "__iter__" "itertools.combinations.__iter__" :=
  .of (owner := "itertools.combinations") (n := "__iter__") (by rw [typeLookup_type, builtinLookup_eq_fast]; kernel_rfl) (by decide +kernel) (by decide +kernel) (by decide +kernel)
    (by first | exact .inl (by decide +kernel) | exact .inr (by decide +kernel)) sub_cb
theorem next_cb : Slot "itertools.combinations" "__next__" "itertools.combinations.__next__" :=
  .of (owner := "itertools.combinations") (n := "__next__") (by rw [typeLookup_type, builtinLookup_eq_fast]; kernel_rfl) (by decide +kernel) (by decide +kernel) (by decide +kernel)
    (by first | exact .inl (by decide +kernel) | exact .inr (by decide +kernel)) sub_cb
theorem entry_cb_iter : entryFor table "itertools.combinations.__iter__" = some Builtin.«dict_keyiterator.__iter__» :=
  entryFor_alias (id' := "dict_keyiterator.__iter__") (by kernel_rfl) (by first | rfl | decide +kernel | (unfold String.splitOn; simp +decide [String.splitOnAux])) (by decide +kernel) (by kernel_rfl)
theorem entry_cb_next : entryFor table "itertools.combinations.__next__" = some Builtin.«itertools.combinations.__next__» := entryFor_of_tree (by kernel_rfl)
theorem args_cb_iter (a : Value) : argsOk "itertools.combinations.__iter__" ⟨[a], []⟩ := by
  unfold argsOk; kernel_rfl
theorem args_cb_next (a : Value) : argsOk "itertools.combinations.__next__" ⟨[a], []⟩ := by
  unfold argsOk; kernel_rfl
theorem noDict_cb : typeHasDict (.type "itertools.combinations") = false := by decide +kernel
end Sd
namespace Sd
open PySem PySem.Spec PyProof.Rows L2
open Sem (wp)
abbrev IsTupC (h : Heap) (T : Addr) (vs : Array Value) : Prop := h.get? T = some { cls := .type "tuple", data := .seq vs }
theorem class_cb (l : List Value) : Builtin.Itertools.itClassAndRest "combinations" ⟨.type "itertools.combinations" :: l, []⟩ = pure (.type "itertools.combinations", l) := by
  have h := sub_cb
  unfold Builtin.Itertools.itClassAndRest
  have e : "itertools." ++ "combinations" = "itertools.combinations" := by decide
  simp only [e, isType, h, pure_bind, Bool.not_true, Bool.false_eq_true, if_false]
theorem bind_cb (x y : Value) : Builtin.Itertools.itBindNamed "combinations" ["iterable", "r"] 2 2 [x, y] [] = pure [some x, some y] := by kernel_rfl
theorem index_cb (k : Nat) (t : Tok) (hk : k < 1000) : Builtin.Itertools.itSsizeArg (.int k t) = pure (k : Int) := by
  unfold Builtin.Itertools.itSsizeArg
  have h1 : (decide ((k : Int) < -(2 ^ 63 : Int)) || decide ((k : Int) ≥ 2 ^ 63)) = false := by
    rw [Bool.or_eq_false_iff]
    exact ⟨decide_eq_false (by omega), decide_eq_false (by omega)⟩
  show (pure (k : Int) >>= _) = _
  rw [pure_bind]
  simp only [h1, Bool.false_eq_true, if_false]
/-- a combinations object: its pool, where it stands, what was handed out, its numbers -/
abbrev combO (T : Addr) (st : Int) (res : Value) (idx : List Nat) : Obj :=
  { cls := .type "itertools.combinations", dict := none, data := .fields (#[.ref T, rawInt st, res] ++ (idx.map fun (i : Nat) => rawInt i).toArray), slots := #[] }
abbrev IsComb (h : Heap) (z T : Addr) (st : Int) (res : Value) (idx : List Nat) : Prop := h.get? z = some (combO T st res idx)
section
variable {prog : Program} {w : World} {A : Around} {E : Value → Shared → Prop} {s : Shared} {r : Addr} {a b c : Int} {t u v : Tok} {n : Nat}
theorem code_comb_new {k : Nat} {kt : Tok} {Q₁ : Value → Shared → Prop} (hh : A.handled = none) (hr : IsRange s.heap r a b c t u v) (hsmall : Builtin.Range.small a b c = true) (hn : Builtin.Range.rangeSize a b c = n) (hlen : n ≤ 2 ^ 24) (hk : k ≤ n) (hk2 : k < 1000)
    (h : ∀ (h' : Heap) (tk : Nat) (acc : Array Value), (∀ b o, s.heap.get? b = some o → h'.get? b = some o) → ItemsOf (fun i v => ∃ t, v = .int (a + i * c) t) acc n →
      Q₁ (.ref (h'.objs.size + 1)) { s with heap := (h'.push { cls := .type "tuple", data := .seq acc }).push (combO h'.objs.size 0 .none (List.range k)), toks := tk }) :
    codeAny (model prog w) A (.call (.builtin "itertools.combinations.__new__") ⟨[.type "itertools.combinations", .ref r, .int k kt], []⟩) (wants Q₁ E) s := by
  refine codeAny_of_tree ?_
  show wpAny _ A.in1 (do checkBuiltinCall "itertools.combinations.__new__" ⟨[.type "itertools.combinations", .ref r, .int k kt], []⟩; again (.builtin "itertools.combinations.__new__" ⟨[.type "itertools.combinations", .ref r, .int k kt], []⟩)) _ _ s
  have hpl : plainId "itertools.combinations.__new__" = true := by decide +kernel
  refine wpAny_bind (wpAny_of_eq (newCall_cb _ _) (wpAny_pure ⟨plainId_quiet hpl _, codeAny_builtin entry_cb_new ?_⟩))
  rw [Around.under_plainId hpl _]
  unfold Builtin.«itertools.combinations.__new__»
  refine wpAny_bind ?_
  show wpAny _ _ (Builtin.Itertools.itClassAndRest "combinations" ⟨.type "itertools.combinations" :: [.ref r, .int k kt], []⟩ >>= _) _ _ _
  refine wpAny_bind (wpAny_of_eq (class_cb _) ?_)
  show wpAny _ _ (Builtin.Itertools.itBindNamed "combinations" ["iterable", "r"] 2 2 [.ref r, .int k kt] [] >>= _) _ _ _
  refine wpAny_bind (wpAny_of_eq (bind_cb _ _) ?_)
  show wpAny _ _ (Builtin.Itertools.itSsizeArg (.int k kt) >>= _) _ _ _
  refine wpAny_bind (wpAny_of_eq (index_cb k kt hk2) ?_)
  have hh1 : A.in1.handled = none := hh
  refine wpAny_bind (collect_range (A := A.in1) hh1 hr hsmall hn hlen fun h' tk acc hkp hacc => ?_)
  have hneg : ¬ ((k : Int) < 0) := by omega
  have hmany : ¬ (Builtin.Itertools.itTooMany (k : Int) = true) := by
    unfold Builtin.Itertools.itTooMany
    rw [decide_eq_true_iff]
    omega
  simp only [hneg, hmany, if_false]
  refine wpAny_bind (wpAny_newTuple ?_ (by rw [Array.length_toList, hacc.1, sizeLine_eq]; omega))
  refine wpAny_pure ?_
  have hlen2 : acc.toList.length = n := by rw [Array.length_toList, hacc.1]
  have e0 : (if ((k : Int).toNat > acc.toList.length) then (2 : Int) else 0) = 0 := if_neg (by rw [hlen2, Int.toNat_natCast]; omega)
  show wpAny _ _ (Builtin.Itertools.itNewRecord (.type "itertools.combinations") ([.ref h'.objs.size, rawInt (if ((k : Int).toNat > acc.toList.length) then 2 else 0), .none] ++ (List.range (k : Int).toNat).map fun (i : Nat) => rawInt i) >>= _) _ _ _
  rw [e0, Int.toNat_natCast]
  refine wpAny_bind ?_
  unfold Builtin.Itertools.itNewRecord
  rw [noDict_cb]
  simp only [Bool.not_false, if_true]
  refine wpAny_newObj_type ?_ (by
    show ([Value.ref h'.objs.size, rawInt 0, Value.none] ++ List.map (fun (i : Nat) => rawInt i) (List.range k)).toArray.size ≤ sizeLine + 2
    simp only [List.size_toArray, List.length_append, List.length_cons, List.length_nil, List.length_map, List.length_range, sizeLine_eq]
    omega)
  refine wpAny_pure ?_
  have ea : acc.toList.toArray = acc := by simp
  have h3 := h h' tk acc hkp hacc
  have ed : ([Value.ref h'.objs.size, rawInt 0, Value.none] ++ List.map (fun (i : Nat) => rawInt i) (List.range k)).toArray = #[.ref h'.objs.size, rawInt 0, .none] ++ ((List.range k).map fun (i : Nat) => rawInt i).toArray := by simp
  have es : (h'.push { cls := .type "tuple", data := .seq acc.toList.toArray }).objs.size = h'.objs.size + 1 := Heap.size_push ..
  show Q₁ (.ref (h'.push { cls := .type "tuple", data := .seq acc.toList.toArray }).objs.size) _
  rw [es, ed, ea]
  exact h3
theorem call_comb {k : Nat} {kt : Tok} {Q : Value → Shared → Prop} (hh : A.handled = none) (hr : IsRange s.heap r a b c t u v) (hsmall : Builtin.Range.small a b c = true) (hn : Builtin.Range.rangeSize a b c = n) (hlen : n ≤ 2 ^ 24) (hk : k ≤ n) (hk2 : k < 1000)
    (h : ∀ (h' : Heap) (tk : Nat) (acc : Array Value), (∀ b o, s.heap.get? b = some o → h'.get? b = some o) → ItemsOf (fun i v => ∃ t, v = .int (a + i * c) t) acc n →
      Q (.ref (h'.objs.size + 1)) { s with heap := (h'.push { cls := .type "tuple", data := .seq acc }).push (combO h'.objs.size 0 .none (List.range k)), toks := tk }) :
    wpAny (model prog w) A (call (.type "itertools.combinations") [.ref r, .int k kt]) Q E s := by
  refine callType_codes (Q₁ := fun obj s₁ => s₁.TypeIs obj "itertools.combinations" ∧ Q obj s₁) called_cb (typeCall_cb _ _) F.entry_object_init
    (code_comb_new (A := A.in1) hh hr hsmall hn hlen hk hk2 fun h' tk acc hk hacc => ⟨⟨combO h'.objs.size 0 .none (List.range k), ?_, rfl⟩, h h' tk acc hk hacc⟩) fun obj s₁ h₁ => ?_
  · rw [show h'.objs.size + 1 = (h'.push { cls := .type "tuple", data := .seq acc }).objs.size from (Heap.size_push ..).symm]
    exact Heap.get?_push_size _ rfl
  · exact ⟨h₁.1, F.args_object_init_3 obj _ _, object_init_meets called_cb.init.lookup called_cb.made (by decide) prog w A.in1 _ s₁ ⟨h₁.1, rfl, h₁.2⟩⟩
theorem iter_comb {z T : Addr} {st : Int} {res : Value} {idx : List Nat} {Q : Value → Shared → Prop} (hit : IsComb s.heap z T st res idx) (h : Q (.ref z) s) : wpAny (model prog w) A (pyIter (.ref z)) Q E s := by
  have hT : s.TypeIs (.ref z) "itertools.combinations" := ⟨_, hit, rfl⟩
  refine wpAny_pyIter_slot hT iter_cb (wpAny_call_entry iter_cb hT entry_cb_iter ?_ (args_cb_iter _))
  show wpAny _ _ (ret (.ref z)) _ _ s
  exact wpAny_pure ⟨_, rfl, "itertools.combinations", _, hT, next_cb.lookup, h⟩
/-- the numbers told by the record -/
theorem numbers_comb {z T : Addr} {st : Int} {res : Value} {idx : List Nat} {Q : List Nat → Shared → Prop} (hit : IsComb s.heap z T st res idx) (h : Q idx s) : wpAny (model prog w) A (Builtin.Itertools.itNumbersFrom (.ref z) 3) Q E s := by
  unfold Builtin.Itertools.itNumbersFrom
  refine wpAny_bind (wpAny_load hit ?_)
  refine wpAny_pure ?_
  have e : (List.drop 3 (#[Value.ref T, rawInt st, res] ++ (idx.map fun (i : Nat) => rawInt i).toArray).toList).map (fun v => match v with | .int n _ => n.toNat | _ => 0) = idx := by
    rw [Array.toList_append]
    show List.map _ (List.drop 3 ([Value.ref T, rawInt st, res] ++ (idx.map fun (i : Nat) => rawInt i))) = idx
    rw [List.drop_append_of_le_length (by simp), show List.drop 3 [Value.ref T, rawInt st, res] = [] from rfl, List.nil_append, List.map_map]
    conv => rhs; rw [← List.map_id idx]
    apply List.map_congr_left
    intro x _
    show ((x : Int)).toNat = x
    omega
  show Q _ s
  rw [show idx = _ from e.symm] at h
  exact h
end
end Sd
namespace Sd
open PySem PySem.Spec PyProof.Rows L2
open Sem (wp)
section
variable {prog : Program} {w : World} {A : Around} {E : Value → Shared → Prop} {s : Shared}
theorem comb_set1 (T : Addr) (st : Int) (res x : Value) (idx : List Nat) : (#[Value.ref T, rawInt st, res] ++ (idx.map fun (i : Nat) => rawInt i).toArray).setIfInBounds 1 x = #[.ref T, x, res] ++ (idx.map fun (i : Nat) => rawInt i).toArray := by
  apply Array.ext'
  simp
theorem comb_set2 (T : Addr) (st : Int) (res x : Value) (idx : List Nat) : (#[Value.ref T, rawInt st, res] ++ (idx.map fun (i : Nat) => rawInt i).toArray).setIfInBounds 2 x = #[.ref T, rawInt st, x] ++ (idx.map fun (i : Nat) => rawInt i).toArray := by
  apply Array.ext'
  simp
theorem comb_size (T : Addr) (st : Int) (res : Value) (idx : List Nat) : (#[Value.ref T, rawInt st, res] ++ (idx.map fun (i : Nat) => rawInt i).toArray).size = idx.length + 3 := by
  simp
theorem comb_get (T : Addr) (st : Int) (res : Value) (idx : List Nat) : (#[Value.ref T, rawInt st, res] ++ (idx.map fun (i : Nat) => rawInt i).toArray)[0]? = some (.ref T) ∧ (#[Value.ref T, rawInt st, res] ++ (idx.map fun (i : Nat) => rawInt i).toArray)[1]? = some (rawInt st) ∧
    (#[Value.ref T, rawInt st, res] ++ (idx.map fun (i : Nat) => rawInt i).toArray)[2]? = some res := by
  simp [Array.getElem?_append]
/-- a tuple of the pool's items at some indices is handed out -/
theorem comb_hands {z T : Addr} {st : Int} {res : Value} {pool : Array Value} {idx js : List Nat} {Q : Value → Shared → Prop} (hit : IsComb s.heap z T st res idx) (hT : IsTupC s.heap T pool) (hl : js.length ≤ 1000)
    (hQ : ∀ h', IsComb h' z T st (.ref s.heap.objs.size) idx → h'.get? s.heap.objs.size = some { cls := .type "tuple", data := .seq (js.map fun i => pool.getD i .none).toArray } → (∀ b o, b ≠ z → s.heap.get? b = some o → h'.get? b = some o) → h'.objs.size = s.heap.objs.size + 1 →
      Q (.ref s.heap.objs.size) { s with heap := h' }) :
    wpAny (model prog w) A (do
      let t ← (do
        let xs ← Builtin.Itertools.itPoolItems (.ref T)
        newTuple (js.map fun i => xs.getD i .none))
      let old ← field (.ref z) 2
      setField (.ref z) 2 t
      letGo [old] [t]
      ret t) (fun fin s' => ∃ v, fin = .done (.ret v) ∧ Q v s') E s := by
  obtain ⟨hp, g, d, tk0, os⟩ := s
  replace hit : IsComb hp z T st res idx := hit
  replace hT : IsTupC hp T pool := hT
  refine wpAny_bind (wpAny_bind (wpAny_bind (wpAny_seqItems hT rfl (wpAny_pure ?_))))
  refine wpAny_newTuple ?_ (by rw [List.length_map, sizeLine_eq]; omega)
  have hit1 : IsComb (hp.push { cls := .type "tuple", data := .seq (js.map fun i => pool.getD i .none).toArray }) z T st res idx := Heap.get?_push_of_some _ hit
  refine wpAny_bind (wpAny_field hit1 rfl (x := res) (comb_get ..).2.2 ?_)
  refine wpAny_bind (wpAny_setField_rec hit1 (by rw [comb_size]; omega) fun h2 hit2 k2 => ?_)
  rw [comb_set2] at hit2
  replace hit2 : IsComb h2 z T st (.ref hp.objs.size) idx := hit2
  replace k2 : Heap.SameBut z (hp.push { cls := .type "tuple", data := .seq (js.map fun i => pool.getD i .none).toArray }) h2 := k2
  have hz : z < hp.objs.size := Heap.lt_size hit
  refine wpAny_bind (wpAny_letGo (wpAny_pure ⟨_, rfl, ?_⟩))
  exact hQ h2 hit2 (k2.extBut _ _ (Nat.ne_of_gt hz) (Heap.get?_push_size _ rfl)) (fun b o hb e => k2.extBut _ _ hb (Heap.get?_push_of_some _ e)) (by rw [k2.1, Heap.size_push])
/-- the first one -/
theorem comb_first {z T : Addr} {pool : Array Value} {idx : List Nat} {Q : Value → Shared → Prop} (hit : IsComb s.heap z T 0 .none idx) (hT : IsTupC s.heap T pool) (hzT : z ≠ T) (hl : idx.length ≤ 1000)
    (hQ : ∀ h', IsComb h' z T 1 (.ref s.heap.objs.size) idx → h'.get? s.heap.objs.size = some { cls := .type "tuple", data := .seq (idx.map fun i => pool.getD i .none).toArray } → (∀ b o, b ≠ z → s.heap.get? b = some o → h'.get? b = some o) → h'.objs.size = s.heap.objs.size + 1 →
      Q (.ref s.heap.objs.size) { s with heap := h' }) :
    wpAny (model prog w) A (Builtin.«itertools.combinations.__next__» ⟨[.ref z], []⟩) (fun fin s' => ∃ v, fin = .done (.ret v) ∧ Q v s') E s := by
  obtain ⟨hp, g, d, tk0, os⟩ := s
  replace hit : IsComb hp z T 0 .none idx := hit
  replace hT : IsTupC hp T pool := hT
  show wpAny _ _ (field (.ref z) 0 >>= _) _ _ _
  refine wpAny_bind (wpAny_field hit rfl (x := .ref T) (comb_get ..).1 ?_)
  refine wpAny_bind (numbers_comb hit ?_)
  show wpAny _ _ ((field (.ref z) 1 >>= _) >>= _) _ _ _
  refine wpAny_bind (wpAny_bind (wpAny_field hit rfl (x := rawInt 0) (comb_get ..).2.1 (wpAny_pure ?_)))
  show wpAny _ _ (setField (.ref z) 1 (rawInt 1) >>= _) _ _ _
  refine wpAny_bind (wpAny_setField_rec hit (by rw [comb_size]; omega) fun h1 hit1 k1 => ?_)
  rw [comb_set1] at hit1
  replace hit1 : IsComb h1 z T 1 .none idx := hit1
  replace k1 : Heap.SameBut z hp h1 := k1
  have hT1 : IsTupC h1 T pool := k1.extBut _ _ hzT.symm hT
  exact comb_hands (s := ⟨h1, g, d, tk0, os⟩) hit1 hT1 hl fun h' c1 c2 c3 c4 => by
    have c1 : IsComb h' z T 1 (.ref h1.objs.size) idx := c1
    have c2 : h'.get? h1.objs.size = _ := c2
    have c4 : h'.objs.size = h1.objs.size + 1 := c4
    have es : h1.objs.size = hp.objs.size := k1.1
    show Q (.ref h1.objs.size) ⟨h', g, d, tk0, os⟩
    rw [es] at c1 c2 c4 ⊢
    exact hQ h' c1 c2 (fun b o hb e => c3 b o hb (k1.extBut _ _ hb e)) c4
theorem comb_nums (T : Addr) (st : Int) (res : Value) (idx js : List Nat) : (#[Value.ref T, rawInt st, res] ++ (idx.map fun (i : Nat) => rawInt i).toArray).extract 0 3 ++ (js.map fun (i : Nat) => rawInt i).toArray = #[.ref T, rawInt st, res] ++ (js.map fun (i : Nat) => rawInt i).toArray := by
  apply Array.ext'
  simp
/-- the next one -/
theorem comb_next {z T : Addr} {pool : Array Value} {idx js : List Nat} {res : Value} {Q : Value → Shared → Prop} (hit : IsComb s.heap z T 1 res idx) (hT : IsTupC s.heap T pool) (hzT : z ≠ T) (hl : js.length ≤ 1000) (hn : nxc pool.size idx = some js)
    (hQ : ∀ h', IsComb h' z T 1 (.ref s.heap.objs.size) js → h'.get? s.heap.objs.size = some { cls := .type "tuple", data := .seq (js.map fun i => pool.getD i .none).toArray } → (∀ b o, b ≠ z → s.heap.get? b = some o → h'.get? b = some o) → h'.objs.size = s.heap.objs.size + 1 →
      Q (.ref s.heap.objs.size) { s with heap := h' }) :
    wpAny (model prog w) A (Builtin.«itertools.combinations.__next__» ⟨[.ref z], []⟩) (fun fin s' => ∃ v, fin = .done (.ret v) ∧ Q v s') E s := by
  obtain ⟨hp, g, d, tk0, os⟩ := s
  replace hit : IsComb hp z T 1 res idx := hit
  replace hT : IsTupC hp T pool := hT
  show wpAny _ _ (field (.ref z) 0 >>= _) _ _ _
  refine wpAny_bind (wpAny_field hit rfl (x := .ref T) (comb_get ..).1 ?_)
  refine wpAny_bind (numbers_comb hit ?_)
  show wpAny _ _ ((field (.ref z) 1 >>= _) >>= _) _ _ _
  refine wpAny_bind (wpAny_bind (wpAny_field hit rfl (x := rawInt 1) (comb_get ..).2.1 (wpAny_pure ?_)))
  show wpAny _ _ (Builtin.Itertools.itPoolItems (.ref T) >>= _) _ _ _
  refine wpAny_bind (wpAny_bind (wpAny_seqItems hT rfl (wpAny_pure ?_)))
  split
  case h_2 hq =>
    have hq2 : nxc pool.size idx = none := hq
    rw [hn] at hq2
    cases hq2
  rename_i js2 hq
  have hq2 : nxc pool.size idx = some js2 := hq
  rw [hn] at hq2
  obtain rfl : js = js2 := Option.some.inj hq2
  show wpAny _ _ (Builtin.Itertools.itSetNumbersFrom (.ref z) 3 js >>= _) _ _ _
  refine wpAny_bind ?_
  unfold Builtin.Itertools.itSetNumbersFrom
  refine wpAny_updateFields hit rfl ?_ (by
    rw [comb_nums, comb_size, sizeLine_eq]
    omega)
  generalize hh1 : hp.update z (Obj.mapFields fun fs => fs.extract 0 3 ++ (js.map fun (i : Nat) => rawInt i).toArray) = h1
  have hit1 : IsComb h1 z T 1 res js := by
    rw [← hh1]
    have := Heap.get?_update_self (h := hp) (f := Obj.mapFields fun fs => fs.extract 0 3 ++ (js.map fun (i : Nat) => rawInt i).toArray) hit rfl
    rw [IsComb, this]
    show some ({ cls := .type "itertools.combinations", dict := none, data := Data.fields ((#[Value.ref T, rawInt 1, res] ++ (idx.map fun (i : Nat) => rawInt i).toArray).extract 0 3 ++ (js.map fun (i : Nat) => rawInt i).toArray), slots := #[] } : Obj) = _
    rw [comb_nums]
  have k1 : Heap.SameBut z hp h1 := by
    rw [← hh1]
    exact Heap.SameBut.update ..
  have hT1 : IsTupC h1 T pool := k1.extBut _ _ hzT.symm hT
  exact comb_hands (s := ⟨h1, g, d, tk0, os⟩) hit1 hT1 hl fun h' c1 c2 c3 c4 => by
    have c1 : IsComb h' z T 1 (.ref h1.objs.size) js := c1
    have c2 : h'.get? h1.objs.size = _ := c2
    have c4 : h'.objs.size = h1.objs.size + 1 := c4
    have es : h1.objs.size = hp.objs.size := k1.1
    show Q (.ref h1.objs.size) ⟨h', g, d, tk0, os⟩
    rw [es] at c1 c2 c4 ⊢
    exact hQ h' c1 c2 (fun b o hb e => c3 b o hb (k1.extBut _ _ hb e)) c4
/-- the end -/
theorem comb_end {z T : Addr} {pool : Array Value} {idx : List Nat} {res : Value} {Q : PySem.Fin → Shared → Prop} (hh : A.handled = none) (hit : IsComb s.heap z T 1 res idx) (hT : IsTupC s.heap T pool) (hn : nxc pool.size idx = none)
    (hE : ∀ h' e, (∀ b o, b ≠ z → s.heap.get? b = some o → h'.get? b = some o) → (∃ o, h'.get? e = some o ∧ o.cls = .type "StopIteration") → E (.ref e) { s with heap := h' }) :
    wpAny (model prog w) A (Builtin.«itertools.combinations.__next__» ⟨[.ref z], []⟩) Q E s := by
  obtain ⟨hp, g, d, tk0, os⟩ := s
  replace hit : IsComb hp z T 1 res idx := hit
  replace hT : IsTupC hp T pool := hT
  show wpAny _ _ (field (.ref z) 0 >>= _) _ _ _
  refine wpAny_bind (wpAny_field hit rfl (x := .ref T) (comb_get ..).1 ?_)
  refine wpAny_bind (numbers_comb hit ?_)
  show wpAny _ _ ((field (.ref z) 1 >>= _) >>= _) _ _ _
  refine wpAny_bind (wpAny_bind (wpAny_field hit rfl (x := rawInt 1) (comb_get ..).2.1 (wpAny_pure ?_)))
  show wpAny _ _ (Builtin.Itertools.itPoolItems (.ref T) >>= _) _ _ _
  refine wpAny_bind (wpAny_bind (wpAny_seqItems hT rfl (wpAny_pure ?_)))
  split
  case h_1 hq =>
    have hq2 : nxc pool.size idx = some _ := hq
    rw [hn] at hq2
    cases hq2
  show wpAny _ _ (setField (.ref z) 1 (rawInt 2) >>= _) _ _ _
  refine wpAny_bind (wpAny_setField_rec hit (by rw [comb_size]; omega) fun h1 hit1 k1 => ?_)
  replace k1 : Heap.SameBut z hp h1 := k1
  show wpAny _ _ (newExc (.type "StopIteration") [] >>= _) _ _ _
  refine wpAny_bind ?_
  simp only [newExc, newTuple]
  refine wpAny_bind (wpAny_newObj_type ?_ (by size_fits))
  refine wpAny_bind (m := firstArgMember _ _) (wpAny_of_eq (a := Value.none) (by first | rfl | (simp only [firstArgMember]; rfl)) ?_)
  refine wpAny_newObj_type ?_ (by size_fits)
  simp only [raiseNew]
  refine wpAny_bind (wpAny_handled ?_)
  rw [hh]
  refine wpAny_bind (wpAny_pure (wpAny_throw ?_))
  exact hE _ _ (fun b o hb e => Heap.get?_push_of_some _ (Heap.get?_push_of_some _ (k1.extBut _ _ hb e))) ⟨_, Heap.get?_push_size _ rfl, rfl⟩
end
end Sd
namespace Sd
open PySem PySem.Spec PyProof.Rows L2
open Sem (wp)
theorem noCls_cb : ["enumerate", "zip", "dict_itemiterator", "dict_reverseitemiterator", "odict_iterator", "itertools.zip_longest", "itertools.pairwise"].contains "itertools.combinations" = false := by decide
section
variable {prog : Program} {w : World} {A : Around} {E : Value → Shared → Prop} {s : Shared}
theorem pyNext_comb {z T : Addr} {pool : Array Value} {idx js : List Nat} {res : Value} {st : Int} {Q : Option Value → Shared → Prop} (hit : IsComb s.heap z T st res idx) (hT : IsTupC s.heap T pool) (hzT : z ≠ T) (hl : js.length ≤ 1000)
    (hn : (st = 0 ∧ res = .none ∧ js = idx) ∨ (st = 1 ∧ nxc pool.size idx = some js))
    (hQ : ∀ h', IsComb h' z T 1 (.ref s.heap.objs.size) js → h'.get? s.heap.objs.size = some { cls := .type "tuple", data := .seq (js.map fun i => pool.getD i .none).toArray } → (∀ b o, b ≠ z → s.heap.get? b = some o → h'.get? b = some o) → h'.objs.size = s.heap.objs.size + 1 →
      Q (some (.ref s.heap.objs.size)) { s with heap := h' }) : wpAny (model prog w) A (pyNext (.ref z)) Q E s := by
  have hTy : s.TypeIs (.ref z) "itertools.combinations" := ⟨_, hit, rfl⟩
  unfold pyNext
  refine wpAny_bind (wpAny_attempt (wpAny_callSpecial?_slot (name := Str.ofString "__next__") hTy next_cb (wpAny_call_entry next_cb hTy entry_cb_next ?_ (args_cb_next _))))
  rcases hn with ⟨rfl, rfl, rfl⟩ | ⟨rfl, hn⟩
  · exact comb_first hit hT hzT hl fun h' c1 c2 c3 c4 => wpAny_pure (hQ h' c1 c2 c3 c4)
  · exact comb_next hit hT hzT hl hn fun h' c1 c2 c3 c4 => wpAny_pure (hQ h' c1 c2 c3 c4)
theorem pyNext_comb_end {z T : Addr} {pool : Array Value} {idx : List Nat} {res : Value} {Q : Option Value → Shared → Prop} (hh : A.in1.handled = none) (hit : IsComb s.heap z T 1 res idx) (hT : IsTupC s.heap T pool) (hn : nxc pool.size idx = none)
    (hQ : ∀ h', (∀ b o, b ≠ z → s.heap.get? b = some o → h'.get? b = some o) → Q none { s with heap := h' }) : wpAny (model prog w) A (pyNext (.ref z)) Q E s := by
  have hTy : s.TypeIs (.ref z) "itertools.combinations" := ⟨_, hit, rfl⟩
  unfold pyNext
  refine wpAny_bind (wpAny_attempt (wpAny_callSpecial?_slot (name := Str.ofString "__next__") hTy next_cb (wpAny_call_entry next_cb hTy entry_cb_next ?_ (args_cb_next _))))
  refine comb_end hh hit hT hn fun h' e hk hx => ?_
  obtain ⟨o, ho, hc⟩ := hx
  refine wpAny_bind (wpAny_isInstance (T := "StopIteration") (b := true) ⟨o, ho, hc⟩ isSubtype_stop ?_)
  exact wpAny_pure (hQ _ hk)
end
/-- the choices of k numbers below n, each a new tuple -/
def Icb (n k : Nat) : It :=
  ⟨fun i _ => i < (chs n k).length,
   fun i H v H' => ∃ T, v = .ref T ∧ H T = none ∧ ∃ l, (chs n k)[i]? = some l ∧ H' = upd H T (.tup (l.map fun (x : Nat) => V.int x)),
   fun i _ => i = (chs n k).length⟩
structure CState (z T n k : Nat) (i : Nat) (h : Heap) : Prop where
  rec' : (i = 0 ∧ IsComb h z T 0 .none (List.range k)) ∨ (∃ j l res, i = j + 1 ∧ (chs n k)[j]? = some l ∧ IsComb h z T 1 res l)
  pool : ∃ vs : Array Value, IsTupC h T vs ∧ ItemsOf (fun i v => ∃ t, v = .int (0 + (i : Nat) * 1) t) vs n
theorem turn_comb {P : Program} {w : World} {K : PySem.W.Frag} {tg : Expr} {z T : Addr} {n k : Nat} (hzT : z ≠ T) (hk : k ≤ n) (hn : n ≤ 1000) :
    Turn P w K tg (Icb n k) [z, T] z (fun i h => CState z T n k i h) where
  mem := by simp
  obj := fun i h st b hb => by
    obtain ⟨r, vs, hvs, _⟩ := st
    have e : b = z ∨ b = T := by simpa using hb
    rcases e with rfl | rfl
    · rcases r with ⟨_, r⟩ | ⟨_, _, _, _, _, r⟩
      · exact ⟨_, r, fun v q => by have q' : Data.fields _ = Data.cell v := q; cases q'⟩
      · exact ⟨_, r, fun v q => by have q' : Data.fields _ = Data.cell v := q; cases q'⟩
    · exact ⟨_, hvs, fun v q => nomatch q⟩
  keep := fun i h h' st kk => by
    obtain ⟨r, vs, hvs, hi⟩ := st
    refine ⟨?_, vs, kk T (by simp) _ hvs, hi⟩
    rcases r with ⟨e, r⟩ | ⟨j, l, res, e, hl, r⟩
    · exact .inl ⟨e, kk z (by simp) _ r⟩
    · exact .inr ⟨j, l, res, e, hl, kk z (by simp) _ r⟩
  item := by
    intro X hP hw hK hc i pins s σ H E I hf st hg
    subst hP hw hK
    obtain ⟨r, vs, hvs, hi⟩ := st
    have hlt : i < (chs n k).length := hg
    obtain ⟨l, hl⟩ : ∃ l, (chs n k)[i]? = some l := ⟨_, List.getElem?_eq_getElem hlt⟩
    have hll : l.length = k := cho_len 0 n k (List.mem_of_getElem? hl)
    have hlx := chs_lt (List.mem_of_getElem? hl)
    have hz : z < s.heap.objs.size := by
      rcases r with ⟨_, r⟩ | ⟨_, _, _, _, _, r⟩ <;> exact Heap.lt_size r
    have hTl : T < s.heap.objs.size := Heap.lt_size hvs
    have go : ∀ (st : Int) (res : Value) (idx : List Nat), IsComb s.heap z T st res idx → ((st = 0 ∧ res = .none ∧ l = idx) ∨ (st = 1 ∧ nxc vs.size idx = some l)) →
        wpAny (model X.prog X.w) X.A (pyNext (.ref z)) (fun r s1 => ∃ u, r = some u ∧
          wpAny (model X.prog X.w) X.A (letOwnedTupleGo tg (.ref z) u) (fun _ s2 => ∃ x H', Inv X pins σ H' s2 ∧ RelV x u ∧ (Icb n k).yld i H x H' ∧ CState z T n k (i + 1) s2.heap ∧ ∀ b ∈ [z, T], H' b = none) E s1) E s := fun st res idx hit hor => by
      refine pyNext_comb hit hvs hzT (by omega) hor fun h' c1 c2 c3 c4 => ?_
      refine ⟨_, rfl, go_of (s := { s with heap := h' }) (n := "itertools.combinations") c1 rfl rfl noCls_cb ?_⟩
      have hvals : Vals (l.map fun (x : Nat) => V.int x) (l.map fun i => vs.getD i .none).toArray.toList := by
        refine paired_of (by simp) fun q x u e1 e2 => ?_
        rw [List.getElem?_map] at e1
        rw [List.getElem?_map] at e2
        cases hq : l[q]? with
        | none => rw [hq] at e1; cases e1
        | some y =>
          rw [hq] at e1 e2
          have ex := (Option.some.inj e1).symm
          have eu := (Option.some.inj e2).symm
          subst ex eu
          have hy := hlx y (List.mem_of_getElem? hq)
          have hyv : y < vs.size := by rw [hi.1]; exact hy
          have ev := Array.getElem?_eq_getElem hyv
          obtain ⟨t, et⟩ := hi.2 y _ ev
          refine ⟨t, ?_⟩
          show vs.getD y .none = _
          rw [Array.getD_eq_getD_getElem?, ev, Option.getD_some, et, Int.zero_add, Int.mul_one]
      have new : ObjOk X.prog X.w (upd H s.heap.objs.size (.tup (l.map fun (x : Nat) => V.int x))) h' s.heap.objs.size (.tup (l.map fun (x : Nat) => V.int x)) :=
        ⟨by rw [List.length_map, hll, sizeLine_eq]; omega, _, hvals, ⟨_, c2, rfl, _, rfl⟩⟩
      have I1 : Inv X pins σ (upd H s.heap.objs.size (.tup (l.map fun (x : Nat) => V.int x))) { s with heap := h' } :=
        Inv.turnedNew (t' := s.toks) I (ch := [z, T]) (fun b o hb q => c3 b o (fun w => hb (by simp [w])) q) hf (Nat.le_refl _) new
      refine ⟨.ref s.heap.objs.size, _, I1, rfl, ⟨s.heap.objs.size, rfl, I.hok.fresh (Nat.le_refl _), l, hl, rfl⟩, ⟨.inr ⟨i, l, _, rfl, hl, c1⟩, vs, c3 _ _ hzT.symm hvs, hi⟩, fun b hb => ?_⟩
      have e : b = z ∨ b = T := by simpa using hb
      have hbl : b < s.heap.objs.size := by rcases e with rfl | rfl <;> assumption
      rw [upd_ne (Nat.ne_of_lt hbl)]
      exact (hf b hb).1
    rcases r with ⟨rfl, r⟩ | ⟨j, l0, res, rfl, hl0, r⟩
    · rw [chs_first hk] at hl
      exact go 0 .none _ r (.inl ⟨rfl, rfl, (Option.some.inj hl).symm⟩)
    · exact go 1 res l0 r (.inr ⟨rfl, by rw [hi.1, chs_next hk hl0, hl]⟩)
  done := by
    intro X hP hw hK hc i pins s σ H E I hf st hg
    subst hP hw hK
    obtain ⟨r, vs, hvs, hi⟩ := st
    have hi2 : i = (chs n k).length := hg
    rcases r with ⟨rfl, r⟩ | ⟨j, l0, res, rfl, hl0, r⟩
    · have := chs_first hk
      rw [List.getElem?_eq_none (by omega)] at this
      cases this
    · refine pyNext_comb_end (by simp [I.ok.hd hc]) r hvs (by rw [hi.1, chs_next hk hl0, List.getElem?_eq_none (by omega)]) fun h' hk => ⟨rfl, ?_⟩
      exact I.turnedL (t' := s.toks) (ch := [z, T]) (fun b o hb q => hk b o (fun w => hb (by simp [w])) q) hf
  self := fun A i s Q E h0 h => by
    obtain ⟨r, _⟩ := h0
    rcases r with ⟨_, r⟩ | ⟨_, _, _, _, _, r⟩
    · exact iter_comb r h
    · exact iter_comb r h
def iCb (ta : TA) : TI := fun σ H R => ta σ H fun vs H1 => ∃ r, ∃ n k : Nat, vs = [.ref r, .int k] ∧ H1 r = some (.rng 0 n) ∧ k ≤ n ∧ n < 1000 ∧ R (Icb n k) H1
theorem pi_comb {X : Cx} {tg e e2 : Expr} {ta : TA} {p pos : Pos} (hg : Gl X "combinations") (hm : X.mg "combinations" = some (.type "itertools.combinations")) (ha : PA X [e, e2] ta)
    (hs : starEach [e, e2] X.env = (false, eval e X.env) :: starEach [e2] X.env := by rfl) (hpl : (backTo pos (starEach [e2] X.env)).any (·.1) = false := by rfl) (hc : X.calm = true := by rfl) :
    PI X tg (.Call (.Name "combinations" p) [e, e2] [] pos) (iCb ta) := by
  refine ⟨fun pins s σ H R I h => ?_⟩
  refine Call_ (ld_glob I hg hm (PyProof.Rows.callWith_type1 (thn (ha.run pos pins s σ H _ I h) fun us s1 ⟨vs, H1, I1, r1, q1⟩ => ?_) hs hpl))
  obtain ⟨r, n, k, ex, hr, hk, hn, q⟩ := q1
  subst ex
  cases r1 with
  | cons r0 rr =>
    cases rr with
    | cons r' rr =>
      cases rr
      cases r0
      obtain ⟨kt, rfl⟩ := r'
      obtain ⟨t, u, v, ho⟩ := I1.hok r _ hr
      refine call_comb (n := n) (I1.ok.hd hc) (a := 0) (b := n) (c := 1) (show IsRange s1.heap r 0 n 1 t u v from ho) (small_one (by omega) (by omega) (by omega) (by omega)) (by rw [rangeSize_one]; split <;> omega) (by omega) hk (by omega) fun h' tk acc hkp hacc => ?_
      have up : ∀ b o, s1.heap.get? b = some o → ((h'.push { cls := .type "tuple", data := .seq acc }).push (combO h'.objs.size 0 .none (List.range k))).get? b = some o := fun b o e => Heap.get?_push_of_some _ (Heap.get?_push_of_some _ (hkp b o e))
      have hit : IsComb ((h'.push { cls := .type "tuple", data := .seq acc }).push (combO h'.objs.size 0 .none (List.range k))) (h'.objs.size + 1) h'.objs.size 0 .none (List.range k) := by
        rw [IsComb, show h'.objs.size + 1 = (h'.push { cls := .type "tuple", data := .seq acc }).objs.size from (Heap.size_push ..).symm]
        exact Heap.get?_push_size _ rfl
      have htp : IsTupC ((h'.push { cls := .type "tuple", data := .seq acc }).push (combO h'.objs.size 0 .none (List.range k))) h'.objs.size acc := Heap.get?_push_of_some _ (Heap.get?_push_size _ rfl)
      refine iter_comb hit ?_
      have I2 : Inv X pins σ H1 { s1 with heap := h' } := I1.kept (t' := s1.toks) hkp
      refine ⟨h'.objs.size + 1, [h'.objs.size + 1, h'.objs.size], _, _, H1, rfl, I1.kept (t' := tk) up, turn_comb (nne (by omega)) hk (Nat.le_of_lt hn), ⟨.inl ⟨rfl, hit⟩, acc, htp, hacc⟩, fun b hb => ?_, q⟩
      have hle2 : h'.objs.size ≤ b := by
        have e : b = h'.objs.size + 1 ∨ b = h'.objs.size := by simpa using hb
        rcases e with rfl | rfl <;> omega
      exact I2.fpOk hle2 (I2.hok.fresh hle2)
theorem cr_range1 {X : Cx} : CallR X (.type "range") (fun vs H Q => ∃ j : Int, vs = [V.int j] ∧ ∀ p, H p = none → Q (.ref p) (upd H p (.rng 0 j))) := by
  intro pins s σ H vs us Q I r h
  obtain ⟨j, rfl, q⟩ := h
  cases r with
  | cons r rr =>
    cases rr
    obtain ⟨t, rfl⟩ := r
    refine call_range_1 ⟨.ref s.heap.objs.size, upd H s.heap.objs.size (.rng 0 j), I.laid (t' := s.toks + 2) (fun b o e => Heap.get?_push_of_some _ e) (Nat.le_refl _) ?_, rfl, q _ (I.hok.fresh (Nat.le_refl _))⟩
    exact ⟨_, _, _, Heap.get?_push_size _ rfl⟩
end Sd

/-! ### an error that is kept behind its clause -/
namespace Sd
open PySem PySem.Spec PyProof.Rows L2 L2N
/-- the error at a: its class, its dict -/
def KpO (cls : Value) (d : Option Addr) (a : Addr) : HO := .ext fun h => ∃ oe vs, h.get? a = some oe ∧ Zc cls d oe ∧ oe.data = .fields vs
section
variable {X : Cx} {pins : List (Addr × Obj)} {σ : L2.St} {H : Hp} {s : Shared} {a : Addr} {oe : Obj} {vs : Array Value} {cls : Value} {d : Option Addr}
theorem kpO_ok {P : Program} {w : World} {h : Heap} (ha : h.get? a = some oe) (hz : Zc cls d oe) (hd : oe.data = .fields vs) : ObjOk P w H h a (KpO cls d a) :=
  ⟨⟨oe, vs, ha, hz, hd⟩, ⟨oe, ha⟩, fun h1 h2 ⟨o, ws, e, z, q⟩ k => ⟨o, ws, k _ e, z, q⟩⟩
/-- an object that stands beside what is tracked is tracked from now on -/
theorem kept_err (I : L2.Inv X pins σ H s) (ha : s.heap.get? a = some oe) (hz : Zc cls d oe) (hd : oe.data = .fields vs) (na : H a = none) (nL : a ≠ X.env.locals)
    (n0 : ∀ o, X.s_0.heap.get? a = some o → a ∈ X.ex) (np : ∀ p ∈ X.pn ++ pins, p.1 ≠ a) : L2.Inv X pins σ (upd H a (KpO cls d a)) s := by
  have up : ∀ {b u}, H b = some u → upd H a (KpO cls d a) b = some u := fun {b u} e => by
    rw [upd_ne (ne_of_none e na)]
    exact e
  have un : ∀ {b}, b ≠ a → H b = none → upd H a (KpO cls d a) b = none := fun {b} hb e => by
    rw [upd_ne hb]
    exact e
  have nc : ∀ x c, X.env.cells.lookup x = some c → c ≠ a := fun x c e z => by
    obtain ⟨v, o, ho, hc⟩ := I.cell x c e
    rw [z, ha] at ho
    obtain rfl := Option.some.inj ho
    rw [hd] at hc
    cases hc
  have hb : Un X.fs X.ex X.H_0 (upd H a (KpO cls d a)) X.s_0.heap s.heap :=
    ⟨I.base.keep, I.base.slot, fun b o h1 h2 h3 => un (fun z => h3 (z ▸ n0 o (z ▸ h1))) (I.base.free b o h1 h2 h3), I.base.there, fun b xs e => up (I.base.tups b xs e), fun b o u e => up (I.base.frzs b o u e),
      fun b ps e => (I.base.tbls b ps e).imp fun _ e => up e⟩
  refine ⟨I.ok, I.os, I.bare, hb, I.loc, I.cell, un nL.symm I.free, fun x c e => un (nc x c e) (I.freeC x c e), fun p hp => ?_, fun b u e => ?_, I.len⟩
  · obtain ⟨h1, h2, h3⟩ := I.pin p hp
    exact ⟨h1, un (np p hp) h2, h3⟩
  · by_cases hb : b = a
    · rw [hb, upd_same] at e
      rw [← Option.some.inj e, hb]
      exact kpO_ok ha hz hd
    · rw [upd_ne hb] at e
      exact (I.hok b u e).stay (fun _ _ _ q => q) (fun _ q => up q) fun _ _ q => up q
end
/-- the ends of a clause, the error kept -/
def KpD (D : Ends) (i : Nat) (a : Addr) (cls : Value) (d : Option Addr) : Ends :=
  { nx := fun σ H => D.nx (σ.set i none) (upd H a (KpO cls d a)), rt := fun v H => D.rt v (upd H a (KpO cls d a)),
    bk := fun σ H => D.bk (σ.set i none) (upd H a (KpO cls d a)), ct := fun σ H => D.ct (σ.set i none) (upd H a (KpO cls d a)) }
def wKeep (K : PySem.W.Frag) (c : Value) (i : Nat) (ts : Addr → Value → Option Addr → TS) (Wo : WX) (D : Ends) : WX := fun cls d σ H =>
  ∃ b, PySem.W.exmOne K cls c = some b ∧ (b = true → ∀ a, H a = none → ts a cls d (KpD D i a cls d) (σ.set i (some (.ref a))) H) ∧ (b = false → Wo cls d σ H)
section
variable {X : Cx} {x n : Str} {c : Value} {i : Nat} {body suite : List Stmt} {b₀ : Stmt} {q1 q2 q3 : Pos} {tb : WX → TS} {ts : Addr → Value → Option Addr → TS} {Wo : WX}
/-- the clause's name goes, the error is kept -/
theorem keep_end {M : Model} {A : Around} {E : Value → Shared → Prop} {pins : List (Addr × Obj)} {σ σ' : L2.St} {H H' : Hp} {s sI : Shared} {a : Addr} {oe : Obj} {vs : Array Value} {cls : Value} {d : Option Addr} {pos : Pos} {Q : Shared → Prop} (ok : X.Ok)
    (J : L2.Inv X pins σ' H' sI) (hI : sI.heap.get? a = none) (I : L2.Inv (X.suite a ((a, oe) :: (X.pn ++ pins))) [] σ H s) (hz : Zc cls d oe) (hd : oe.data = .fields vs) (hN : X.N.Nodup) (hi : X.N[i]? = some n) (hl : X.env.kindOf n = some .local)
    (h : ∀ s', L2.Inv X pins (σ.set i none) (upd H a (KpO cls d a)) s' → Q s') : wpAny M A (do bindName X.env n .none; unbindBehindTheSuite X.env n pos) (fun _ s' => Q s') E s := by
  refine gone_ok (X := X.suite a ((a, oe) :: (X.pn ++ pins))) I hN hi hl fun s' I' => h s' ?_
  obtain ⟨e1, e2, e3, _⟩ := I'.pin (a, oe) (by
    rw [List.append_nil]
    exact List.mem_cons_self)
  refine kept_err (I'.unsuite ok) e1 hz hd e2 e3 (fun o e => Classical.byContradiction fun hx => ?_) (fun p hp z => ?_)
  · obtain ⟨o', e'⟩ := J.base.there a o e hx
    rw [hI] at e'
    cases e'
  · have e' := (J.pin p hp).1
    rw [z, hI] at e'
    cases e'
theorem ps_try_keep (hs : X.stack = X.env :: X.outer) (hf : X.env.frame = some X.env.locals) (hN : X.N.Nodup) (hi : X.N[i]? = some n) (hl : X.env.kindOf n = some .local) (hc : Names X x c) (tk : L2N.Takes X Wo)
    (hb : ∀ (W : WX) (l : List (Addr × Obj)) (xe : Value → Shared → Prop), L2N.Takes (X.tr l xe) W → PassesOwn (model X.prog X.w) X.A X.env xe → PSs (X.tr l xe) body (tb W))
    (hsu : ∀ (a : Addr) (oe : Obj) (cls : Value) (d : Option Addr) (l : List (Addr × Obj)), Zn cls d oe → (∃ vs, oe.data = .fields vs) → PSs (X.suite a ((a, oe) :: l)) (b₀ :: suite) (ts a cls d)) :
    PS X (.Try body [.ExceptHandler (some (.Name x q1)) (some n) (b₀ :: suite) q2] [] [] q3) (fun D σ H => tb (wKeep X.K c i ts Wo D) D σ H) := by
  refine ⟨fun pins s σ H D I0 h0 => ?_⟩
  have ok := I0.ok
  have fr : X.A.frames = some (X.env :: X.outer) := ok.frames.trans (congrArg some hs)
  have go : ∀ e s1, L2N.XE (X.tr (X.pn ++ pins) fun e s1 => wpAny (model X.prog X.w) X.A (noteFrame e X.env) (fun _ s2 => wpAny (model X.prog X.w) X.A (setFlight e none)
      (fun _ s3 => wpAny (model X.prog X.w) X.A (handleBy e X.env [.ExceptHandler (some (.Name x q1)) (some n) (b₀ :: suite) q2]) (SP X pins D) X.xe s3) X.xe s2) X.xe s1) (wKeep X.K c i ts Wo D) e s1 →
      wpAny (model X.prog X.w) X.A (noteFrame e X.env) (fun _ s2 => wpAny (model X.prog X.w) X.A (setFlight e none)
      (fun _ s3 => wpAny (model X.prog X.w) X.A (handleBy e X.env [.ExceptHandler (some (.Name x q1)) (some n) (b₀ :: suite) q2]) (SP X pins D) X.xe s3) X.xe s2) X.xe s1 := ?_
  · refine wpAny_Try_except ?_
    refine wpAny_mono ((hb (wKeep X.K c i ts Wo D) (X.pn ++ pins) _ go PassesOwn.looking).run [] s σ H D (I0.toTry _) h0) (fun f s1 r => ?_) fun e s1 r => r
    rcases f with _ | _ | _ | u
    · exact r.elim fun _ r => r.elim fun _ r => wpAny_execs_nil ⟨_, _, r.1.ofTry ok, r.2⟩
    · exact r.elim fun _ r => r.elim fun _ r => ⟨_, _, r.1.ofTry ok, r.2⟩
    · exact r.elim fun _ r => r.elim fun _ r => ⟨_, _, r.1.ofTry ok, r.2⟩
    · exact r.elim fun _ r => r.elim fun _ r => r.elim fun _ r => ⟨_, _, _, r.1.ofTry ok, r.2⟩
  · intro e s1 xx
    obtain ⟨a, B, sI, l, σ1, H1, cls, d, rfl, JT, nb, up, sky, na, os, ag, yes, hyes, yT, yF⟩ := xx
    have J : L2.Inv X pins σ1 H1 sI := JT.ofTry ok
    refine Sky.land Zn.steady fr hf (hs ▸ sky) fun g3 F3 u3 => ?_
    have land : ∀ {g : Heap}, HandSPX.FlyingZ B (X.env :: X.outer) a (Zn cls d) g → sI.heap.UpToSlots g → L2.Inv X pins σ1 H1 { s1 with heap := g } := fun F u => J.landed nb F.1 u os ag
    have J3 := land F3 (up.trans u3)
    obtain ⟨o3, w3, e3, z3, d3⟩ := F3.there
    -- the error is none of the frames, and not in the state ahead of it
    have nfr : a ∉ frs (X.env :: X.outer) := fun hm => by
      obtain ⟨_, o', eo, hnf⟩ := F3.2.2.1.mem hm
      rw [e3] at eo
      exact hnf w3 (Option.some.inj eo ▸ d3)
    have hI : sI.heap.get? a = none := by
      cases e : sI.heap.get? a with
      | none => rfl
      | some o =>
        have z := nb a o e (hs ▸ nfr)
        rw [F3.2.1] at z
        cases z
    have nL : a ≠ X.env.locals := fun z => nfr (List.mem_filterMap.mpr ⟨X.env, by simp, by rw [hf, z]⟩)
    have nF : a ∉ X.fs := fun hm => by
      obtain ⟨en, he, q⟩ := List.mem_filterMap.mp hm
      exact nfr (List.mem_filterMap.mpr ⟨en, by simp [he], q⟩)
    have S3 := J3.suite e3 d3 na nL nF
    have look : PySem.W.Looks (model X.prog X.w) g3 (typeOf (.ref a)) cls := fun A Q E s k q => wpAny_typeOf_ref (k _ _ e3) (by
      rw [z3.1]
      exact q)
    have asks := PySem.W.exm_one (M := model X.prog X.w) J3.kIn look hyes
    refine wpAny_handleBy_cons (codeAny_handlers_test ?_) (by intro q; cases q)
    have nm : ∀ {Q : Value → Shared → Prop} {E : Value → Shared → Prop}, Q c { s1 with heap := g3 } → wpAny (model X.prog X.w) (X.A.mark (some (.ref a))) (eval (.Name x q1) X.env) Q E { s1 with heap := g3 } := by
      intro Q E q
      obtain ⟨hg, hdb, hm⟩ := hc
      rcases hm with hm | ⟨hm, hv, hnn⟩
      · exact ld_glob (X := X.suite a ((a, o3) :: (X.pn ++ pins))) S3 hg hm q hdb
      · exact ld_blt (X := X.suite a ((a, o3) :: (X.pn ++ pins))) S3 hg hm hv q hnn hdb
    refine nm (asks.here ?_)
    cases yes with
    | true =>
      refine codeAny_handlers_suite_as (HandSPX.lands_againZ F3 fun g4 F4 u4 => ?_)
      obtain ⟨o4, w4, e4, z4, d4⟩ := F4.there
      have S4 := (land F4 ((up.trans u3).trans u4)).suite e4 d4 na nL nF
      refine store_ok (X := X.suite a ((a, o4) :: (X.pn ++ pins))) (v := .ref a) S4 hN hi (.inl hl) rfl (fun s5 S5 => ?_) (.inr hl)
      refine wpAny_mono ((hsu a o4 cls d (X.pn ++ pins) z4 ⟨_, d4⟩).run [] s5 _ H1 _ S5 (yT rfl a na)) (fun f s6 r => ?_) fun _ _ z => z.elim
      rcases f with _ | _ | _ | u
      · exact r.elim fun _ r => r.elim fun _ r => keep_end ok J hI r.1 z4.zc d4 hN hi hl fun s7 J7 => ⟨_, _, J7, r.2⟩
      · exact r.elim fun _ r => r.elim fun _ r => keep_end ok J hI r.1 z4.zc d4 hN hi hl fun s7 J7 => ⟨_, _, J7, r.2⟩
      · exact r.elim fun _ r => r.elim fun _ r => keep_end ok J hI r.1 z4.zc d4 hN hi hl fun s7 J7 => ⟨_, _, J7, r.2⟩
      · exact r.elim fun _ r => r.elim fun _ r => r.elim fun _ r => keep_end ok J hI r.1 z4.zc d4 hN hi hl fun s7 J7 => ⟨_, _, _, J7, r.2⟩
    | false =>
      show wpAny _ X.A (handleBy (.ref a) X.env []) _ _ _
      refine wpAny_handleBy_nil ?_
      have pass : wpAny (model X.prog X.w) X.A (setFlight (.ref a) X.env.frame) (fun _ s4 => wpAny (model X.prog X.w) X.A (throw (.ref a) : Sem Flow) (SP X pins D) X.xe s4) X.xe { s1 with heap := g3 } := by
        rw [hf]
        exact HandSPX.setFlight_upZ F3 fun g4 F4 u4 => wpAny_throw (tk _ _ ⟨a, B, sI, pins, σ1, H1, cls, d, rfl, J, nb, (up.trans u3).trans u4, .inr (.inr (hs.symm ▸ F4)), na, os, ag, yF rfl⟩)
      obtain ⟨_, _, _, o, w, T, oT, t', eo, _, dw, w1, _⟩ := F3
      unfold PySem.passOn
      refine wpAny_bind (wpAny_field eo dw w1 ?_)
      rw [if_neg (show ¬ ((Value.ref T == Value.none) = true) by simp)]
      first
        | exact wpAny_bind (wpAny_pure (wpAny_bind pass))
        | exact wpAny_bind pass
end
/-! ### a kept error, asked and read -/
/-- the error at a: its class and its fields -/
def KeptE (H : Hp) (a C : Addr) (fs : List (Str × V)) : Prop := (fs = [] ∧ H a = some (KpO (.ref C) none a)) ∨ ∃ d, H a = some (KpO (.ref C) (some d) a) ∧ H d = some (.xd fs)
theorem KeptE.up {H H' : Hp} {a C : Addr} {fs : List (Str × V)} (e : KeptE H a C fs) (s : Same H H') : KeptE H' a C fs := by
  rcases e with ⟨e0, e⟩ | ⟨dx, e, ed⟩
  · exact .inl ⟨e0, s _ _ e⟩
  · exact .inr ⟨dx, s _ _ e, s _ _ ed⟩
section
variable {X : Cx} {pins : List (Addr × Obj)} {σ : L2.St} {H : Hp} {s : Shared} {a C : Addr} {fs : List (Str × V)}
theorem kept_inst (I : L2.Inv X pins σ H s) (e : KeptE H a C fs) : ∃ oe od, PySem.W.InstAt s.heap a oe C od ∧ (∀ f v, fs.lookup f = some v → ∃ o u, od = some o ∧ PySem.W.lookIn f o = some (some u) ∧ RelV v u) := by
  rcases e with ⟨e0, e⟩ | ⟨d, e, ed⟩
  · obtain ⟨⟨oe, vs, hget, hz, hv⟩, _, _⟩ := I.hok a _ e
    obtain ⟨oc, od, oda, osl⟩ := oe
    obtain ⟨h1, h2⟩ := hz
    dsimp only at h1 h2 hv
    subst h1 h2 hv
    refine ⟨_, none, ⟨hget, rfl, rfl, trivial⟩, fun f v l => ?_⟩
    rw [e0] at l
    cases l
  · obtain ⟨⟨oe, vs, hget, hz, hv⟩, _, _⟩ := I.hok a _ e
    obtain ⟨oc, od, oda, osl⟩ := oe
    obtain ⟨h1, h2⟩ := hz
    dsimp only at h1 h2 hv
    subst h1 h2 hv
    have hx : ObjOk X.prog X.w H s.heap d (.xd fs) := I.hok d _ ed
    obtain ⟨mA, hns, hr⟩ := hx
    obtain ⟨o, ho, hl⟩ := lookIn_ns hns
    refine ⟨_, some o, ⟨hget, rfl, rfl, ho⟩, fun f v l => ?_⟩
    obtain ⟨u, hu, ru⟩ := RelO.some_of (v := v) (o := mA f) (by rw [← l]; exact hr f)
    exact ⟨o, u, rfl, by rw [hl, hu], ru⟩
theorem vals_refY : ∀ {l : List Addr} {us : List Value}, Vals (l.map V.ref) us → us = l.map Value.ref
  | [], _, .nil => rfl
  | a :: l, _, .cons (b := u) r h => by
    obtain rfl : u = Value.ref a := r
    rw [vals_refY h]
    rfl
/-- isinstance(e, c), isinstance(e, (c, ..)) -/
def rIsK (K : PySem.W.Frag) : List V → Hp → VK → Prop := fun xs H Q => ∃ (a D : Addr) (fs : List (Str × V)) (c : V) (b : Bool), xs = [.ref a, c] ∧ KeptE H a D fs ∧ ExcC K D ∧
  ((∃ cv, (∀ u, RelV c u → u = cv) ∧ PySem.W.kitOne K (.ref D) cv = some b) ∨ ∃ (t : Addr) (cs : List Addr), c = .ref t ∧ H t = some (.tup (cs.map V.ref)) ∧ PySem.W.kitAny K (.ref D) (cs.map Value.ref) = some b) ∧ Q (.bl b) H
theorem isKL {K : PySem.W.Frag} (hK : X.K = K) : CallR X (.builtin "isinstance") (rIsK K) := by
  subst hK
  intro pins s σ H xs us Q I r ⟨a, D, fs, c, b, exs, e, C, hor, q⟩
  subst exs
  cases r with
  | cons rx rr =>
    cases rr with
    | cons rt rr =>
      cases rr
      cases rx
      obtain ⟨oe, od, J, _⟩ := kept_inst I e
      obtain ⟨cd, hcd, _⟩ := PySem.W.any_some C.hd
      have Z := PySem.W.kitx_exc (x := a) (ox := oe) (od := od) (by rw [hcd]; rfl) C.hg C.hk C.hs C.ha C.hn C.ht C.hm
      rcases hor with ⟨cv, hcv, ek⟩ | ⟨t, cs, rfl, ht, ek⟩
      · have ec := hcv _ rt
        subst ec
        exact PySem.W.kia_one Z I.kIn J ek (fun z => nomatch z) fun tk => ⟨.bl b, H, I.kept (t' := tk) fun _ _ z => z, rfl, q⟩
      · cases rt
        obtain ⟨its, rv, ⟨o, ho, hc, n, hd⟩, _⟩ := I.tuple (SqT.of ht)
        have ei := vals_refY rv
        subst ei
        obtain ⟨oc, odd, oda, osl⟩ := o
        dsimp only at hc hd
        subst hc hd
        exact PySem.W.kia_tup Z I.kIn J ho ek (fun z => nomatch z) fun tk => ⟨.bl b, H, I.kept (t' := tk) fun _ _ z => z, rfl, q⟩
/-- e.f -/
def tKpF (K : PySem.W.Frag) (f : Str) (te : TE) : TE := fun σ H Q => te σ H fun x H1 => ∃ a D fs v, x = .ref a ∧ KeptE H1 a D fs ∧ XfC K D ∧ PySem.W.findIn K (.ref D) f = some none ∧ fs.lookup f = some v ∧ Q v H1
theorem kpFL {K : PySem.W.Frag} {e : Expr} {te : TE} {pos : Pos} {n : Str} (hK : X.K = K) (he : PE X e te) (hb : attributeBase e n X.env (eval e X.env) = eval e X.env := by rfl) : PE X (.Attribute e n pos) (tKpF K n te) := by
  subst hK
  refine ⟨fun pins s σ H Q I h => ?_⟩
  refine attr_of hb (thn (he.run pins s σ H _ I h) fun u s1 ⟨x, H1, I1, rx, a, D, fs, v, ex, ea, T, hno, l, q⟩ => ?_)
  subst ex
  obtain rfl : u = Value.ref a := rx
  obtain ⟨oe, od, J, look⟩ := kept_inst I1 ea
  obtain ⟨o, u, eo, hl, ru⟩ := look n v l
  subst eo
  exact HandSPX.exc_get I1.kIn J T.ga T.gg T.exC (PySem.W.findObj_own T.hdC hno rfl hl) (handed_of ru) ⟨v, H1, I1.tok _, ru, q⟩
end
/-- asked of several classes, by what each says -/
theorem any_of {K : PySem.W.Frag} {t : Value} : ∀ (cs : List Addr) (bs : List Bool), cs.map (fun c => PySem.W.kitOne K t (.ref c)) = bs.map some → PySem.W.kitAny K t (cs.map Value.ref) = some (bs.any id)
  | [], [], _ => rfl
  | c :: cs, b :: bs, h => by
    injection h with h1 h2
    have h3 : PySem.W.kitOne K t (.ref c) = some b := h1
    rw [List.map_cons]
    unfold PySem.W.kitAny
    rw [h3]
    cases b with
    | true => rfl
    | false => exact any_of cs bs h2
  | [], _ :: _, h => nomatch h
  | _ :: _, [], h => nomatch h
/-! ### raised with any text -/
theorem type_exc {K : PySem.W.Frag} {C : Addr} {bmB : List Value} {newId : String} (q : PySem.W.excIn K C bmB newId = true) : PySem.W.typeIn K (.ref C) = some (.type "type") := by
  unfold PySem.W.excIn at q
  unfold PySem.W.typeIn
  split at q
  · rename_i h
    first
      | (rw [h]; rfl)
      | (simp only [h]; rfl)
  · cases q
theorem raises_exc {X : Cx} {C : Addr} {bmB : List Value} {newId : String} (E : ErrC X.K C) (q : PySem.W.excIn X.K C bmB newId = true) : Raises X (.ref C) := raises_own E.exc.hs (type_exc q)
section
variable {X : Cx} {C : Addr} {bmB : List Value} {B newId initId : String} {x : Str} {e : Expr} {ta : TE} {p pos : Pos}
/-- C(e), no own __init__ -/
theorem pmk_any (F : ExcBaseFacts B newId initId bmB) (q : PySem.W.excIn X.K C bmB newId = true) (E : ErrC X.K C) (gC : X.mg x = some (.ref C)) (hg : Gl X x) (he : PE X e ta)
    (hdb : (x == ("__debug__" : Str)) = false := by decide) (h1 : starEach [e] X.env = (false, eval e X.env) :: starEach [] X.env := by rfl) : L2N.PMk X (.Call (.Name x p) [e] [] pos) (fun σ H Q => ta σ H fun _ H1 => Q (.ref C) none H1) := by
  intro pins s σ H Q I h
  refine wpAny_Call_Name_kw (ld_glob I hg gC ?_ hdb)
  refine PySem.W.callWith_K (h₀ := X.base) I.ok.mod.kin E.kp (PyProof.Rows.args_cons (thn (he.run pins s σ H _ I h) fun u s1 ⟨v, H1, I1, rv, q1⟩ => PyProof.Rows.args_nil ⟨I1.kIn, ?_⟩) h1) h1 (by rfl)
  show wpAny _ _ (call (.ref C) [u]) _ _ _
  obtain ⟨bm, N, nm, qn, bs, hdct, sn, sub, ab, col, dd, k0, k1, k2, k3, k5, mN, hC, hN, hni, T⟩ := exc_obj I1.kIn q
  exact wpAny_call_exc_subT F T hC hN hni (fun h' a hm => L2N.mk_of I1 hm (raises_exc E q) q1 (I1.hok.gone hm.new)) (by
    show 1 ≤ sizeLine
    decide)
end
/-- x in a list or tuple of flat items -/
theorem inSL {X : Cx} {K : PySem.W.Frag} (hK : X.K = K) : OpR X (compareOp .In) (rIn K false) := hK ▸ op_in_seq
/-! ### methods and makers that raise into a try -/
section
variable {X : Cx} {CX : CXT} {k : Nat} {f C : Addr} {fd : FuncData} {ps : List Str} {sp : Sp} {E : L2.St → XK} {x m : Str} {p pos apos : Pos} {e o : Expr} {es : List Expr} {ta : TE} {t : TA}
def tMethS (C : Addr) (m : Str) (sp : Sp) (E : L2.St → XK) (ta : TE) (t : TA) : TE := fun σ H Q => ta σ H fun z H1 => ∃ a dx fs, z = .ref a ∧ H1 a = some (.ins C dx fs) ∧ fs.lookup m = none ∧ t σ H1 fun vs H2 => sp (z :: vs) H2 Q (E σ)
theorem pe_methS {pl : Sem Bool} (he : PE X o ta) (c : Cls X.K C) (hm : Meth X.K C m f) (F : FnOk X.prog X.w X.K X.mg X.base CX k f fd ps sp) (hr : Room k X.A) (hb : Binds X.K fd ps []) (hx : ∀ σ, PassesAt CX X σ (E σ)) (ha : PA X (e :: es) t)
    (h1 : starEach (e :: es) X.env = (false, eval e X.env) :: starEach es X.env := by rfl) (h2 : (backTo pos (starEach es X.env)).any (·.1) = false := by rfl)
    (h3 : eval (.Call (.Attribute o m apos) (e :: es) [] pos) X.env = (eval o X.env >>= fun ov => do
      standAt apos.atName
      let r ← holding [ov] (getMethod ov m pl)
      callWith pos r.1 r.2 (backTo pos (starEach (e :: es) X.env)) (backToKw pos (keywordEach [] X.env))) := by rfl) : PE X (.Call (.Attribute o m apos) (e :: es) [] pos) (tMethS C m sp E ta t) := by
  refine ⟨fun pins s σ H Q I h => PySem.W.methodCall_KW (pl := pl) (thn (he.run pins s σ H _ I h) fun u s1 ⟨z, H1, I1, rz, a, dx, fs, ez, ea, l, q⟩ => ?_) h3⟩
  subst ez
  obtain rfl : u = Value.ref a := rz
  exact getmeth_ok I1 ea c hm l (PySem.W.callWith_K (first := [.ref a]) (h₀ := X.base) I.ok.mod.kin hm.kp (thn (ha.run pos pins s1 σ H1 _ I1 q) fun us s2 ⟨vs, H2, I2, r, q2⟩ =>
    ⟨I2.kIn, run_fnS (us := .ref a :: us) (vs := .ref a :: vs) F hr hb (hx σ) I2 (.cons rfl r) q2⟩) h1 h2)
theorem pe_methS0 {pl : Sem Bool} (he : PE X o ta) (c : Cls X.K C) (hm : Meth X.K C m f) (F : FnOk X.prog X.w X.K X.mg X.base CX k f fd ps sp) (hr : Room k X.A) (hb : Binds X.K fd ps []) (hx : ∀ σ, PassesAt CX X σ (E σ))
    (h3 : eval (.Call (.Attribute o m apos) [] [] pos) X.env = (eval o X.env >>= fun ov => do
      standAt apos.atName
      let r ← holding [ov] (getMethod ov m pl)
      callWith pos r.1 r.2 (backTo pos (starEach [] X.env)) (backToKw pos (keywordEach [] X.env))) := by rfl) : PE X (.Call (.Attribute o m apos) [] [] pos) (tMethS C m sp E ta tNil) := by
  refine ⟨fun pins s σ H Q I h => PySem.W.methodCall_KW (pl := pl) (thn (he.run pins s σ H _ I h) fun u s1 ⟨z, H1, I1, rz, a, dx, fs, ez, ea, l, q⟩ => ?_) h3⟩
  subst ez
  obtain rfl : u = Value.ref a := rz
  exact getmeth_ok I1 ea c hm l (PySem.W.callWith_K0 (first := [.ref a]) I1.kIn hm.kp (run_fnS (us := [.ref a]) (vs := [.ref a]) F hr hb (hx σ) I1 (.cons rfl .nil) q))
def tMakeS (C : Addr) (sp : Sp) (E : L2.St → XK) (t : TA) : TE := fun σ H Q => t σ H fun vs H1 => ∀ z dx, H1 z = none → H1 dx = none → dx ≠ z → sp (.ref z :: vs) (upd (upd H1 dx (.own z)) z (.ins C dx [])) (fun v H2 => v = .non ∧ Q (.ref z) H2) (E σ)
theorem pe_makeS (M : Mk X.K C f) (F : FnOk X.prog X.w X.K X.mg X.base CX k f fd ps sp) (hr : Room (k + 1) X.A) (hg : Gl X x) (hm : X.mg x = some (.ref C)) (hb : Binds X.K fd ps []) (hx : ∀ σ, PassesAt CX X σ (E σ)) (ha : PA X (e :: es) t)
    (hdb : (x == ("__debug__" : Str)) = false := by decide) (h1 : starEach (e :: es) X.env = (false, eval e X.env) :: starEach es X.env := by rfl) (h2 : (backTo pos (starEach es X.env)).any (·.1) = false := by rfl) :
    PE X (.Call (.Name x p) (e :: es) [] pos) (tMakeS C sp E t) := by
  refine ⟨fun pins s σ H Q I0 h0 => wpAny_Call_Name_kw (ld_glob I0 hg hm (PySem.W.callWith_K (h₀ := X.base) I0.ok.mod.kin M.kp (thn (ha.run pos pins s σ H _ I0 h0) fun us s1 ⟨vs, H1, I, r, q⟩ => ⟨I.kIn, ?_⟩) h1 h2) hdb)⟩
  have J := L2.Inv.made (C := C) I
  have q1 := q (s1.heap.objs.size + 1) s1.heap.objs.size (I.hok.fresh (Nat.le_succ _)) (I.hok.fresh (Nat.le_refl _)) (Nat.ne_of_lt (Nat.lt_succ_self _))
  have rr : Vals (V.ref (s1.heap.objs.size + 1) :: vs) (Value.ref (s1.heap.objs.size + 1) :: us) := .cons rfl r
  have hl : (Value.ref (s1.heap.objs.size + 1) :: us).length = ps.length := rr.length.symm.trans (F.len _ _ _ _ q1)
  have b := hb _ (Value.ref (s1.heap.objs.size + 1) :: us) J.kIn (by rw [List.append_nil]; exact hl)
  rw [List.append_nil] at b
  refine wpAny_call (make_map (f := f) I.kIn M.makes M.init (beq_iff_eq.mp M.fn) (codeAny_mono (F.run _ X.stack _ _ ⟨_ :: us, []⟩ _ _ _ (E σ) (hr.make C us []) (J.env0.make C us []) b rr q1) fun res s' w => ?_))
  rcases res with er | (_ | _ | _ | u)
  · exact hx σ pins _ _ er s' J w
  · exact False.elim w
  · exact False.elim w
  · exact False.elim w
  · obtain ⟨v, H', J', rv, ev, q3⟩ := J.after w
    subst ev
    exact ⟨rv, V.ref (s1.heap.objs.size + 1), H', J', rfl, q3⟩
end
end Sd

namespace Sd
open PySem PySem.Spec PySem.W PySem.Calls PyProof.Rows L2
/-! ### sorted(S), S a list of lists of ints -/
def leL (a b : V × List Int) : Bool := PySem.W.dataLe false (fun p : V × List Int => dI p.2) a b
def sortL (xs : List V) (S : List (List Int)) : List (V × List Int) := (xs.zip S).mergeSort leL
theorem sortL_perm (xs : List V) (S : List (List Int)) : (sortL xs S).Perm (xs.zip S) := List.mergeSort_perm ..
theorem vals_each : ∀ {xs : List V} {us : List Value} {S : List (List Int)}, Vals xs us → xs.length = S.length → PySem.W.EachIs (fun (u : Value) (p : V × List Int) => RelV p.1 u) us (xs.zip S)
  | [], _, S, .nil, _ => by
    rw [List.zip_nil_left]
    exact .nil
  | x :: xs, _, [], .cons r rs, h => by cases h
  | x :: xs, _, s :: S, .cons r rs, h => by
    rw [List.zip_cons_cons]
    exact .cons r (vals_each rs (Nat.succ.inj h))
theorem each_vals : ∀ {us : List Value} {ps : List (V × List Int)}, PySem.W.EachIs (fun (u : Value) (p : V × List Int) => RelV p.1 u) us ps → Vals (ps.map (·.1)) us
  | _, _, .nil => .nil
  | _, _, .cons r rs => .cons r (each_vals rs)
theorem zip_snd : ∀ {xs : List V} {S : List (List Int)}, xs.length = S.length → (xs.zip S).map (·.2) = S
  | [], [], _ => rfl
  | [], _ :: _, h => by cases h
  | _ :: _, [], h => by cases h
  | x :: xs, s :: S, h => by
    rw [List.zip_cons_cons, List.map_cons, zip_snd (Nat.succ.inj h)]
theorem dpAll_len {K : PySem.W.Frag} {H : Hp} : ∀ {xs : List V} {ds : List PyData}, DpAll K H xs ds → xs.length = ds.length
  | _, _, .nil => rfl
  | _, _, .cons _ r => by rw [List.length_cons, List.length_cons, dpAll_len r]
def rSortL (K : PySem.W.Frag) : List V → Hp → VK → Prop := fun vs H Q => ∃ (a : Addr) (xs : List V) (S : List (List Int)), vs = [V.ref a] ∧ SqL K H a xs ∧ DpAll K H xs (S.map dI) ∧
  ∀ p, H p = none → Q (.ref p) (upd H p (.lst ((sortL xs S).map (·.1))))
theorem cr_sortL {X : Cx} {K : PySem.W.Frag} (hK : X.K = K) {k : Nat} (hr : Room k X.A) : CallR X (.builtin "sorted") (rSortL K) := by
  subst hK
  intro pins s σ H vs us Q I r h
  obtain ⟨a, xs, S, rfl, hs, hd, q⟩ := h
  obtain ⟨its, rv, hl, hz⟩ := I.list hs
  rw [Vals.ref1 r]
  have hu := hr.units
  have hlen : xs.length = S.length := by
    have := dpAll_len hd
    rwa [List.length_map] at this
  obtain ⟨as, hR⟩ := Dp.readsAll I _ _ _ hd rv
  have hR2 : PySem.ReadsAll s.heap its ((xs.zip S).map fun p => dI p.2) as := by
    have e : (xs.zip S).map (fun p => dI p.2) = S.map dI := by
      rw [← zip_snd hlen, List.map_map, zip_snd hlen]
      rfl
    rw [e]
    exact hR
  have hzl : (xs.zip S).length = xs.length := by
    rw [List.length_zip, hlen, Nat.min_self]
  refine PySem.W.sorted_data (β := V × List Int) (bs := xs.zip S) (enc := fun p => dI p.2) (R := fun u p => RelV p.1 u) hl.isList (vals_each rv hlen) (PySem.W.readsAll_each (fun p : V × List Int => dI p.2) hR2) (PySem.W.AllAlike.of fun b b' => alike_dI b.2 b'.2) (PySem.W.Sortable.others (enc := fun p : V × List Int => dI p.2) fun b => ⟨fun z => (by unfold dI at z; cases z), fun xs z => (by unfold dI at z; cases z)⟩) (by rw [hzl]; exact hz) (fun b _ => by have := depth_dI b.2; omega) fun out ho he => ?_
  have hv := each_vals he
  refine ⟨.ref (s.heap.objs.size + 1), upd H (s.heap.objs.size + 1) (.lst ((sortL xs S).map (·.1))), I.laid (t' := s.toks) (fun b o e => PyProof.Rows.sortedAll_old e) (Nat.le_succ _) ⟨?_, out, (PyProof.Rows.sortedAll_at s.heap its out.toArray).choose, hv, (PyProof.Rows.sortedAll_at s.heap its out.toArray).choose_spec⟩, rfl, q _ (I.hok.fresh (Nat.le_succ _))⟩
  have e := hv.length
  show (((xs.zip S).mergeSort (PySem.W.dataLe false fun p => dI p.2)).map (·.1)).length ≤ sizeLine
  rw [e, ho, hzl]
  exact hz
/-- xs[i] with any i, read by an augmented assignment -/
def rGetN (K : PySem.W.Frag) : V → V → Hp → VK → Prop := fun o i H Q => ∃ (p : Addr) (xs : List V) (k : Int) (z : V), o = .ref p ∧ i = .int k ∧ SqL K H p xs ∧ atI xs k = some z ∧ Q z H
theorem get_listN {X : Cx} {K : PySem.W.Frag} (hK : X.K = K) : PGet X (rGetN K) := by
  subst hK
  intro pins s σ H o i ov iv Q I ro ri h
  obtain ⟨p, xs, k, z, rfl, rfl, hq, he, q⟩ := h
  cases ro
  obtain ⟨t, rfl⟩ := ri
  obtain ⟨its, r, pl, hz⟩ := I.list hq
  obtain ⟨j, h1, h2, h3, h4, h5⟩ := atI_get he
  obtain ⟨w, ew, rw'⟩ := r.get h2
  have hl := r.length
  have hn := line63
  have fin : EP X pins σ Q w s := ⟨z, H, I, rw', q⟩
  by_cases h0 : 0 ≤ k
  · have hj : k.toNat = j := by
      rw [seqIndex_of h0 h5] at h1
      exact Option.some.inj h1
    exact wpAny_getItem_list pl.isList h0 (by omega) (by rw [hj]; simpa using ew) fin
  · have hj : (k + (its.toArray.size : Int)).toNat = j := by
      rw [seqIndex_neg (by omega) h4] at h1
      rw [List.size_toArray, ← hl]
      exact Option.some.inj h1
    exact wpAny_getItem_list_neg pl.isList (by omega) (by rw [List.size_toArray] <;> omega) (by omega) (by rw [hj]; simpa using ew) fin
/-! ### combinations(range(n), k) gone over -/
def YCb (n k : Nat) : Nat → Hp → V → Hp → Prop := fun i H v H' => ∃ T, v = .ref T ∧ H T = none ∧ ∃ l, (chs n k)[i]? = some l ∧ H' = upd H T (.tup (l.map fun (x : Nat) => V.int x))
theorem walk_comb {n k : Nat} : Walk (Icb n k) (chs n k).length (fun _ => True) (YCb n k) :=
  ⟨fun _ _ hi _ => hi, fun _ _ => rfl, fun _ _ _ _ _ _ y => y⟩
/-! ### isinstance(e, c), e the handled error, c a class or a tuple of classes -/
section
variable {X : Cx} {p : Addr × Obj}
def rIsPT (K : PySem.W.Frag) (p : Addr × Obj) : List V → Hp → VK → Prop := fun xs H Q => ∃ (D : Addr) (fs : List (Str × V)) (c : V) (b : Bool), xs = [.ref p.1, c] ∧ PinE H p D fs ∧ ExcC K D ∧
  ((∃ cv, (∀ u, RelV c u → u = cv) ∧ PySem.W.kitOne K (.ref D) cv = some b) ∨ ∃ (t : Addr) (cs : List Addr), c = .ref t ∧ H t = some (.tup (cs.map V.ref)) ∧ PySem.W.kitAny K (.ref D) (cs.map Value.ref) = some b) ∧ Q (.bl b) H
theorem isPTL {K : PySem.W.Frag} (hK : X.K = K) (hp : p ∈ X.pn) : CallR X (.builtin "isinstance") (rIsPT K p) := by
  subst hK
  intro pins s σ H xs us Q I r ⟨D, fs, c, b, exs, e, C, hor, q⟩
  subst exs
  cases r with
  | cons rx rr =>
    cases rr with
    | cons rt rr =>
      cases rr
      cases rx
      obtain ⟨od, J, _⟩ := pin_inst I hp e
      obtain ⟨cd, hcd, _⟩ := PySem.W.any_some C.hd
      have Z := PySem.W.kitx_exc (x := p.1) (ox := p.2) (od := od) (by rw [hcd]; rfl) C.hg C.hk C.hs C.ha C.hn C.ht C.hm
      rcases hor with ⟨cv, hcv, ek⟩ | ⟨t, cs, rfl, ht, ek⟩
      · have ec := hcv _ rt
        subst ec
        exact PySem.W.kia_one Z I.kIn J ek (fun z => nomatch z) fun tk => ⟨.bl b, H, I.kept (t' := tk) fun _ _ z => z, rfl, q⟩
      · cases rt
        obtain ⟨its, rv, ⟨o, ho, hc, n, hd⟩, _⟩ := I.tuple (SqT.of ht)
        have ei := vals_refY rv
        subst ei
        obtain ⟨oc, odd, oda, osl⟩ := o
        dsimp only at hc hd
        subst hc hd
        exact PySem.W.kia_tup Z I.kIn J ho ek (fun z => nomatch z) fun tk => ⟨.bl b, H, I.kept (t' := tk) fun _ _ z => z, rfl, q⟩
end
end Sd

namespace Sd
open PySem PySem.Spec PySem.W PySem.Calls PyProof.Rows L2
/-! Sets of tuples of ints, sorted (the library's rules, for a known K). -/
theorem setOfTL {X : Cx} {K : PySem.W.Frag} {P : Program} {w : World} {k : Nat} (h : X.K = K) (hP : X.prog = P) (hw : X.w = w) (hc : X.calm = true) (hr : Room k X.A) : CallR X (.type "set") (rSetOfT K P w) := by
  subst h hP hw
  exact cr_setOfT hc hr.units
theorem sortedTL {X : Cx} {K : PySem.W.Frag} {P : Program} {w : World} (h : X.K = K) (hP : X.prog = P) (hw : X.w = w) (hc : X.calm = true) : CallR X (.builtin "sorted") (rSortedT K P w) := by
  subst h hP hw
  exact cr_sortedT hc
/-- tuple(xs) of a list or a tuple -/
def rTupOf (K : PySem.W.Frag) : List V → Hp → VK → Prop := fun xs H Q => ∃ (p : Addr) (ys : List V), xs = [V.ref p] ∧ ((SqL K H p ys ∧ ∀ l : Addr, H l = none → Q (V.ref l) (upd H l (HO.tup ys))) ∨ (SqT K H p ys ∧ Q (V.ref p) H))
theorem tupOfL {X : Cx} {K : PySem.W.Frag} (h : X.K = K) : CallR X (.type "tuple") (rTupOf K) := by
  subst h
  exact call_tuple_of
end Sd

/-! ### {(..) for .. in ..}: sets of tuples of ints comprehended -/
namespace SetX
open PySem PySem.Spec PyProof.Rows L2 PpSet
section
variable {P : Program} {w : World} {A : Around} {E : Value → Shared → Prop} {s : Shared}
/-- D.add(x), x a tuple of ints -/
theorem put_tup {D : Addr} {L : List (Addr × List Int)} {es : Array (Int × Value)} {ep : Nat} {t : SetTable} {x : Addr} {k : List Int} {Q : Value → Shared → Prop} (R : SetTR P w s.heap D L es ep t) (hx : IsT P w s.heap k x) (hu : A.units + 3 < cLine) (few : L.length + 1 < 64)
    (q : ∀ h' L' es' ep' t' tk, Heap.SameBut D s.heap h' → SetTR P w h' D L' es' ep' t' → (k ∈ L.map (·.2) → L' = L) → (k ∉ L.map (·.2) → L'.Perm ((x, k) :: L)) → Q .none { s with heap := h', toks := tk }) :
    wpAny (model P w) A (call (.builtin "set.add") [.ref D, .ref x]) Q E s := by
  obtain ⟨o, ho, hex, hd⟩ := id R.ob
  have hT : Shared.TypeIs s (.ref D) "set" := ⟨o, ho, hex.1⟩
  refine wpAny_call_entry F.slot_set_add hT F.entry_set_add ?_ (F.args_set_add_2 _ _)
  unfold Builtin.«set.add» Builtin.Frozenset.oneOther Builtin.Frozenset.addrOf setAdd
  simp only [List.isEmpty_nil, bind_assoc]
  refine wpAny_bind (wpAny_pure ?_)
  try dsimp only
  refine wpAny_bind (wpAny_pure ?_)
  try dsimp only
  have hu1 : A.in1.units < cLine := by
    show A.units + 1 < cLine
    omega
  refine wpAny_bind (wpAny_holding (wpAny_bind (wpAny_pyHash_tuple hu1 hx ?_)))
  refine add_at (s := { s with toks := s.toks + (k.length + 1) }) R hx hu1 few fun b h' L' es' ep' t' sb R' c1 c2 => ?_
  show wpAny _ _ (ret Value.none) _ _ _
  exact wpAny_pure ⟨_, rfl, q h' L' es' ep' t' _ sb R' c1 c2⟩
end
section
variable {X : Cx}
/-- the same of things that are tracked -/
theorem put_ok {pins : List (Addr × Obj)} {σ : L2.St} {H : Hp} {s : Shared} {E : Value → Shared → Prop} {D x : Addr} {L : List (Addr × List Int)} {k : List Int} {Q : Value → Shared → Prop} (I : Inv X pins σ H s) (hu : X.A.units + 64 < cLine) (hD : H D = some (SetTO X.prog X.w D L))
    (hL : ∀ p ∈ L, SqT X.K H p.1 (p.2.map V.int)) (hx : SqT X.K H x (k.map V.int)) (few : L.length + 1 < 64)
    (q : ∀ s' L', (k ∈ L.map (·.2) → L' = L) → (k ∉ L.map (·.2) → L'.Perm ((x, k) :: L)) → Inv X pins σ (upd H D (SetTO X.prog X.w D L')) s' → Q .none s') : wpAny (model X.prog X.w) X.A (call (.builtin "set.add") [.ref D, .ref x]) Q E s := by
  have R0 : SetT0 X.prog X.w s.heap D L := (I.hok D _ hD).1
  obtain ⟨es, ep, t, R⟩ := R0.full fun p hp => I.isT (hL p hp)
  refine put_tup R (I.isT hx) (by omega) few fun h' L' es' ep' t' tk sb R' c1 c2 => ?_
  have he : ∃ u, h'.get? D = some u := by
    obtain ⟨o, ho, _⟩ := R'.ob
    exact ⟨o, ho⟩
  refine q _ L' c1 c2 (I.write (e := D) (t' := tk) (by rw [hD]; trivial) (.inl rfl) (fun b u hb hu => (sb.2 b hb).trans hu) he (setTO_new R'.t0))
/-- {elt for target in iter if ..}, elt a tuple of ints: D the new set -/
def tScT (K : PySem.W.Frag) (P : Program) (w : World) (wi : TI) (g : TG) (tt : TT) (te : TE) (vs : List Nat) : TE := fun σ H Q => wi σ H fun J H1 => ∀ D, H1 D = none → ∃ W : Nat → Nat → Hp → Prop, (∃ m, W 0 m (upd H1 D (SetTO P w D []))) ∧ ∀ i m H, W i m H →
  (J.stop i H ∧ Q (.ref D) H) ∨ (J.go i H ∧ ∃ Nx : Hp → Prop, (∀ H', Nx H' → ∃ m', m' < m ∧ W (i + 1) m' H') ∧ ∀ x H', J.yld i H x H' → g x (wipe σ vs) H' fun σ2 H2 => wipe σ2 vs = wipe σ vs ∧ tt σ2 H2 fun b H3 =>
    if b = true then te σ2 H3 fun y H4 => ∃ (t : Addr) (k : List Int) (L : List (Addr × List Int)), y = .ref t ∧ SqT K H4 t (k.map V.int) ∧ H4 D = some (SetTO P w D L) ∧ (∀ p ∈ L, SqT K H4 p.1 (p.2.map V.int)) ∧ L.length + 1 < 64 ∧
      ∀ L', (k ∈ L.map (·.2) → L' = L) → (k ∉ L.map (·.2) → L'.Perm ((t, k) :: L)) → Nx (upd H4 D (SetTO P w D L')) else Nx H3)
/-- a comprehension's parts, in each block -/
structure ScT (X : Cx) (tg elt : Expr) (ifs : List Expr) (scope : Scope) (g : TG) (tt : TT) (te : TE) : Prop where
  tg : ∀ (s : Shared) (H : Hp) (C : Addr) (cl : List (Str × Addr)) (fp : List Addr), PG (X.blk s H scope (compEnvC scope cl C X.env) fp) tg g
  ifs : ∀ (s : Shared) (H : Hp) (C : Addr) (cl : List (Str × Addr)) (fp : List Addr), PTs (X.blk s H scope (compEnvC scope cl C X.env) fp) ifs tt
  elt : ∀ (s : Shared) (H : Hp) (C : Addr) (cl : List (Str × Addr)) (fp : List Addr), PE (X.blk s H scope (compEnvC scope cl C X.env) fp) elt te
variable {elt tg iter : Expr} {ifs : List Expr} {scope : Scope} {own : List (Str × Nat)} {pos : Pos} {wi : TI} {g : TG} {tt : TT} {te : TE}
theorem scT_core {pins : List (Addr × Obj)} {s : Shared} {σ : L2.St} {H : Hp} {Q : VK} {pos' : Pos} {use : Option (Value → Sem Unit)} {Qf : Value → Shared → Prop}
    (hc : X.calm = true) (hu : X.A.units + 64 < cLine) (hN : X.N.Nodup) (I : L2.Inv X pins σ H s) (hi : PI X tg iter wi) (ok : BlkOk X.N X.env.scope scope own) (L : ScT X tg elt ifs scope g tt te) (hs : ∀ x, foldedSetIterable iter X.env x = pure x)
    (h : tScT X.K X.prog X.w wi g tt te (own.map (·.2)) σ H Q)
    (fin : ∀ D C s' m H', L2.Inv X pins σ H' s' → Q (.ref D) H' → s'.heap.Ns C m → FpOk X pins H' C → compPost (model X.prog X.w) X.A X.xe use Qf (.ref D) C (.ok .next) s') :
    wpAny (model X.prog X.w) X.A (comprehension (.SetComp elt [⟨tg, iter, ifs, 0⟩] scope pos) scope X.env pos' (newSet (.type "set")) false (eval iter X.env) use) Qf X.xe s := by
  have hfree : ∀ y ∈ scope.names, y.2 = .free → ∃ c, X.env.cells.lookup y.1 = some c := fun y hy e => (ok.free y hy e).elim (fun k => I.ok.has _ (.inl k)) fun k => I.ok.has _ (.inr k)
  refine wpAny_comprehension_free (use := use) rfl hs (closure_ok hfree) ok.kind (fun y hy e => by rw [ok.uniq y hy, e])
    (thn (hi.run pins s σ H _ I h) fun xv s1 hx => thn hx fun itv s2 ⟨it, fp, tn, J, H2, e, I2, T, st2, f2, q⟩ => ?_)
  subst e
  refine newSet_ok (newEnv_comp ?_)
  obtain ⟨W, ⟨m0, w0⟩, turn⟩ := q s2.heap.objs.size (I2.hok.fresh (Nat.le_refl _))
  -- the new set at D, its state s3
  obtain ⟨D, hD⟩ : ∃ D, D = s2.heap.objs.size := ⟨_, rfl⟩
  rw [← hD] at w0 turn
  have lt2 : ∀ b ∈ fp, b < s2.heap.objs.size := fun b hb => by
    obtain ⟨o, e, _⟩ := T.obj _ _ st2 b hb
    exact Heap.lt_size e
  obtain ⟨s3, hs3⟩ : ∃ s3 : Shared, s3 = { s2 with heap := s2.heap.push { cls := .type "set", dict := none, data := .set #[] 0 (.fresh 0 0 (!X.w.params.followText "set-order")) } } := ⟨_, rfl⟩
  have h3 : s3.heap = s2.heap.push { cls := .type "set", dict := none, data := .set #[] 0 (.fresh 0 0 (!X.w.params.followText "set-order")) } := by rw [hs3]
  have k3 : ∀ b o, s2.heap.get? b = some o → s3.heap.get? b = some o := fun b o e => by rw [h3]; exact Heap.get?_push_of_some _ e
  have I3 : L2.Inv X pins σ (upd H2 D (SetTO X.prog X.w D [])) s3 := by
    rw [hs3]
    refine I2.laid (t' := s2.toks) (fun b o e => Heap.get?_push_of_some _ e) (Nat.le_of_eq hD.symm) ?_
    rw [hD]
    exact setTO_new (setTR_fresh (P := X.prog) (w := X.w) (Heap.get?_push_size _ rfl)).t0
  obtain ⟨H3, hH3⟩ : ∃ H3, H3 = upd H2 D (SetTO X.prog X.w D []) := ⟨_, rfl⟩
  rw [← hH3] at I3 w0
  have f3 : ∀ b ∈ fp, FpOk X pins H3 b ∧ b < s3.heap.objs.size := fun b hb => by
    refine ⟨⟨?_, (f2 b hb).2⟩, by rw [h3, Heap.size_push]; exact Nat.lt_succ_of_lt (lt2 b hb)⟩
    rw [hH3, upd_ne (by rw [hD]; exact Nat.ne_of_lt (lt2 b hb))]
    exact (f2 b hb).1
  have I4 := block_start I3 ok hN f3
  -- the block
  obtain ⟨cl, hcl⟩ : ∃ cl, cl = cellsFrom (s3.heap.objs.size + 1) scope.names (cloFrom X.env.cells scope.names []) := ⟨_, rfl⟩
  have pg := L.tg s3 H3 s3.heap.objs.size cl fp
  have pt := L.ifs s3 H3 s3.heap.objs.size cl fp
  have pe := L.elt s3 H3 s3.heap.objs.size cl fp
  rw [← hcl] at I4
  rw [← hs3]
  rw [show s2.heap.objs.size = D from hD.symm]
  show codeAny _ _ (.compStart (.SetComp elt [⟨tg, iter, ifs, 0⟩] scope pos) 0 (.ref it) (.ref D) (compEnvC scope (cellsFrom (s3.heap.objs.size + 1) scope.names (cloFrom X.env.cells scope.names [])) s3.heap.objs.size X.env)) (compPost (model X.prog X.w) X.A X.xe use Qf (.ref D) s3.heap.objs.size) { s3 with heap := pushCells (s3.heap.push { cls := .type "dict", data := .dict #[] }) scope.names }
  rw [← hcl]
  obtain ⟨ce, hce⟩ : ∃ ce, ce = compEnvC scope cl s3.heap.objs.size X.env := ⟨_, rfl⟩
  have cL : ce.locals = s3.heap.objs.size := by rw [hce]; rfl
  rw [← hce] at I4 pg pt pe ⊢
  obtain ⟨s4, hs4⟩ : ∃ s4 : Shared, s4 = { s3 with heap := pushCells (s3.heap.push { cls := .type "dict", data := .dict #[] }) scope.names } := ⟨_, rfl⟩
  rw [← hs4] at I4 ⊢
  have st4 : tn 0 s4.heap := T.keep _ _ _ (T.keep _ _ _ st2 fun b _ o e => k3 b o e) fun b _ o e => by rw [hs4]; exact pushCells_keeps _ _ _ _ (Heap.get?_push_of_some _ e)
  have stat : ∀ {σ' : L2.St} {H' : Hp} {s' : Shared}, L2.Inv (X.blk s3 H3 scope ce fp) [] σ' H' s' → (∀ b ∈ fp, H' b = none) → ∀ b ∈ fp, FpOk (X.blk s3 H3 scope ce fp) [] H' b := fun {σ' H' s'} I' hn b hb =>
    ⟨hn b hb, (I'.ok.exf b hb).1, I'.ok.exfs b hb, .inl hb, fun x c e => (I'.ok.exf b hb).2 x c e, fun p hp => absurd (show p ∈ ([] : List (Addr × Obj)) ++ [] from hp) (by simp)⟩
  have loop : codeAny (model X.prog X.w) X.A (.compLoop (.SetComp elt [⟨tg, iter, ifs, 0⟩] scope pos) 0 (.ref it) (.ref D) ce) (compPost (model X.prog X.w) X.A X.xe use Qf (.ref D) s3.heap.objs.size) s4 := by
    refine compLoopS_any (fun n s' => ∃ i H', L2.Inv (X.blk s3 H3 scope ce fp) [] (wipe σ (own.map (·.2))) H' s' ∧ tn i s'.heap ∧ (∀ b ∈ fp, H' b = none) ∧ W i n H') (fun n s5 ⟨i, H5, I5, st5, n5, w5⟩ => ?_) m0 ⟨0, H3, I4, st4, fun b hb => (f3 b hb).1.1, w0⟩
    rcases turn i n H5 w5 with ⟨stop, qq⟩ | ⟨go, Nx, hNx, step⟩
    · -- the end: back in the def
      refine thnF (T.done (X.blk s3 H3 scope ce fp) rfl rfl rfl hc i [] s5 _ H5 (fun _ _ => False) I5 (stat I5 n5) st5 stop) fun r s6 ⟨hr, I6⟩ => ?_
      subst hr
      have I7 : L2.Inv X pins σ H5 s6 := I3.call' (ch := fp) I6.os I6.base I6.hok I6.bare fun b hb => ⟨(f3 b hb).1.2.2.2.1, (f3 b hb).1.2.1, (f3 b hb).1.2.2.2.2.1, (f3 b hb).1.2.2.2.2.2⟩
      have nC : H5 ce.locals = none := I6.free
      obtain ⟨m, hn, _⟩ := I6.loc
      have hn : s6.heap.Ns ce.locals m := hn
      rw [cL] at hn nC
      exact fin D s3.heap.objs.size s6 m H5 I7 qq hn (I3.fpOk (Nat.le_refl _) nC)
    · refine thnF (T.item (X.blk s3 H3 scope ce fp) rfl rfl rfl hc i [] s5 _ H5 (fun _ _ => False) I5 (stat I5 n5) st5 go) fun r s6 ⟨u, hr, h6⟩ => ?_
      subst hr
      refine thnF h6 fun _ s7 ⟨x, H7, I7, r7, y7, st7, n7⟩ => ?_
      refine thnF (pg.run _ s7 _ H7 x u _ (I7.pinned (stat I7 n7) (T.obj _ _ st7)) r7 (step x H7 y7)) fun _ s8 ⟨σ8, H8, I8, hw8, q8⟩ => ?_
      refine thnF (pt.run _ s8 σ8 H8 _ I8 q8) fun b s9 ⟨H9, I9, q9⟩ => ?_
      have again : ∀ {s' : Shared} {H' : Hp}, L2.Inv (X.blk s3 H3 scope ce fp) ([] ++ pinsAt fp s7.heap) σ8 H' s' → Nx H' → ∃ m, m < n ∧ ∃ i H', L2.Inv (X.blk s3 H3 scope ce fp) [] (wipe σ (own.map (·.2))) H' s' ∧ tn i s'.heap ∧ (∀ b ∈ fp, H' b = none) ∧ W i m H' := fun {s' H'} I' nx => by
        obtain ⟨m', hm, w'⟩ := hNx H' nx
        have at' : ∀ b ∈ fp, ∀ o, s7.heap.get? b = some o → s'.heap.get? b = some o ∧ H' b = none := fun b hb o e =>
          ⟨(I'.pin (b, o) (List.mem_append_right _ (List.mem_append_right _ (mem_pinsAt hb e)))).1, (I'.pin (b, o) (List.mem_append_right _ (List.mem_append_right _ (mem_pinsAt hb e)))).2.1⟩
        refine ⟨m', hm, i + 1, H', (I'.unpinned (pins := [])).weak (by rw [← hw8, wipe_length]) (fun j v e => ?_), T.keep _ _ _ st7 fun b hb o e => (at' b hb o e).1, fun b hb => ?_, w'⟩
        · rw [← hw8] at e
          exact (wipe_some e).1
        · obtain ⟨o, e, _⟩ := T.obj _ _ st7 b hb
          exact (at' b hb o e).2
      cases b with
      | false =>
        simp only [Bool.false_eq_true, if_false] at q9 ⊢
        exact again I9 q9
      | true =>
        simp only [if_true] at q9 ⊢
        refine thnF (pe.run _ s9 σ8 H9 _ I9 q9) fun z s10 ⟨yv, H10, I10, r10, t, k, L0, ey, ht, hD10, hL0, few, nx⟩ => ?_
        subst ey
        cases (show z = Value.ref t from r10)
        exact put_ok (X := X.blk s3 H3 scope ce fp) I10 hu hD10 hL0 ht few fun s11 L' c1 c2 I11 => again I11 (nx L' c1 c2)
  exact codeAny_compStart_set loop (T.self X.A 0 _ _ _ st4 loop)
theorem pe_scT {K : PySem.W.Frag} {P : Program} {w : World} {k : Nat} (hK : X.K = K) (hP : X.prog = P) (hw : X.w = w) (hc : X.calm = true) (hr : Room k X.A) (hN : X.N.Nodup) (hi : PI X tg iter wi) (ok : BlkOk X.N X.env.scope scope own) (L : ScT X tg elt ifs scope g tt te) (hs : ∀ x, foldedSetIterable iter X.env x = pure x := by intro _; rfl) :
    PE X (.SetComp elt [⟨tg, iter, ifs, 0⟩] scope pos) (tScT K P w wi g tt te (own.map (·.2))) := by
  subst hK hP hw
  refine ⟨fun pins s σ H Q I h => ?_⟩
  rw [eval_SetComp]
  refine scT_core hc hr.units hN I hi ok L hs h fun D C s' m H' I' q hn f => ⟨m, hn, fun h'' sb => ?_⟩
  obtain ⟨f0, f1, f2, f3, f4, f5⟩ := f
  exact ⟨.ref D, H', I'.turned (t' := s'.toks) (fun b o hb e => (sb.2 b hb).trans e) f0 f1 f3 f4 f5, rfl, q⟩
/-- len of a set of tuples -/
def rLenT (K : PySem.W.Frag) (P : Program) (w : World) : List V → Hp → VK → Prop := fun xs H Q => ∃ (a : Addr) (L : List (Addr × List Int)), xs = [.ref a] ∧ H a = some (SetTO P w a L) ∧ (∀ p ∈ L, SqT K H p.1 (p.2.map V.int)) ∧ ((L.map (·.2)).Nodup → L.length < 64 → Q (.int L.length) H)
theorem cr_lenT {K : PySem.W.Frag} {P : Program} {w : World} (hK : X.K = K) (hP : X.prog = P) (hw : X.w = w) : CallR X (.builtin "len") (rLenT K P w) := by
  subst hK hP hw
  intro pins s σ H xs us Q I r h
  obtain ⟨a, L, rfl, e, hL, q⟩ := h
  rw [Vals.ref1 r]
  have R0 : SetT0 X.prog X.w s.heap a L := (I.hok a _ e).1
  obtain ⟨es, ep, t, R⟩ := R0.full fun p hp => I.isT (hL p hp)
  obtain ⟨o, ho, hx, hd⟩ := R.ob
  have hn := R.size
  have h64 := R.few
  refine call_len_set ho hx hd R.fits (by omega) ?_
  rw [hn]
  exact ⟨.int L.length, H, I.tok _, ⟨_, rfl⟩, q R.nd h64⟩
end
/-- gone over: Pv by the turn and the heap -/
theorem scT_it {K : PySem.W.Frag} {P : Program} {w : World} {J : It} {n : Nat} {G : Hp → Prop} {Y : Nat → Hp → V → Hp → Prop} (wk : Walk J n G Y) {g : TG} {tt : TT} {te : TE} {vs : List Nat} {σ : L2.St} {H1 : Hp} {D : Addr} {Qd : Hp → Prop} (Pv : Nat → Hp → Prop) (h0 : Pv 0 (upd H1 D (SetTO P w D []))) (hG : ∀ i H, i ≤ n → Pv i H → G H)
    (hs : ∀ i x H H', i < n → Pv i H → Y i H x H' → g x (wipe σ vs) H' fun σ2 H2 => wipe σ2 vs = wipe σ vs ∧ tt σ2 H2 fun b H3 =>
      if b = true then te σ2 H3 fun y H4 => ∃ (t : Addr) (k : List Int) (L : List (Addr × List Int)), y = .ref t ∧ SqT K H4 t (k.map V.int) ∧ H4 D = some (SetTO P w D L) ∧ (∀ p ∈ L, SqT K H4 p.1 (p.2.map V.int)) ∧ L.length + 1 < 64 ∧
        ∀ L', (k ∈ L.map (·.2) → L' = L) → (k ∉ L.map (·.2) → L'.Perm ((t, k) :: L)) → Pv (i + 1) (upd H4 D (SetTO P w D L')) else Pv (i + 1) H3) (hd : ∀ H, Pv n H → Qd H) :
    ∃ W : Nat → Nat → Hp → Prop, (∃ m, W 0 m (upd H1 D (SetTO P w D []))) ∧ ∀ i m H, W i m H →
      (J.stop i H ∧ Qd H) ∨ (J.go i H ∧ ∃ Nx : Hp → Prop, (∀ H', Nx H' → ∃ m', m' < m ∧ W (i + 1) m' H') ∧ ∀ x H', J.yld i H x H' → g x (wipe σ vs) H' fun σ2 H2 => wipe σ2 vs = wipe σ vs ∧ tt σ2 H2 fun b H3 =>
        if b = true then te σ2 H3 fun y H4 => ∃ (t : Addr) (k : List Int) (L : List (Addr × List Int)), y = .ref t ∧ SqT K H4 t (k.map V.int) ∧ H4 D = some (SetTO P w D L) ∧ (∀ p ∈ L, SqT K H4 p.1 (p.2.map V.int)) ∧ L.length + 1 < 64 ∧
          ∀ L', (k ∈ L.map (·.2) → L' = L) → (k ∉ L.map (·.2) → L'.Perm ((t, k) :: L)) → Nx (upd H4 D (SetTO P w D L')) else Nx H3) := by
  refine ⟨fun i m H => m + i = n ∧ Pv i H, ⟨n, rfl, h0⟩, fun i m H ⟨e, p⟩ => ?_⟩
  have q := hG i H (by omega) p
  cases m with
  | zero =>
    obtain rfl : i = n := by omega
    exact .inl ⟨wk.stops H q, hd H p⟩
  | succ m => exact .inr ⟨wk.goes i H (by omega) q, Pv (i + 1), fun H' p' => ⟨m, Nat.lt_succ_self m, by omega, p'⟩, fun x H' y => hs i x H H' (by omega) p (wk.yields i H x H' (by omega) q y)⟩
/-- comb(a, b) -/
def rComb : List V → Hp → VK → Prop := fun xs H Q => ∃ a b : Int, xs = [.int a, .int b] ∧ 0 ≤ a ∧ 0 ≤ b ∧ a < 2 ^ 64 ∧ b ≤ 9000 ∧ Q (.int (PySem.W.mcComb a b)) H
theorem cr_comb {X : Cx} : CallR X (.builtin "math.comb") rComb := by
  intro pins s σ H vs us Q I r h
  obtain ⟨a, b, rfl, h1, h2, h3, h4, q⟩ := h
  obtain ⟨t, u, rfl⟩ := Vals.int2 r
  exact PySem.W.mc_comb h1 h2 h3 (.inl h4) fun _ => ⟨.int _, H, I.tok _, ⟨_, rfl⟩, q⟩
end SetX

/-! ### set(xs), xs a long list of tuples of ints, of which few are unlike -/
namespace SetX
open PySem PySem.Spec PyProof.Rows L2 PpSet
section
variable {P : Program} {w : World} {A : Around} {E : Value → Shared → Prop} {s : Shared}
/-- a walk over things that go into a set S; J is kept by the walk and by each thing -/
theorem upd_any {I S : Addr} {fp wr : List Addr} {G : Array GenState → Array GenState → Prop} {n : Nat} {Pv : Nat → Value → Prop} {St : Nat → Shared → Prop} {R : Result → Shared → Prop} (Wk : WalksS P w A.in1 I fp wr G n Pv St) (nS : S ∉ fp) (J : Nat → Shared → Prop)
    (mv : ∀ i z z', Moved wr G z z' → J i z → J i z')
    (ad : ∀ i v z Q, i < n → Pv i v → J i z → (∀ b h' tk, Heap.SameBut S z.heap h' → z.toks ≤ tk → J (i + 1) { z with heap := h', toks := tk } → Q b { z with heap := h', toks := tk }) → wpAny (model P w) A.in1 (holding [v] (setAdd S v)) Q (fun e z' => R (.error e) z') z) :
    ∀ (m i : Nat) (z : Shared), m + i = n → St i z → J i z → (∀ z', Moved (S :: wr) G z z' → J n z' → R (.ok (.ret .none)) z') → codeAny (model P w) A (.builtin "set.update.loop" ⟨[.ref S, .ref I], []⟩) R z := by
  have nw : S ∉ wr := fun q => nS (Wk.sub _ q)
  have wid : ∀ b ∈ wr, b ∈ S :: wr := fun b q => List.mem_cons_of_mem _ q
  intro m
  induction m with
  | zero =>
    intro i z e st j fin
    obtain rfl : i = n := by omega
    refine codeAny_builtin F.entry_set_update_loop (?_ : wpAny _ _ _ _ _ _)
    rw [Around.under_plainId F.plain_set_update_loop _]
    unfold Builtin.«set.update.loop»
    exact wpAny_bind (Wk.done z _ _ st fun z2 mo => wpAny_pure (fin z2 (mo.mono wid) (mv _ _ _ mo j)))
  | succ m ih =>
    intro i z e st j fin
    refine codeAny_builtin F.entry_set_update_loop (?_ : wpAny _ _ _ _ _ _)
    rw [Around.under_plainId F.plain_set_update_loop _]
    unfold Builtin.«set.update.loop»
    refine wpAny_bind (Wk.item i z _ _ (by omega) st fun v z2 pv st2 mo => ?_)
    refine wpAny_bind (ad i v z2 _ (by omega) pv (mv _ _ _ mo j) fun b h' tk sb le j2 => ?_)
    refine wpAny_pure ⟨plainId_quiet F.plain_set_update_loop _, ih (i + 1) _ (by omega) (Wk.frame _ z2 _ _ st2 le fun b q o g => ?_) j2 fun z3 mo2 j3 => fin z3 ?_ j3⟩
    · exact (sb.2 b fun (x : b = S) => nS (x ▸ q)).trans g
    · refine Moved.trans Wk.gtrans ((mo.mono wid).then_heap le fun b o q g => ?_) mo2
      exact (sb.2 b fun (x : b = S) => q (x ▸ List.mem_cons_self)).trans g
end
end SetX
namespace SetX
open PySem PySem.Spec PyProof.Rows L2 PpSet
section
variable {P : Program} {w : World} {A : Around} {E : Value → Shared → Prop} {s : Shared}
/-- a set that has just been made -/
def bare (w : World) : Obj := { cls := .type "set", dict := none, data := .set #[] 0 (.fresh 0 0 (!w.params.followText "set-order")) }
/-- set(xs), whatever J says of the set while it grows -/
theorem set_any {l : Addr} {items : Array Value} {Q : Value → Shared → Prop} (J : Nat → Shared → Prop) (nh : A.handled = none) (li : s.heap.IsList l items)
    (j0 : ∀ z : Shared, z.heap.get? s.heap.objs.size = some (bare w) → (∀ b o, s.heap.get? b = some o → z.heap.get? b = some o) → J 0 z)
    (mv : ∀ i z z', (∀ b o, b ≠ s.heap.objs.size + 1 → z.heap.get? b = some o → z'.heap.get? b = some o) → J i z → J i z')
    (ad : ∀ i v z Q, items[i]? = some v → J i z → (∀ b h' tk, Heap.SameBut s.heap.objs.size z.heap h' → z.toks ≤ tk → J (i + 1) { z with heap := h', toks := tk } → Q b { z with heap := h', toks := tk }) →
      ∀ E' : Value → Shared → Prop, ∀ A' : Around, A'.units ≤ A.units + 3 → wpAny (model P w) A' (holding [v] (setAdd s.heap.objs.size v)) Q E' z)
    (fin : ∀ h' tk, J items.size { s with heap := h', toks := tk } → Q (.ref s.heap.objs.size) { s with heap := h', toks := tk }) : wpAny (model P w) A (call (.type "set") [.ref l]) Q E s := by
  obtain ⟨c0, t0, mro⟩ := F.called_set.mro
  have k1 := F.called_set.made
  have k2 := F.called_set.sub
  have k3 := F.called_set.notType
  have k4 := F.called_set.canCreate
  have k5 := F.typeCall_set_1 (.ref l)
  refine wpAny_call (codeAny_of_tree (?_ : wpAny _ _ (callAny (.type "set") _) _ _ _))
  refine wpAny_pure ⟨Code.quiet_builtin _ (by decide +kernel), codeAny_builtin F.entry_type_call ?_⟩
  rw [Around.under_plain (weight_type_call_type "set" [.ref l] []) rfl]
  repeat any_goals first | assumption | wp_step
  refine codeAny_mono (code_set_led1 (.ref l) (E := E) (Q₁ := fun u z => u = .ref s.heap.objs.size ∧ z = { s with heap := s.heap.push (bare w) }) ⟨rfl, rfl⟩) fun r z hr => ?_
  match r, hr with
  | .error _, hr => exact hr
  | .ok (.ret u), hr =>
    obtain ⟨rfl, rfl⟩ := hr
    have gS : (s.heap.push (bare w)).get? s.heap.objs.size = some (bare w) := Heap.get?_push_size _ rfl
    have tS : Shared.TypeIs { s with heap := s.heap.push (bare w) } (.ref s.heap.objs.size) "set" := ⟨_, gS, rfl⟩
    have k6 := F.called_set.init.lookup
    have k7 := F.called_set.init.bind (.ref s.heap.objs.size)
    repeat any_goals first | assumption | wp_step
    refine codeAny_mono (codeAny_call_builtin (R := wants (fun r z => r = .none ∧ ∃ h' tk, z = { s with heap := h', toks := tk } ∧ J items.size z) E) F.called_set.init.plain F.entry_set_init (check_set_init_1 tS ?_)) fun r z hr => ?_
    · obtain ⟨ol, gl, cl, nl, dl⟩ := li
      obtain ⟨ocls, odict, odata, oslots⟩ := ol
      simp only at cl dl
      subst cl
      subst dl
      have gl2 := Heap.get?_push_of_some (bare w) gl
      have k8 := F.sub_list_set
      have k9 := F.sub_list_frozenset
      have k10 : (Value.type "list" == Value.type "dict") = false := by decide
      have li2 : (s.heap.push (bare w)).IsList l items := ⟨_, gl2, rfl, nl, rfl⟩
      unfold Builtin.«set.__init__» noKeywords Builtin.Frozenset.updateFrom
      generalize hPI : pyIter = PI
      wp_walk
      subst hPI
      refine wpAny_pyIter_list li2 (wpAny_bind (wpAny_runValue ?_))
      have lt : l < s.heap.objs.size := Heap.lt_size gl
      have nh3 : A.in1.in1.in1.handled = none := by simp [nh]
      have z1 : (s.heap.push (bare w)).objs.size = s.heap.objs.size + 1 := Heap.size_push ..
      have nI : l ≠ (s.heap.push (bare w)).objs.size := by
        rw [z1]
        exact Nat.ne_of_lt (Nat.lt_succ_of_lt lt)
      have nS : s.heap.objs.size ∉ [(s.heap.push (bare w)).objs.size, l] := by
        rw [z1]
        simp only [List.mem_cons, List.not_mem_nil, or_false, not_or]
        exact ⟨Nat.ne_of_lt (Nat.lt_succ_self _), Nat.ne_of_gt lt⟩
      have gS3 : ((s.heap.push (bare w)).push { cls := .type "list_iterator", data := .fields #[.ref l, .int 0 0] }).get? s.heap.objs.size = some (bare w) := Heap.get?_push_of_some _ gS
      refine upd_any ((Walks.list nh3 _ l nI items).toS) nS J (fun i z z' mo j => mv i z z' (fun b o q g => mo.heap b o (fun x => q ((List.mem_singleton.mp x).trans z1)) g) j) (fun i v z Q lt2 pv j q => ad i v z Q pv j q _ _ ?_) (items.size - 0) 0 _ (by omega) ⟨⟨_, Heap.get?_push_size _ rfl, rfl, rfl⟩, li2.push _⟩ (j0 _ gS3 fun b o g => Heap.get?_push_of_some _ (Heap.get?_push_of_some _ g)) fun z' mo j => ?_
      · exact Nat.le_refl _
      · obtain ⟨h2, g2, d2, t2, o2⟩ := z'
        obtain rfl : g2 = s.gens := mo.gens
        obtain rfl : d2 = s.drawn := mo.drawn
        obtain rfl : o2 = s.os := mo.os
        show wpAny _ _ _ _ _ _
        exact wpAny_pure (wpAny_pure ⟨rfl, h2, t2, rfl, j⟩)
    · match r, hr with
      | .error _, hr => exact hr
      | .ok (.ret u), hr =>
        obtain ⟨rfl, h', tk, rfl, j⟩ := hr
        repeat any_goals first | assumption | wp_step
        exact fin _ _ j
      | .ok .next, hr => exact hr.elim
      | .ok (.brk), hr => exact hr.elim
      | .ok (.cont), hr => exact hr.elim
  | .ok .next, hr => exact hr.elim
/-- what has come of the first i things -/
structure Some24 (zs : List (Addr × List Int)) (i : Nat) (L : List (Addr × List Int)) : Prop where
  into : ∀ p ∈ L, p ∈ zs.take i
  outof : ∀ p ∈ zs.take i, p.2 ∈ L.map (·.2)
theorem Some24.step {zs L L' : List (Addr × List Int)} {i : Nat} {x : Addr × List Int} (g : Some24 zs i L) (e : zs[i]? = some x) (c1 : x.2 ∈ L.map (·.2) → L' = L) (c2 : x.2 ∉ L.map (·.2) → L'.Perm (x :: L)) : Some24 zs (i + 1) L' := by
  have nx : zs.take (i + 1) = zs.take i ++ [x] := by
    rw [List.take_add_one, e]
    rfl
  by_cases c : x.2 ∈ L.map (·.2)
  · rw [c1 c]
    refine ⟨fun p hp => ?_, fun p hp => ?_⟩
    · rw [nx]
      exact List.mem_append_left _ (g.into p hp)
    · rw [nx] at hp
      rcases List.mem_append.mp hp with q | q
      · exact g.outof p q
      · rw [List.mem_singleton.mp q]
        exact c
  · have pm := c2 c
    refine ⟨fun p hp => ?_, fun p hp => ?_⟩
    · rw [nx]
      rcases List.mem_cons.mp (pm.mem_iff.mp hp) with q | q
      · rw [q]
        exact List.mem_append_right _ (List.mem_singleton.mpr rfl)
      · exact List.mem_append_left _ (g.into p q)
    · rw [(pm.map (·.2)).mem_iff, List.map_cons]
      rw [nx] at hp
      rcases List.mem_append.mp hp with q | q
      · exact List.mem_cons_of_mem _ (g.outof p q)
      · rw [List.mem_singleton.mp q]
        exact List.mem_cons_self
end
section
variable {X : Cx}
/-- set(xs), xs a list of tuples of ints, fewer than 63 of them unlike -/
def rSetOfF (K : PySem.W.Frag) (P : Program) (w : World) : List V → Hp → VK → Prop := fun xs H Q => ∃ (l : Addr) (zs : List (Addr × List Int)), xs = [V.ref l] ∧ SqL K H l (zs.map fun p => V.ref p.1) ∧ (∀ p ∈ zs, SqT K H p.1 (p.2.map V.int)) ∧
  (∀ L : List (Addr × List Int), (L.map (·.2)).Nodup → (∀ p ∈ L, p ∈ zs) → L.length < 63) ∧
  ∀ a L, H a = none → (∀ p ∈ L, p ∈ zs) → (∀ p ∈ zs, p.2 ∈ L.map (·.2)) → Q (.ref a) (upd H a (SetTO P w a L))
theorem setOfTF {K : PySem.W.Frag} {P : Program} {w : World} {k : Nat} (hK : X.K = K) (hP : X.prog = P) (hw : X.w = w) (hc : X.calm = true) (hr : Room k X.A) : CallR X (.type "set") (rSetOfF K P w) := by
  subst hK hP hw
  intro pins s σ H xs us Q I r h
  obtain ⟨l, zs, rfl, hl, hk, few, q⟩ := h
  rw [Vals.ref1 r]
  obtain ⟨its, rv, pl, _⟩ := I.list hl
  have hn : H s.heap.objs.size = none := I.hok.fresh (Nat.le_refl _)
  have none_of : ∀ b, s.heap.objs.size ≤ b → s.heap.get? b = none := fun b hb => by
    cases e : s.heap.get? b with
    | none => rfl
    | some o => exact absurd (Nat.lt_of_lt_of_le (Heap.lt_size e) hb) (Nat.lt_irrefl _)
  have eits := refs_of_vals rv
  have hu := hr.units
  refine set_any (P := X.prog) (w := X.w) (fun i z => (∀ b o, s.heap.get? b = some o → z.heap.get? b = some o) ∧ ∃ L es ep t, SetTR X.prog X.w z.heap s.heap.objs.size L es ep t ∧ Some24 zs i L) (I.ok.hd hc) pl.isList
    (fun z g k => ⟨k, [], #[], 0, _, setTR_fresh g, ⟨fun _ h => (List.not_mem_nil h).elim, fun p h => by rw [List.take_zero] at h; exact (List.not_mem_nil h).elim⟩⟩) (fun i z z' mo ⟨k, L, es, ep, t, R, g⟩ => ?_) (fun i v z Q' pv ⟨k, L, es, ep, t, R, g⟩ qq E' A' hA => ?_) fun h' tk ⟨k, L, es, ep, t, R, g⟩ => ?_
  · have k' : ∀ b o, s.heap.get? b = some o → z'.heap.get? b = some o := fun b o e => mo b o (fun x => by rw [x, none_of _ (Nat.le_succ _)] at e; cases e) (k b o e)
    exact ⟨k', L, es, ep, t, R.keep (fun o e => mo _ o (Nat.ne_of_lt (Nat.lt_succ_self _)) e) fun p hp => isT_keep (I.isT (hk p (List.mem_of_mem_take (g.into p hp)))) k', g⟩
  · obtain ⟨p, hp, rfl⟩ : ∃ p, zs[i]? = some p ∧ v = .ref p.1 := by
      have e : its[i]? = some v := by simpa using pv
      rw [eits, List.getElem?_map] at e
      cases q2 : zs[i]? with
      | none => rw [q2] at e; cases e
      | some p =>
        rw [q2] at e
        exact ⟨p, rfl, (Option.some.inj e).symm⟩
    have hx : IsT X.prog X.w z.heap p.2 p.1 := isT_keep (I.isT (hk p (List.mem_of_getElem? hp))) k
    have few2 : L.length < 63 := few L R.nd fun p hp => List.mem_of_mem_take (g.into p hp)
    refine wpAny_holding ?_
    unfold setAdd
    refine wpAny_holding (wpAny_bind (wpAny_pyHash_tuple (by omega) hx ?_))
    refine add_at (s := { z with toks := z.toks + (p.2.length + 1) }) R hx (by omega) (by omega) fun b h' L' es' ep' t' sb R' c1 c2 => ?_
    refine qq b h' _ sb (Nat.le_add_right _ _) ⟨fun b o e => ?_, L', es', ep', t', R', g.step hp c1 c2⟩
    exact (sb.2 b fun x => by rw [x, none_of _ (Nat.le_refl _)] at e; cases e).trans (k b o e)
  · have e : zs.take its.toArray.size = zs := by
      refine List.take_of_length_le ?_
      rw [List.size_toArray, eits, List.length_map]
      exact Nat.le_refl _
    refine ⟨.ref s.heap.objs.size, upd H s.heap.objs.size (SetTO X.prog X.w s.heap.objs.size L), I.laid (t' := tk) k (Nat.le_refl _) (setTO_new R.t0), rfl, q _ L hn (fun p hp => ?_) fun p hp => ?_⟩
    · have := g.into p hp
      rwa [e] at this
    · exact g.outof p (by rw [e]; exact hp)
end
end SetX

namespace Sd
open PySem PySem.Spec PyProof.Rows L2
def topS (i : Nat) : Stmt := PySem.Challenge.pw_slitdiscs_k62_whole_shut_discs.main.body.getD i (.Pass ⟨0, 0, 0, 0⟩)
abbrev s_turned_list : Stmt := topS 3
theorem sc_turned_list : FnScope ["items", "turn", "size", "slot"] ["items", "turn"] (defScope s_turned_list) := ⟨rfl, rfl, rfl, by decide +kernel, rfl, by decide +kernel, by decide +kernel⟩
abbrev s_mirrored_list : Stmt := topS 4
theorem sc_mirrored_list : FnScope ["items", "size", "slot"] ["items"] (defScope s_mirrored_list) := ⟨rfl, rfl, rfl, by decide +kernel, rfl, by decide +kernel, by decide +kernel⟩
abbrev s_light_between : Stmt := topS 5
theorem sc_light_between : FnScope ["disc", "row", "turn", "under", "over"] ["disc", "row", "turn"] (defScope s_light_between) := ⟨rfl, rfl, rfl, by decide +kernel, rfl, by decide +kernel, by decide +kernel⟩
abbrev s_lights_between : Stmt := topS 6
theorem sc_lights_between : FnScope ["disc", "row", "turn"] ["disc", "row"] (defScope s_lights_between) := ⟨rfl, rfl, rfl, by decide +kernel, rfl, by decide +kernel, by decide +kernel⟩
abbrev s_multiplied_list : Stmt := topS 7
theorem sc_multiplied_list : FnScope ["items", "factor", "size", "found", "slot", "item"] ["items", "factor"] (defScope s_multiplied_list) := ⟨rfl, rfl, rfl, by decide +kernel, rfl, by decide +kernel, by decide +kernel⟩
abbrev s_is_integer : Stmt := topS 16
theorem sc_is_integer : FnScope ["value"] ["value"] (defScope s_is_integer) := ⟨rfl, rfl, rfl, by decide +kernel, rfl, by decide +kernel, by decide +kernel⟩
abbrev s_has_slots : Stmt := topS 17
theorem sc_has_slots : FnScope ["value"] ["value"] (defScope s_has_slots) := ⟨rfl, rfl, rfl, by decide +kernel, rfl, by decide +kernel, by decide +kernel⟩
abbrev s_wrong_light : Stmt := topS 18
theorem sc_wrong_light : FnScope ["items", "most", "index", "item"] ["items", "most"] (defScope s_wrong_light) := ⟨rfl, rfl, rfl, by decide +kernel, rfl, by decide +kernel, by decide +kernel⟩
abbrev s_wrong_slot : Stmt := topS 19
theorem sc_wrong_slot : FnScope ["items"] ["items"] (defScope s_wrong_slot) := ⟨rfl, rfl, rfl, by decide +kernel, rfl, by decide +kernel, by decide +kernel⟩
abbrev s_check_disc : Stmt := topS 20
theorem sc_check_disc : FnScope ["disc", "index"] ["disc"] (defScope s_check_disc) := ⟨rfl, rfl, rfl, by decide +kernel, rfl, by decide +kernel, by decide +kernel⟩
abbrev s_check_discs : Stmt := topS 21
theorem sc_check_discs : FnScope ["disc", "other"] ["disc", "other"] (defScope s_check_discs) := ⟨rfl, rfl, rfl, by decide +kernel, rfl, by decide +kernel, by decide +kernel⟩
abbrev s_check_slots_at_most : Stmt := topS 22
theorem sc_check_slots_at_most : FnScope ["disc", "most"] ["disc", "most"] (defScope s_check_slots_at_most) := ⟨rfl, rfl, rfl, by decide +kernel, rfl, by decide +kernel, by decide +kernel⟩
abbrev s_check_slotted : Stmt := topS 23
theorem sc_check_slotted : FnScope ["disc", "index"] ["disc"] (defScope s_check_slotted) := ⟨rfl, rfl, rfl, by decide +kernel, rfl, by decide +kernel, by decide +kernel⟩
abbrev s_check_between : Stmt := topS 24
theorem sc_check_between : FnScope ["number", "least", "most"] ["number", "least", "most"] (defScope s_check_between) := ⟨rfl, rfl, rfl, by decide +kernel, rfl, by decide +kernel, by decide +kernel⟩
abbrev s_check_choice : Stmt := topS 25
theorem sc_check_choice : FnScope ["slots", "many"] ["slots", "many"] (defScope s_check_choice) := ⟨rfl, rfl, rfl, by decide +kernel, rfl, by decide +kernel, by decide +kernel⟩
abbrev s_shut_disc : Stmt := topS 27
theorem sc_shut_disc : FnScope ["disc", "item"] ["disc"] (defScope s_shut_disc) := ⟨rfl, rfl, rfl, by decide +kernel, rfl, by decide +kernel, by decide +kernel⟩
abbrev s_turn_between : Stmt := topS 29
theorem sc_turn_between : FnScope ["disc", "other"] ["disc", "other"] (defScope s_turn_between) := ⟨rfl, rfl, rfl, by decide +kernel, rfl, by decide +kernel, by decide +kernel⟩
abbrev s_like_form : Stmt := topS 30
theorem sc_like_form : FnScope ["disc"] ["disc"] (defScope s_like_form) := ⟨rfl, rfl, rfl, by decide +kernel, rfl, by decide +kernel, by decide +kernel⟩
abbrev s_are_like : Stmt := topS 31
theorem sc_are_like : FnScope ["disc", "other"] ["disc", "other"] (defScope s_are_like) := ⟨rfl, rfl, rfl, by decide +kernel, rfl, by decide +kernel, by decide +kernel⟩
abbrev s_first_turn : Stmt := topS 32
theorem sc_first_turn : FnScope ["disc", "other", "turn"] ["disc", "other"] (defScope s_first_turn) := ⟨rfl, rfl, rfl, by decide +kernel, rfl, by decide +kernel, by decide +kernel⟩
abbrev s_least_turned : Stmt := topS 33
theorem sc_least_turned : FnScope ["disc", "turn"] ["disc"] (defScope s_least_turned) := ⟨rfl, rfl, rfl, by decide +kernel, rfl, by decide +kernel, by decide +kernel⟩
abbrev s_least_like : Stmt := topS 34
theorem sc_least_like : FnScope ["disc"] ["disc"] (defScope s_least_like) := ⟨rfl, rfl, rfl, by decide +kernel, rfl, by decide +kernel, by decide +kernel⟩
abbrev s_opened_lights : Stmt := topS 36
theorem sc_opened_lights : FnScope ["opened", "slots", "lights", "first", "second"] ["opened", "slots"] (defScope s_opened_lights) := ⟨rfl, rfl, rfl, by decide +kernel, rfl, by decide +kernel, by decide +kernel⟩
abbrev s_opened_forms : Stmt := topS 37
theorem sc_opened_forms : FnScope ["openings", "slots", "discs", "opened", "disc"] ["openings", "slots"] (defScope s_opened_forms) := ⟨rfl, rfl, rfl, by decide +kernel, rfl, by decide +kernel, by decide +kernel⟩
abbrev s_opened_disc : Stmt := topS 38
theorem sc_opened_disc : FnScope ["opened", "slots", "slot"] ["opened", "slots"] (defScope s_opened_disc) := ⟨rfl, rfl, rfl, by decide +kernel, rfl, by decide +kernel, by decide +kernel⟩
abbrev s_is_flat : Stmt := topS 40
theorem sc_is_flat : FnScope ["disc"] ["disc"] (defScope s_is_flat) := ⟨rfl, rfl, rfl, by decide +kernel, rfl, by decide +kernel, by decide +kernel⟩
abbrev s_flat_turns : Stmt := topS 41
theorem sc_flat_turns : FnScope ["disc", "slots", "factors", "factor"] ["disc"] (defScope s_flat_turns) := ⟨rfl, rfl, rfl, by decide +kernel, rfl, by decide +kernel, by decide +kernel⟩
abbrev s_are_flat : Stmt := topS 42
theorem sc_are_flat : FnScope ["lights"] ["lights"] (defScope s_are_flat) := ⟨rfl, rfl, rfl, by decide +kernel, rfl, by decide +kernel, by decide +kernel⟩
abbrev s_all_lights : Stmt := topS 44
theorem sc_all_lights : FnScope ["disc", "other"] ["disc", "other"] (defScope s_all_lights) := ⟨rfl, rfl, rfl, by decide +kernel, rfl, by decide +kernel, by decide +kernel⟩
abbrev s_own_lights : Stmt := topS 46
theorem sc_own_lights : FnScope ["disc"] ["disc"] (defScope s_own_lights) := ⟨rfl, rfl, rfl, by decide +kernel, rfl, by decide +kernel, by decide +kernel⟩
abbrev s_are_twins : Stmt := topS 47
theorem sc_are_twins : FnScope ["disc", "other"] ["disc", "other"] (defScope s_are_twins) := ⟨rfl, rfl, rfl, by decide +kernel, rfl, by decide +kernel, by decide +kernel⟩
abbrev s_twin_discs : Stmt := topS 48
theorem sc_twin_discs : FnScope ["disc"] ["disc"] (defScope s_twin_discs) := ⟨rfl, rfl, rfl, by decide +kernel, rfl, by decide +kernel, by decide +kernel⟩
abbrev s_twin_count : Stmt := topS 49
theorem sc_twin_count : FnScope ["slots", "many", "opened"] ["slots", "many"] (defScope s_twin_count) := ⟨rfl, rfl, rfl, by decide +kernel, rfl, by decide +kernel, by decide +kernel⟩
abbrev s_form_count : Stmt := topS 50
theorem sc_form_count : FnScope ["slots", "many", "left", "turn"] ["slots", "many"] (defScope s_form_count) := ⟨rfl, rfl, rfl, by decide +kernel, rfl, by decide +kernel, by decide +kernel⟩
abbrev s_forms_with : Stmt := topS 51
theorem sc_forms_with : FnScope ["lights"] ["lights"] (defScope s_forms_with) := ⟨rfl, rfl, rfl, by decide +kernel, rfl, by decide +kernel, by decide +kernel⟩
abbrev s_openings : Stmt := topS 52
theorem sc_openings : FnScope ["lights", "many", "slots", "opened"] ["lights", "many"] (defScope s_openings) := ⟨rfl, rfl, rfl, by decide +kernel, rfl, by decide +kernel, by decide +kernel⟩
abbrev s_turned_alike : Stmt := topS 53
theorem sc_turned_alike : FnScope ["slots", "many", "turn", "rounds", "length"] ["slots", "many", "turn"] (defScope s_turned_alike) := ⟨rfl, rfl, rfl, by decide +kernel, rfl, by decide +kernel, by decide +kernel⟩
abbrev s_mirrored_alike : Stmt := topS 54
theorem sc_mirrored_alike : FnScope ["slots", "many", "turn", "alone", "slot", "pairs", "singles", "single"] ["slots", "many", "turn"] (defScope s_mirrored_alike) := ⟨rfl, rfl, rfl, by decide +kernel, rfl, by decide +kernel, by decide +kernel⟩
abbrev s_law_pool : Stmt := topS 56
theorem sc_law_pool : FnScope ["script", "at", "cell"] ["script", "at"] (defScope s_law_pool) := ⟨rfl, rfl, rfl, by decide +kernel, rfl, by decide +kernel, by decide +kernel⟩
abbrev s_law_draw : Stmt := topS 57
theorem sc_law_draw : FnScope ["pool", "top", "drawn", "mixed"] ["pool", "top"] (defScope s_law_draw) := ⟨rfl, rfl, rfl, by decide +kernel, rfl, by decide +kernel, by decide +kernel⟩
abbrev s_law_slits : Stmt := topS 59
theorem sc_law_slits : FnScope ["pool", "size", "kind", "left", "found", "spot", "turn"] ["pool", "size"] (defScope s_law_slits) := ⟨rfl, rfl, rfl, by decide +kernel, rfl, by decide +kernel, by decide +kernel⟩
abbrev s_law_right : Stmt := topS 64
theorem sc_law_right : FnScope ["plate", "shut", "size", "count", "own", "other_own", "light", "is_half"] ["plate"] (defScope s_law_right) := ⟨rfl, rfl, rfl, by decide +kernel, rfl, by decide +kernel, by decide +kernel⟩
abbrev s_law_small_right : Stmt := topS 65
theorem sc_law_small_right : FnScope ["plate", "shut", "some", "again", "one"] ["plate"] (defScope s_law_small_right) := ⟨rfl, rfl, rfl, by decide +kernel, rfl, by decide +kernel, by decide +kernel⟩
abbrev s_law : Stmt := topS 66
theorem sc_law : FnScope ["script", "at", "pool", "top", "size", "count", "told"] ["script"] (defScope s_law) := ⟨rfl, rfl, rfl, by decide +kernel, rfl, by decide +kernel, by decide +kernel⟩
/-- what the top has written -/
structure Txt (K : PySem.W.Frag) (mg : Str → Option Value) where
  a_turned_list : Addr
  d_turned_list : FuncData
  F_turned_list : Fun K "turned_list" "turned_list" s_turned_list a_turned_list d_turned_list
  b_turned_list : Binds K d_turned_list ["items", "turn"] []
  g_turned_list : mg "turned_list" = some (.ref a_turned_list)
  a_mirrored_list : Addr
  d_mirrored_list : FuncData
  F_mirrored_list : Fun K "mirrored_list" "mirrored_list" s_mirrored_list a_mirrored_list d_mirrored_list
  b_mirrored_list : Binds K d_mirrored_list ["items"] []
  g_mirrored_list : mg "mirrored_list" = some (.ref a_mirrored_list)
  a_light_between : Addr
  d_light_between : FuncData
  F_light_between : Fun K "light_between" "light_between" s_light_between a_light_between d_light_between
  b_light_between : Binds K d_light_between ["disc", "row", "turn"] []
  g_light_between : mg "light_between" = some (.ref a_light_between)
  a_lights_between : Addr
  d_lights_between : FuncData
  F_lights_between : Fun K "lights_between" "lights_between" s_lights_between a_lights_between d_lights_between
  b_lights_between : Binds K d_lights_between ["disc", "row"] []
  g_lights_between : mg "lights_between" = some (.ref a_lights_between)
  a_multiplied_list : Addr
  d_multiplied_list : FuncData
  F_multiplied_list : Fun K "multiplied_list" "multiplied_list" s_multiplied_list a_multiplied_list d_multiplied_list
  b_multiplied_list : Binds K d_multiplied_list ["items", "factor"] []
  g_multiplied_list : mg "multiplied_list" = some (.ref a_multiplied_list)
  a_is_integer : Addr
  d_is_integer : FuncData
  F_is_integer : Fun K "is_integer" "is_integer" s_is_integer a_is_integer d_is_integer
  b_is_integer : Binds K d_is_integer ["value"] []
  g_is_integer : mg "is_integer" = some (.ref a_is_integer)
  a_has_slots : Addr
  d_has_slots : FuncData
  F_has_slots : Fun K "has_slots" "has_slots" s_has_slots a_has_slots d_has_slots
  b_has_slots : Binds K d_has_slots ["value"] []
  g_has_slots : mg "has_slots" = some (.ref a_has_slots)
  a_wrong_light : Addr
  d_wrong_light : FuncData
  F_wrong_light : Fun K "wrong_light" "wrong_light" s_wrong_light a_wrong_light d_wrong_light
  b_wrong_light : Binds K d_wrong_light ["items", "most"] []
  g_wrong_light : mg "wrong_light" = some (.ref a_wrong_light)
  a_wrong_slot : Addr
  d_wrong_slot : FuncData
  F_wrong_slot : Fun K "wrong_slot" "wrong_slot" s_wrong_slot a_wrong_slot d_wrong_slot
  b_wrong_slot : Binds K d_wrong_slot ["items"] []
  g_wrong_slot : mg "wrong_slot" = some (.ref a_wrong_slot)
  a_check_disc : Addr
  d_check_disc : FuncData
  F_check_disc : Fun K "check_disc" "check_disc" s_check_disc a_check_disc d_check_disc
  b_check_disc : Binds K d_check_disc ["disc"] []
  g_check_disc : mg "check_disc" = some (.ref a_check_disc)
  a_check_discs : Addr
  d_check_discs : FuncData
  F_check_discs : Fun K "check_discs" "check_discs" s_check_discs a_check_discs d_check_discs
  b_check_discs : Binds K d_check_discs ["disc", "other"] []
  g_check_discs : mg "check_discs" = some (.ref a_check_discs)
  a_check_slots_at_most : Addr
  d_check_slots_at_most : FuncData
  F_check_slots_at_most : Fun K "check_slots_at_most" "check_slots_at_most" s_check_slots_at_most a_check_slots_at_most d_check_slots_at_most
  b_check_slots_at_most : Binds K d_check_slots_at_most ["disc", "most"] []
  g_check_slots_at_most : mg "check_slots_at_most" = some (.ref a_check_slots_at_most)
  a_check_slotted : Addr
  d_check_slotted : FuncData
  F_check_slotted : Fun K "check_slotted" "check_slotted" s_check_slotted a_check_slotted d_check_slotted
  b_check_slotted : Binds K d_check_slotted ["disc"] []
  g_check_slotted : mg "check_slotted" = some (.ref a_check_slotted)
  a_check_between : Addr
  d_check_between : FuncData
  F_check_between : Fun K "check_between" "check_between" s_check_between a_check_between d_check_between
  b_check_between : Binds K d_check_between ["number", "least", "most"] []
  g_check_between : mg "check_between" = some (.ref a_check_between)
  a_check_choice : Addr
  d_check_choice : FuncData
  F_check_choice : Fun K "check_choice" "check_choice" s_check_choice a_check_choice d_check_choice
  b_check_choice : Binds K d_check_choice ["slots", "many"] []
  g_check_choice : mg "check_choice" = some (.ref a_check_choice)
  a_shut_disc : Addr
  d_shut_disc : FuncData
  F_shut_disc : Fun K "shut_disc" "shut_disc" s_shut_disc a_shut_disc d_shut_disc
  b_shut_disc : Binds K d_shut_disc ["disc"] []
  g_shut_disc : mg "shut_disc" = some (.ref a_shut_disc)
  a_turn_between : Addr
  d_turn_between : FuncData
  F_turn_between : Fun K "turn_between" "turn_between" s_turn_between a_turn_between d_turn_between
  b_turn_between : Binds K d_turn_between ["disc", "other"] []
  g_turn_between : mg "turn_between" = some (.ref a_turn_between)
  a_like_form : Addr
  d_like_form : FuncData
  F_like_form : Fun K "like_form" "like_form" s_like_form a_like_form d_like_form
  b_like_form : Binds K d_like_form ["disc"] []
  g_like_form : mg "like_form" = some (.ref a_like_form)
  a_are_like : Addr
  d_are_like : FuncData
  F_are_like : Fun K "are_like" "are_like" s_are_like a_are_like d_are_like
  b_are_like : Binds K d_are_like ["disc", "other"] []
  g_are_like : mg "are_like" = some (.ref a_are_like)
  a_first_turn : Addr
  d_first_turn : FuncData
  F_first_turn : Fun K "_first_turn" "_first_turn" s_first_turn a_first_turn d_first_turn
  b_first_turn : Binds K d_first_turn ["disc", "other"] []
  g_first_turn : mg "_first_turn" = some (.ref a_first_turn)
  a_least_turned : Addr
  d_least_turned : FuncData
  F_least_turned : Fun K "_least_turned" "_least_turned" s_least_turned a_least_turned d_least_turned
  b_least_turned : Binds K d_least_turned ["disc"] []
  g_least_turned : mg "_least_turned" = some (.ref a_least_turned)
  a_least_like : Addr
  d_least_like : FuncData
  F_least_like : Fun K "_least_like" "_least_like" s_least_like a_least_like d_least_like
  b_least_like : Binds K d_least_like ["disc"] []
  g_least_like : mg "_least_like" = some (.ref a_least_like)
  a_opened_lights : Addr
  d_opened_lights : FuncData
  F_opened_lights : Fun K "opened_lights" "opened_lights" s_opened_lights a_opened_lights d_opened_lights
  b_opened_lights : Binds K d_opened_lights ["opened", "slots"] []
  g_opened_lights : mg "opened_lights" = some (.ref a_opened_lights)
  a_opened_forms : Addr
  d_opened_forms : FuncData
  F_opened_forms : Fun K "opened_forms" "opened_forms" s_opened_forms a_opened_forms d_opened_forms
  b_opened_forms : Binds K d_opened_forms ["openings", "slots"] []
  g_opened_forms : mg "opened_forms" = some (.ref a_opened_forms)
  a_opened_disc : Addr
  d_opened_disc : FuncData
  F_opened_disc : Fun K "_opened_disc" "_opened_disc" s_opened_disc a_opened_disc d_opened_disc
  b_opened_disc : Binds K d_opened_disc ["opened", "slots"] []
  g_opened_disc : mg "_opened_disc" = some (.ref a_opened_disc)
  a_is_flat : Addr
  d_is_flat : FuncData
  F_is_flat : Fun K "is_flat" "is_flat" s_is_flat a_is_flat d_is_flat
  b_is_flat : Binds K d_is_flat ["disc"] []
  g_is_flat : mg "is_flat" = some (.ref a_is_flat)
  a_flat_turns : Addr
  d_flat_turns : FuncData
  F_flat_turns : Fun K "flat_turns" "flat_turns" s_flat_turns a_flat_turns d_flat_turns
  b_flat_turns : Binds K d_flat_turns ["disc"] []
  g_flat_turns : mg "flat_turns" = some (.ref a_flat_turns)
  a_are_flat : Addr
  d_are_flat : FuncData
  F_are_flat : Fun K "_are_flat" "_are_flat" s_are_flat a_are_flat d_are_flat
  b_are_flat : Binds K d_are_flat ["lights"] []
  g_are_flat : mg "_are_flat" = some (.ref a_are_flat)
  a_all_lights : Addr
  d_all_lights : FuncData
  F_all_lights : Fun K "all_lights" "all_lights" s_all_lights a_all_lights d_all_lights
  b_all_lights : Binds K d_all_lights ["disc", "other"] []
  g_all_lights : mg "all_lights" = some (.ref a_all_lights)
  a_own_lights : Addr
  d_own_lights : FuncData
  F_own_lights : Fun K "own_lights" "own_lights" s_own_lights a_own_lights d_own_lights
  b_own_lights : Binds K d_own_lights ["disc"] []
  g_own_lights : mg "own_lights" = some (.ref a_own_lights)
  a_are_twins : Addr
  d_are_twins : FuncData
  F_are_twins : Fun K "are_twins" "are_twins" s_are_twins a_are_twins d_are_twins
  b_are_twins : Binds K d_are_twins ["disc", "other"] []
  g_are_twins : mg "are_twins" = some (.ref a_are_twins)
  a_twin_discs : Addr
  d_twin_discs : FuncData
  F_twin_discs : Fun K "twin_discs" "twin_discs" s_twin_discs a_twin_discs d_twin_discs
  b_twin_discs : Binds K d_twin_discs ["disc"] []
  g_twin_discs : mg "twin_discs" = some (.ref a_twin_discs)
  a_twin_count : Addr
  d_twin_count : FuncData
  F_twin_count : Fun K "twin_count" "twin_count" s_twin_count a_twin_count d_twin_count
  b_twin_count : Binds K d_twin_count ["slots", "many"] []
  g_twin_count : mg "twin_count" = some (.ref a_twin_count)
  a_form_count : Addr
  d_form_count : FuncData
  F_form_count : Fun K "form_count" "form_count" s_form_count a_form_count d_form_count
  b_form_count : Binds K d_form_count ["slots", "many"] []
  g_form_count : mg "form_count" = some (.ref a_form_count)
  a_forms_with : Addr
  d_forms_with : FuncData
  F_forms_with : Fun K "_forms_with" "_forms_with" s_forms_with a_forms_with d_forms_with
  b_forms_with : Binds K d_forms_with ["lights"] []
  g_forms_with : mg "_forms_with" = some (.ref a_forms_with)
  a_openings : Addr
  d_openings : FuncData
  F_openings : Fun K "_openings" "_openings" s_openings a_openings d_openings
  b_openings : Binds K d_openings ["lights", "many"] []
  g_openings : mg "_openings" = some (.ref a_openings)
  a_turned_alike : Addr
  d_turned_alike : FuncData
  F_turned_alike : Fun K "_turned_alike" "_turned_alike" s_turned_alike a_turned_alike d_turned_alike
  b_turned_alike : Binds K d_turned_alike ["slots", "many", "turn"] []
  g_turned_alike : mg "_turned_alike" = some (.ref a_turned_alike)
  a_mirrored_alike : Addr
  d_mirrored_alike : FuncData
  F_mirrored_alike : Fun K "_mirrored_alike" "_mirrored_alike" s_mirrored_alike a_mirrored_alike d_mirrored_alike
  b_mirrored_alike : Binds K d_mirrored_alike ["slots", "many", "turn"] []
  g_mirrored_alike : mg "_mirrored_alike" = some (.ref a_mirrored_alike)
  a_law_pool : Addr
  d_law_pool : FuncData
  F_law_pool : Fun K "_law_pool" "_law_pool" s_law_pool a_law_pool d_law_pool
  b_law_pool : Binds K d_law_pool ["script", "at"] []
  g_law_pool : mg "_law_pool" = some (.ref a_law_pool)
  a_law_draw : Addr
  d_law_draw : FuncData
  F_law_draw : Fun K "_law_draw" "_law_draw" s_law_draw a_law_draw d_law_draw
  b_law_draw : Binds K d_law_draw ["pool", "top"] []
  g_law_draw : mg "_law_draw" = some (.ref a_law_draw)
  a_law_slits : Addr
  d_law_slits : FuncData
  F_law_slits : Fun K "_law_slits" "_law_slits" s_law_slits a_law_slits d_law_slits
  b_law_slits : Binds K d_law_slits ["pool", "size"] []
  g_law_slits : mg "_law_slits" = some (.ref a_law_slits)
  a_law_right : Addr
  d_law_right : FuncData
  F_law_right : Fun K "_law_right" "_law_right" s_law_right a_law_right d_law_right
  b_law_right : Binds K d_law_right ["plate"] []
  g_law_right : mg "_law_right" = some (.ref a_law_right)
  a_law_small_right : Addr
  d_law_small_right : FuncData
  F_law_small_right : Fun K "_law_small_right" "_law_small_right" s_law_small_right a_law_small_right d_law_small_right
  b_law_small_right : Binds K d_law_small_right ["plate"] []
  g_law_small_right : mg "_law_small_right" = some (.ref a_law_small_right)
  a_law : Addr
  d_law : FuncData
  F_law : Fun K "law" "law" s_law a_law d_law
  g_law : mg "law" = some (.ref a_law)
  t_MOST_SLOTS : Tok
  g_MOST_SLOTS : mg "MOST_SLOTS" = some (.int (40) t_MOST_SLOTS)
  t_MOST_LIGHT : Tok
  g_MOST_LIGHT : mg "MOST_LIGHT" = some (.int (1000000000000000000000000000000) t_MOST_LIGHT)
  t_MOST_LISTED : Tok
  g_MOST_LISTED : mg "MOST_LISTED" = some (.int (14) t_MOST_LISTED)
  i_comb : mg "comb" = some (.builtin "math.comb")
  i_combinations : mg "combinations" = some (.type "itertools.combinations")
  i_gcd : mg "gcd" = some (.builtin "math.gcd")
  n_abs : mg "abs" = none
  n_bool : mg "bool" = none
  n_enumerate : mg "enumerate" = none
  n_int : mg "int" = none
  n_isinstance : mg "isinstance" = none
  n_len : mg "len" = none
  n_list : mg "list" = none
  n_max : mg "max" = none
  n_min : mg "min" = none
  n_range : mg "range" = none
  n_set : mg "set" = none
  n_sorted : mg "sorted" = none
  n_sum : mg "sum" = none
  n_tuple : mg "tuple" = none
  n_zip : mg "zip" = none
section
variable {P : Program} {w : World} {K : PySem.W.Frag} {mg : Str → Option Value} {base : Heap}
/-! ### _law_pool, _law_draw -/
def mixP (y z : Int) : Int := (y + 524287 * z) ^ (3 : Int).toNat % (10 ^ (44 : Int).toNat + 31)
theorem e44 : (10 : Int) ^ (44 : Int).toNat + 31 = 100000000000000000000000000000000000000000031 := by decide +kernel
theorem e21 : (10 : Int) ^ (21 : Int).toNat + 117 = 1000000000000000000117 := by decide +kernel
theorem mixP_in (y z : Int) : 0 ≤ mixP y z ∧ mixP y z < 100000000000000000000000000000000000000000031 := by
  unfold mixP
  rw [e44]
  exact ⟨Int.emod_nonneg _ (by decide), Int.emod_lt_of_pos _ (by decide)⟩
def spDraw : Sp := fun vs H Q _ => ∃ (T : Addr) (m c : Int), vs = [.ref T, .int m] ∧ 0 < m ∧ m < 2 ^ 200 ∧ Tank H T c ∧ c < 2 ^ 40 ∧
  ∀ (r : Int) (H' : Hp), 0 ≤ r → r < m → Tank H' T (c + 1) → But T H H' → Q (.int r) H'
theorem ok_law_draw (T : Txt K mg) : FnOk P w K mg base CX0 1 T.a_law_draw T.d_law_draw ["pool", "top"] spDraw := by
  refine T.F_law_draw.ok sc_law_draw (fun vs H Q E h => ?_) (fun cdv A outer s H vs Q E hr h => ?_)
  · obtain ⟨_, _, _, rfl, _⟩ := h
    rfl
  · obtain ⟨t, m, c, rfl, hm0, hm, ⟨x, y, z, hT, hx, hy0, hy, hz0, hz⟩, hc, q⟩ := h
    refine ⟨_, (pss_cons (ps_if (pt_cmpR op_gt (pe_ix (ixL (K := K) rfl) (pv 0) pe_int (fun _ _ => rfl)) pe_int (nomark _)) (pss_cons (ps_set (i := 2) sc_law_draw.nd rfl (.inl rfl) (pe_op op_mod (pe_callTy call_int1 (by rfl) T.n_int (by decide +kernel) (pa_cons (pe_ix (ixL (K := K) rfl) (pv 0) pe_int (fun _ _ => rfl)) pa_nil)) (pv 1)))
      (pss_cons (ps_asg (pe_op op_fdivW (pe_ix (ixL (K := K) rfl) (pv 0) pe_int (fun _ _ => rfl)) (pv 1)) (pg_sub (pv 0) pe_int set_list))
      (pss_one (ps_ret (pv 2))))) pss_nil)
      (pss_cons (ps_asg (pe_op op_add (pe_ix (ixL (K := K) rfl) (pv 0) pe_int (fun _ _ => rfl)) pe_int) (pg_sub (pv 0) pe_int set_list))
      (pss_cons (ps_set (i := 3) sc_law_draw.nd rfl (.inl rfl) (pe_op op_mod (pe_callTy call_int1 (by rfl) T.n_int (by decide +kernel) (pa_cons (pe_op op_pow3 (pe_op op_add (pe_ix (ixL (K := K) rfl) (pv 0) pe_int (fun _ _ => rfl)) (pe_op op_mul pe_int (pe_ix (ixL (K := K) rfl) (pv 0) pe_int (fun _ _ => rfl)))) pe_int) pa_nil)) (pe_op op_add (pe_op op_pow pe_int pe_int) pe_int)))
      (pss_cons (ps_set (i := 3) sc_law_draw.nd rfl (.inl rfl) (pe_op op_mod (pe_callTy call_int1 (by rfl) T.n_int (by decide +kernel) (pa_cons (pe_op op_pow3 (pe_op op_add (pv 3) (pe_op op_mul pe_int (pe_ix (ixL (K := K) rfl) (pv 0) pe_int (fun _ _ => rfl)))) pe_int) pa_nil)) (pe_op op_add (pe_op op_pow pe_int pe_int) pe_int)))
      (pss_one (ps_ret (pe_op op_mod (pe_callTy call_int1 (by rfl) T.n_int (by decide +kernel) (pa_cons (pe_op op_fdivW (pv 3) pe_int) pa_nil)) (pv 1)))))))), ?_⟩
    refine ⟨.ref t, rfl, t, _, 0, .int x, rfl, rfl, SqL.of hT, rfl, x, 0, rfl, rfl, _, rfl, ite2 (fun h => ?_) (fun h => ?_)⟩
    · have hx1 : 0 < x := of_decide_eq_true h
      refine ⟨.ref t, rfl, t, _, 0, .int x, rfl, rfl, SqL.of hT, rfl, .inl ⟨x, rfl, .int m, rfl, x, m, rfl, rfl, hm0, ?_⟩⟩
      refine ⟨.ref t, rfl, t, _, 0, .int x, rfl, rfl, SqL.of hT, rfl, .int m, rfl, x, m, rfl, rfl, wide_div (b := 200) hm0 (by omega) (by decide) (by decide), ?_⟩
      refine ⟨.ref t, rfl, t, _, 0, 0, rfl, rfl, hT, rfl, ?_⟩
      refine ⟨.int (x % m), rfl, q _ _ (Int.emod_nonneg _ (by omega)) (Int.emod_lt_of_pos _ hm0) ⟨x / m, y, z, upd_same, Int.ediv_nonneg hx (by omega), hy0, hy, hz0, by omega⟩ upd_but⟩
    · refine ⟨.ref t, rfl, t, _, 2, .int z, rfl, rfl, SqL.of hT, rfl, z, 1, rfl, rfl, ?_⟩
      refine ⟨.ref t, rfl, t, _, 2, 2, rfl, rfl, hT, rfl, ?_⟩
      have hT2 : (upd H t (.lst [.int x, .int y, .int (z + 1)])) t = some (.lst [.int x, .int y, .int (z + 1)]) := upd_same
      refine ⟨.ref t, rfl, t, _, 1, .int y, rfl, rfl, SqL.of hT2, rfl, .ref t, rfl, t, _, 2, .int (z + 1), rfl, rfl, SqL.of hT2, rfl, 524287, z + 1, rfl, rfl, .inl ⟨by decide, by decide⟩, ?_⟩
      refine ⟨y, 524287 * (z + 1), rfl, rfl, _, 3, rfl, rfl, ⟨rfl, by omega, by omega⟩, .inl ⟨_, rfl, 10, 44, rfl, rfl, ⟨by decide, by decide, by decide⟩, _, 31, rfl, rfl, _, _, rfl, rfl, (by show (0 : Int) < 10 ^ (44 : Int).toNat + 31; decide +kernel), ?_⟩⟩
      obtain ⟨g0, g1⟩ := mixP_in y (z + 1)
      refine ⟨.int (mixP y (z + 1)), rfl, .ref t, rfl, t, _, 2, .int (z + 1), rfl, rfl, SqL.of hT2, rfl, 6700417, z + 1, rfl, rfl, .inl ⟨by decide, by decide⟩, ?_⟩
      refine ⟨mixP y (z + 1), 6700417 * (z + 1), rfl, rfl, _, 3, rfl, rfl, ⟨rfl, by omega, by omega⟩, .inl ⟨_, rfl, 10, 50, rfl, rfl, ⟨by decide, by decide, by decide⟩, _, 151, rfl, rfl, _, _, rfl, rfl, (by show (0 : Int) < 10 ^ (50 : Int).toNat + 151; decide +kernel), ?_⟩⟩
      refine ⟨_, rfl, _, 131071, rfl, rfl, wide_div (b := 30) (by decide) (by decide) (by decide) (by decide), .inl ⟨_, rfl, .int m, rfl, _, m, rfl, rfl, hm0, ?_⟩⟩
      exact q _ _ (Int.emod_nonneg _ (by omega)) (Int.emod_lt_of_pos _ hm0) ⟨x, y, z + 1, upd_same, hx, hy0, hy, by omega, by omega⟩ upd_but
def spPool (K : PySem.W.Frag) : Sp := fun vs H Q _ => ∃ (a : Addr) (ns : List Int) (i : Int), vs = [.ref a, .int i] ∧ SqL K H a (ns.map V.int) ∧ 0 ≤ i ∧ i < 100 ∧
  ∀ (t : Addr) (H' : Hp), Same H H' → H t = none → Tank H' t 0 → Q (.ref t) H'
theorem ok_law_pool (T : Txt K mg) : FnOk P w K mg base CX0 1 T.a_law_pool T.d_law_pool ["script", "at"] (spPool K) := by
  refine T.F_law_pool.ok sc_law_pool (fun vs H Q E h => ?_) (fun cdv A outer s H vs Q E hr h => ?_)
  · obtain ⟨_, _, _, rfl, _⟩ := h
    rfl
  · obtain ⟨a, ns, i, rfl, hS, hi0, hi, q⟩ := h
    refine ⟨_, (pss_cons (ps_set (i := 2) sc_law_pool.nd rfl (.inl rfl) (pe_ifExp (pt_cmpR op_lt (pv 1) (pe_callB (lenL (K := K) rfl) (by rfl) T.n_len (by decide +kernel) (pa_cons (pv 0) pa_nil)) (nomark _)) (pe_ix (ixL (K := K) rfl) (pv 0) (pv 1) (fun _ _ => rfl)) pe_int))
      (pss_one (ps_ret (pe_lst (pa_cons (pe_callB (call_max2 rfl) (by rfl) T.n_max (by decide +kernel) (pa_cons pe_int (pa_cons (pe_op op_sub (pe_callB call_abs (by rfl) T.n_abs (by decide +kernel) (pa_cons (pv 2) pa_nil)) (pe_op op_pow pe_int pe_int)) pa_nil))) (pa_cons (pe_op op_add (pe_op op_mod (pe_callTy call_int1 (by rfl) T.n_int (by decide +kernel) (pa_cons (pv 2) pa_nil)) (pe_op op_add (pe_op op_pow pe_int pe_int) pe_int)) (pe_op op_mul pe_int (pe_op op_add (pv 1) pe_int))) (pa_cons pe_int pa_nil))))))), ?_⟩
    have fin : ∀ c : Int, (fun σ H' => ∃ y2, σ = [some (.ref a), some (.int i), some y2] ∧ y2 = V.int c ∧ H' = H) [some (.ref a), some (.int i), some (V.int c)] H := fun c => ⟨_, rfl, rfl, rfl⟩
    have key : ∀ c : Int, (0 : Int) ≤ max 0 ((if c < 0 then -c else c) - 10 ^ 18) := fun c => Int.le_max_left _ _
    refine ⟨.int i, rfl, .ref a, rfl, a, _, rfl, .inl hS, i, _, rfl, rfl, _, rfl, ite2 (fun h => ?_) (fun h => ?_)⟩
    · have h1 : i < ns.length := by
        have := of_decide_eq_true h
        rw [List.length_map] at this
        exact this
      obtain ⟨c, hc, hat⟩ := at_in hi0 h1
      refine ⟨.ref a, rfl, .int i, rfl, a, _, i, .int c, rfl, rfl, hS, hat, ?_⟩
      refine ⟨.int c, rfl, c, rfl, 10, 18, rfl, rfl, ⟨by decide, by decide, by decide⟩, _, _, rfl, rfl, 0, _, rfl, ?_⟩
      refine ⟨.int c, rfl, .inl ⟨c, rfl, 10, 21, rfl, rfl, ⟨by decide, by decide, by decide⟩, _, 117, rfl, rfl, c, _, rfl, rfl, (by show (0 : Int) < 10 ^ (21 : Int).toNat + 117; decide +kernel), .int i, rfl, i, 1, rfl, rfl, 8191, i + 1, rfl, rfl, .inl ⟨by decide, by decide⟩, _, _, rfl, rfl, (by show 3 ≤ sizeLine; decide), fun t ht => ?_⟩⟩
      have m0 := Int.emod_nonneg c (show (1000000000000000000117 : Int) ≠ 0 by decide)
      have m1 := Int.emod_lt_of_pos c (show (0 : Int) < 1000000000000000000117 by decide)
      rw [e21]
      refine q t _ (new_same ht) ht ⟨_, _, 0, upd_same, ?_, by omega, by omega, by omega, by omega⟩
      split <;> omega
    · refine ⟨.int 0, rfl, 0, rfl, 10, 18, rfl, rfl, ⟨by decide, by decide, by decide⟩, _, _, rfl, rfl, 0, _, rfl, ?_⟩
      refine ⟨.int 0, rfl, .inl ⟨0, rfl, 10, 21, rfl, rfl, ⟨by decide, by decide, by decide⟩, _, 117, rfl, rfl, 0, _, rfl, rfl, (by show (0 : Int) < 10 ^ (21 : Int).toNat + 117; decide +kernel), .int i, rfl, i, 1, rfl, rfl, 8191, i + 1, rfl, rfl, .inl ⟨by decide, by decide⟩, _, _, rfl, rfl, (by show 3 ≤ sizeLine; decide), fun t ht => ?_⟩⟩
      rw [Int.zero_emod]
      refine q t _ (new_same ht) ht ⟨_, _, 0, upd_same, ?_, by omega, by omega, by omega, by omega⟩
      split <;> omega

/-! ### _law_slits -/
def Slt (ns : List Int) : Prop := ∀ n ∈ ns, 0 ≤ n ∧ n ≤ 1
def spSlits : Sp := fun vs H Q _ => ∃ (T : Addr) (n c : Int), vs = [.ref T, .int n] ∧ 1 ≤ n ∧ n ≤ 40 ∧ Tank H T c ∧ 0 ≤ c ∧ c < 2 ^ 38 ∧
  ∀ (l : Addr) (ns : List Int) (H' : Hp), Slt ns → (ns.length : Int) = n → But T H H' → H l = none → H' l = some (.lst (ns.map V.int)) → Tank H' T (c + 90) → Q (.ref l) H'
theorem rgV_ints (n : Int) : rgV 0 n = ((List.range n.toNat).map fun (i : Nat) => (i : Int)).map V.int := by
  unfold rgV
  rw [List.map_map, Int.sub_zero]
  exact List.map_congr_left fun i _ => by show V.int (0 + (i : Int)) = V.int (i : Int); rw [Int.zero_add]
theorem seqIx_in {i : Int} {n : Nat} (h0 : 0 ≤ i) (h1 : i < n) : seqIndex? i n = some i.toNat := by
  unfold seqIndex?
  have e : ¬ i < 0 := by omega
  simp only [if_neg e]
  rw [if_pos (by rw [Bool.and_eq_true]; exact ⟨decide_eq_true h0, decide_eq_true h1⟩)]
theorem erase_map : ∀ (ns : List Int) (k : Nat), (ns.map V.int).eraseIdx k = (ns.eraseIdx k).map V.int
  | [], _ => rfl
  | _ :: _, 0 => rfl
  | n :: ns, k + 1 => congrArg (V.int n :: ·) (erase_map ns k)
theorem erase_len {ns : List Int} {i : Nat} (h : i < ns.length) : (ns.eraseIdx i).length = ns.length - 1 := List.length_eraseIdx_of_lt h
def MidSl (t : Addr) (H : Hp) (n k e : Int) : L2.St → Hp → Prop := fun σ' H' => ∃ (D : Addr) (ns : List Int) (y3 y5 y6 : Option V),
  σ' = [some (.ref t), some (.int n), some (.int k), y3, some (.ref D), y5, y6] ∧ Slt ns ∧ (ns.length : Int) = n ∧ H D = none ∧ H' D = some (.lst (ns.map V.int)) ∧ But t H H' ∧ Tank H' t e
theorem ok_law_slits (T : Txt K mg) : FnOk P w K mg base CX0 2 T.a_law_slits T.d_law_slits ["pool", "size"] spSlits := by
  have G_law_draw := ok_law_draw (P := P) (w := w) (base := base) T
  refine T.F_law_slits.ok sc_law_slits (fun vs H Q E h => ?_) (fun cdv A outer s H vs Q E hr h => ?_)
  · obtain ⟨_, _, _, rfl, _⟩ := h
    rfl
  · obtain ⟨t, n, c, rfl, hn1, hn, hT, hc0, hc, q⟩ := h
    refine ⟨_, (pss_cons (ps_par (i := 2) (j := 3) (by rfl) sc_law_slits.nd rfl rfl (by decide) rfl rfl (pa_cons (pe_call G_law_draw hr (by rfl) T.g_law_draw T.F_law_draw.kp T.b_law_draw .nil pass0 (pa_cons (pv 0) (pa_cons pe_int pa_nil))) (pa_cons (pe_listRg rfl (by rfl) T.n_list (prg_1 (by rfl) T.n_range (pv 1))) pa_nil)) (by rfl))
      (pss_cons (ps_setLc (i := 4) (own := [("spot", 5)]) (g := gName 5) (tt := tYes) (by rfl) sc_law_slits.nd rfl rfl (sw_true rfl rfl rfl (by decide +kernel)) (pi_range1 (by rfl) T.n_range (pa_cons (pv 1) pa_nil)) (blkOk_by (own := [("spot", 5)]) (N := ["pool", "size", "kind", "left", "found", "spot", "turn"]) (sc := defScope s_law_slits) (by decide +kernel))
        (fun _ _ _ _ _ => (pg_name (i := 5) sc_law_slits.nd rfl (Or.inl rfl))) (fun _ _ _ _ _ => pts_nil) (fun _ _ _ _ _ => (pe_call G_law_draw hr (by rfl) T.g_law_draw T.F_law_draw.kp T.b_law_draw .nil pass0 (pa_cons (pv 0) (pa_cons pe_int pa_nil)))))
      (pss_mid (ps_if (pt_cmpR op_gt (pv 2) pe_int (nomark _)) (pss_cons (ps_set (i := 4) sc_law_slits.nd rfl (.inl rfl) (pe_op op_rep (pe_lst (pa_cons pe_int pa_nil)) (pv 1)))
      (pss_one (ps_for PassesOwn.never rfl (pi_range1 (by rfl) T.n_range (pa_cons (pe_ix (ixL (K := K) rfl) (pe_lst (pa_cons (pv 1) (pa_cons (pe_op op_fdivW (pv 1) pe_int) (pa_cons (pe_callB (call_min2 rfl) (by rfl) T.n_min (by decide +kernel) (pa_cons pe_int (pa_cons (pv 1) pa_nil))) (pa_cons (pe_op op_sub (pv 1) (pe_callB (call_min2 rfl) (by rfl) T.n_min (by decide +kernel) (pa_cons pe_int (pa_cons (pv 1) pa_nil)))) pa_nil))))) (pv 2) (fun _ _ => rfl)) pa_nil)) (pg_name (i := 6) sc_law_slits.nd rfl (.inl rfl)) (pss_one (ps_asg pe_int (pg_sub (pv 4) (pe_bm PySem.F.plainAttrs_list PySem.F.slot_list_pop PySem.F.type_list_pop mt_popAt (pv 3) (pa_cons (pe_call G_law_draw hr (by rfl) T.g_law_draw T.F_law_draw.kp T.b_law_draw .nil pass0 (pa_cons (pv 0) (pa_cons (pe_callB (lenL (K := K) rfl) (by rfl) T.n_len (by decide +kernel) (pa_cons (pv 3) pa_nil)) pa_nil))) pa_nil)) set_list)))))) pss_nil)
      (pss_one (ps_ret (pv 4)))))), ?_⟩
    obtain ⟨oT, hoT⟩ := hT.some
    -- kind, left
    refine ⟨.ref t, rfl, t, 4, c, rfl, by omega, by omega, hT, by omega, fun k H1 k0 k4 k1 u1 => ?_⟩
    refine ⟨.int n, rfl, n, rfl, RgOk.of_le (by omega) (by omega) (by omega) (by omega), fun L hL => ?_⟩
    have nL : L ≠ t := k1.ne hL
    have hHL : H L = none := free_but u1 hoT hL (by obtain ⟨o, e⟩ := k1.some; rw [e]; exact fun z => nomatch z)
    have u2 : But t H (upd H1 L (.lst (rgV 0 n))) := u1.trans (But.of (new_same hL))
    have k2 : Tank (upd H1 L (.lst (rgV 0 n))) t (c + 1) := k1.up hL
    have gL : (upd H1 L (.lst (rgV 0 n))) L = some (.lst (((List.range n.toNat).map fun (i : Nat) => (i : Int)).map V.int)) := by rw [upd_same, rgV_ints]
    generalize upd H1 L (.lst (rgV 0 n)) = H2 at u2 k2 gL ⊢
    -- found
    refine ⟨_, _, rfl, .int n, rfl, n, rfl, by omega, by omega, fun D hD => ?_⟩
    have hHD : H D = none := free_but u2 hoT hD (by obtain ⟨o, e⟩ := k2.some; rw [e]; exact fun z => nomatch z)
    have nD : D ≠ t := k2.ne hD
    refine lc_range (lo := 0) (n := n.toNat) (fun i H' => But t H2 H' ∧ Tank H' t (c + 1 + i) ∧ ∃ ms : List Int, H' D = some (.lst (ms.map V.int)) ∧ ms.length = i ∧ Slt ms)
      ⟨But.of (new_same hD), (k2.mono (by omega)).up hD, [], upd_same, rfl, fun m hm => (List.not_mem_nil hm).elim⟩ (fun i H4 hi hP => ⟨rfl, ?_⟩) (fun H4 hP => ?_)
    · obtain ⟨u4, k4, ms, hD4, hlen, hall⟩ := hP
      refine ⟨.ref t, rfl, t, 2, c + 1 + i, rfl, by omega, by omega, k4, by omega, fun v H5 v0 v1 k5 u5 => ?_⟩
      have hD5 : H5 D = some (.lst (ms.map V.int)) := u5 _ _ hD4 nD
      refine ⟨_, hD5, by rw [List.length_map]; exact sz40 (by omega), ?_, ?_, ms ++ [v], ?_, by rw [List.length_append]; show ms.length + 1 = i + 1; omega, fun z hz => ?_⟩
      · exact fun b o e ne => by
          rw [upd_ne (ne_of_none e hD)]
          exact (u4.trans u5) b o e ne
      · obtain ⟨x, y, z, e, a1, a2, a3, a4, a5⟩ := k5
        exact ⟨x, y, z, by rw [upd_ne nD.symm]; exact e, a1, a2, a3, a4, by omega⟩
      · rw [upd_same, List.map_append]
        rfl
      · rcases List.mem_append.mp hz with h | h
        · exact hall z h
        · have e := List.mem_singleton.mp h
          subst e
          omega
    · obtain ⟨u4, k4, ms, hD4, hlen, hall⟩ := hP
      have hn2 : (ms.length : Int) = n := by omega
      have ek : ((n.toNat : Nat) : Int) = n := by omega
      rw [ek] at k4
      have gL4 := u4 _ _ gL nL
      have u24 := u2.trans u4
      refine ⟨MidSl t H n k (c + 1 + n + n), ⟨.int k, rfl, k, 0, rfl, rfl, _, rfl, ite2 (fun hk => ?_) (fun _ => ?_)⟩, fun σ' H5 hM => ?_⟩
      · refine ⟨(by show 1 ≤ sizeLine; decide), fun l3 hl3 => ?_⟩
        refine ⟨.int n, rfl, l3, n, _, rfl, rfl, upd_same, by omega, by omega, (by show 1 * n.toNat ≤ sizeLine; exact sz40' (by omega)), fun F hF => ?_⟩
        have k5 : Tank (upd (upd H4 l3 (.lst [.int 0])) F (.lst (List.replicate n.toNat [V.int 0]).flatten)) t (c + 1 + n) := (k4.up hl3).up hF
        have u5 : But t H (upd (upd H4 l3 (.lst [.int 0])) F (.lst (List.replicate n.toNat [V.int 0]).flatten)) := (u24.trans (But.of (new_same hl3))).trans (But.of (new_same hF))
        have hHF : H F = none := free_but (u24.trans (But.of (new_same hl3))) hoT hF (by obtain ⟨o, e⟩ := (k4.up hl3).some; rw [e]; exact fun z => nomatch z)
        have gL5 := new_same (o := .lst (List.replicate n.toNat [V.int 0]).flatten) hF _ _ (new_same (o := .lst [.int 0]) hl3 _ _ gL4)
        have nLF : L ≠ F := fun z => by
          have := new_same (o := .lst [.int 0]) hl3 _ _ gL4
          rw [z, hF] at this
          cases this
        have nF : F ≠ t := (k4.up hl3).ne hF
        have gF : (upd (upd H4 l3 (.lst [.int 0])) F (.lst (List.replicate n.toNat [V.int 0]).flatten)) F = some (.lst ((List.replicate n.toNat (0 : Int)).map V.int)) := by rw [upd_same, rep_one]
        generalize upd (upd H4 l3 (.lst [.int 0])) F (.lst (List.replicate n.toNat [V.int 0]).flatten) = H5 at k5 u5 gL5 gF ⊢
        -- the loop
        refine ⟨.int n, rfl, .int n, rfl, n, 2, rfl, rfl, wide_div (b := 200) (by decide) (by omega) (by decide) (by decide), .int n, rfl, 3, n, rfl, .int n, rfl, .int n, rfl, 2, n, rfl, n, _, rfl, rfl, (by show 4 ≤ sizeLine; decide), fun S hS => ?_⟩
        obtain ⟨N, hN, hat⟩ := at_in (ns := [n, n / 2, if n < 3 then n else 3, n - if n < 2 then n else 2]) k0 (by show k < 4; omega)
        have hN1 : 0 ≤ N ∧ N ≤ n := by
          have := List.mem_of_getElem? hN
          simp only [List.mem_cons, List.not_mem_nil, or_false] at this
          rcases this with h | h | h | h
          · omega
          · omega
          · revert h; split <;> omega
          · revert h; split <;> omega
        have sS := new_same (o := .lst (([n, n / 2, if n < 3 then n else 3, n - if n < 2 then n else 2] : List Int).map V.int)) hS
        refine ⟨.int k, rfl, S, _, k, .int N, rfl, rfl, SqL.of upd_same, hat, N, rfl, by omega, by omega, for_range (lo := 0) (n := N.toNat)
          (fun i σ H' => ∃ (y5 y6 : Option V) (ls ms : List Int), σ = [some (.ref t), some (.int n), some (.int k), some (.ref L), some (.ref F), y5, y6] ∧ But t H H' ∧ Tank H' t (c + 1 + n + i) ∧
            H' L = some (.lst (ls.map V.int)) ∧ ls.length + i = n.toNat ∧ (∀ x ∈ ls, 0 ≤ x ∧ x < n) ∧ H' F = some (.lst (ms.map V.int)) ∧ Slt ms ∧ (ms.length : Int) = n)
          ⟨_, _, _, _, rfl, u5.trans (But.of sS), (k5.mono (by omega)).same sS, sS _ _ gL5, by rw [List.length_map, List.length_range]; omega, fun x hx => ?_, sS _ _ gF, fun z hz => ?_, by rw [List.length_replicate]; omega⟩
          (fun i σ H6 hi hP => ?_) (fun σ H6 hP => ?_)⟩
        · obtain ⟨j, hj, rfl⟩ := List.mem_map.mp hx
          have := List.mem_range.mp hj
          omega
        · rw [(List.mem_replicate.mp hz).2]
          omega
        · obtain ⟨y5, y6, ls, ms6, rfl, u6, k6, gL6, hll, hls, gF6, hS6, hm6⟩ := hP
          refine ⟨.ref F, rfl, .ref L, rfl, .inl ⟨rfl, _, SqL.of gL6⟩, .ref t, rfl, .ref L, rfl, L, _, rfl, .inl (SqL.of gL6), t, _, c + 1 + n + i, rfl, by rw [List.length_map]; omega, by rw [List.length_map]; omega, k6, by omega, fun v H7 v0 v1 k7 u7 => ?_⟩
          rw [List.length_map] at v1
          obtain ⟨x, hx, hatx⟩ := at_in v0 v1
          obtain ⟨x0, x1⟩ := hls x (List.mem_of_getElem? hx)
          have gL7 := u7 _ _ gL6 nL
          have gF7 := u7 _ _ gF6 nF
          refine ⟨L, _, v, v.toNat, .int x, rfl, rfl, gL7, by omega, by omega, seqIx_in v0 (by rw [List.length_map]; exact v1), at_int hx, ?_⟩
          refine ⟨F, _, x, x.toNat, rfl, rfl, by rw [upd_ne nLF.symm]; exact gF7, ixN_in x0 (by rw [List.length_map]; omega), ?_⟩
          refine ⟨_, _, ls.eraseIdx v.toNat, ms6.set x.toNat 1, rfl, ?_, ?_, ?_, ?_, fun z hz => hls z (List.mem_of_mem_eraseIdx hz), ?_, fun z hz => ?_, by rw [List.length_set]; exact hm6⟩
          · exact fun b o e ne => by
              rw [upd_ne (ne_of_none e hHF), upd_ne (ne_of_none e hHL)]
              exact (u6.trans u7) b o e ne
          · obtain ⟨a, b, d, e, a1, a2, a3, a4, a5⟩ := k7
            exact ⟨a, b, d, by rw [upd_ne nF.symm, upd_ne nL.symm]; exact e, a1, a2, a3, a4, by omega⟩
          · rw [upd_ne nLF, upd_same, erase_map]
          · rw [erase_len (by omega)]
            omega
          · rw [upd_same, map_set]
          · rcases List.mem_or_eq_of_mem_set hz with h | h
            · exact hS6 z h
            · omega
        · obtain ⟨y5, y6, ls, ms6, rfl, u6, k6, gL6, hll, hls, gF6, hS6, hm6⟩ := hP
          exact ⟨F, ms6, _, _, _, rfl, hS6, hm6, hHF, gF6, u6, k6.mono (by omega)⟩
      · exact ⟨D, ms, _, _, _, rfl, hall, hn2, hHD, hD4, u24, k4.mono (by omega)⟩
      obtain ⟨D5, ns5, y3, y5, y6, rfl, hS5, hn5, hH5, hD5, u5, k5⟩ := hM
      exact ⟨.ref D5, rfl, q D5 ns5 H5 hS5 hn5 u5 hH5 hD5 (k5.mono (by omega))⟩

def spLTurned (K : PySem.W.Frag) : Sp := fun vs H Q _ => ∃ (a : Addr) (ns : List Int) (t : Int), vs = [.ref a, .int t] ∧ SqL K H a (ns.map V.int) ∧ 1 ≤ ns.length ∧ ns.length ≤ 1000 ∧
  ∀ (l : Addr) (H' : Hp), Same H H' → H l = none → H' l = some (.lst ((rot ns t).map V.int)) → Q (.ref l) H'
def spLMirrored (K : PySem.W.Frag) : Sp := fun vs H Q _ => ∃ (a : Addr) (ns : List Int), vs = [.ref a] ∧ SqL K H a (ns.map V.int) ∧ 1 ≤ ns.length ∧ ns.length ≤ 1000 ∧
  ∀ (l : Addr) (H' : Hp), Same H H' → H l = none → H' l = some (.lst ((mir ns).map V.int)) → Q (.ref l) H'

/-! ### slitdiscs.around -/
def spTurnedList (K : PySem.W.Frag) : Sp := spLTurned K
theorem ok_turned_list (T : Txt K mg) : FnOk P w K mg base CX0 1 T.a_turned_list T.d_turned_list ["items", "turn"] (spTurnedList K) := by
  refine T.F_turned_list.ok sc_turned_list (fun vs H Q E h => ?_) (fun cdv A outer s H vs Q E hr h => ?_)
  · obtain ⟨_, _, _, rfl, _⟩ := h
    rfl
  · obtain ⟨a, ns, t, rfl, hS, hn1, hn, q⟩ := h
    refine ⟨_, (pss_cons (ps_set (i := 2) sc_turned_list.nd rfl (.inr rfl) (pe_callB (lenL (K := K) rfl) (by rfl) T.n_len (by decide +kernel) (pa_cons (pv 0) pa_nil)))
      (pss_one (ps_ret (pe_lc (own := [("slot", 3)]) (g := gName 3) (tt := tYes) (by rfl) sc_turned_list.nd (pi_range1 (by rfl) T.n_range (pa_cons (pv 2) pa_nil)) (blkOk_by (own := [("slot", 3)]) (N := ["items", "turn", "size", "slot"]) (sc := defScope s_turned_list) (by decide +kernel))
        (fun _ _ _ _ _ => (pg_name (i := 3) sc_turned_list.nd rfl (Or.inl rfl))) (fun _ _ _ _ _ => pts_nil) (fun _ _ _ _ _ => (pe_ix (ixL (K := K) rfl) (pv 0) (pe_op op_mod (pe_op op_sub (pv 3) (pv 1)) (pv 2)) (fun _ _ => rfl))))))), ?_⟩
    refine ⟨.ref a, rfl, a, _, rfl, .inl hS, ?_⟩
    rw [List.length_map]
    refine ⟨.int ns.length, rfl, ns.length, rfl, by omega, by omega, fun D hD => lc_range (lo := 0) (n := ((ns.length : Nat) : Int).toNat)
      (fun i H' => Same H H' ∧ H' D = some (.lst (((rot ns t).take i).map V.int))) ⟨new_same hD, upd_same⟩ (fun i H1 hi hP => ⟨rfl, ?_⟩) (fun H1 hP => ?_)⟩
    · obtain ⟨s1, hD1⟩ := hP
      rw [Int.toNat_natCast] at hi
      have hm := mod_in (i := (0 + (i : Int)) - t) (show 0 < ns.length by omega)
      obtain ⟨n, hx, hat⟩ := at_in hm.1 hm.2
      refine ⟨.ref a, rfl, .int (0 + i), rfl, .int t, rfl, 0 + i, t, rfl, rfl, .int ns.length, rfl, _, _, rfl, rfl, (by show (0 : Int) < _; omega), ?_⟩
      refine ⟨a, _, _, .int n, rfl, rfl, s1.seq hS, hat, _, hD1, ?_, ?_, ?_⟩
      · rw [List.length_map, List.length_take]
        exact sz40 (by omega)
      · intro b o e
        rw [upd_ne (ne_of_none e hD)]
        exact s1 b o e
      · rw [upd_same, take_next]
        rw [rot_at hi]
        rw [show (i : Int) - t = 0 + (i : Int) - t by omega, getD_at hx]
    · obtain ⟨s1, hD1⟩ := hP
      rw [Int.toNat_natCast, take_all (by rw [rot_len]; exact Nat.le_refl _)] at hD1
      exact q D H1 s1 hD hD1

def spMirroredList (K : PySem.W.Frag) : Sp := spLMirrored K
theorem ok_mirrored_list (T : Txt K mg) : FnOk P w K mg base CX0 1 T.a_mirrored_list T.d_mirrored_list ["items"] (spMirroredList K) := by
  refine T.F_mirrored_list.ok sc_mirrored_list (fun vs H Q E h => ?_) (fun cdv A outer s H vs Q E hr h => ?_)
  · obtain ⟨_, _, rfl, _⟩ := h
    rfl
  · obtain ⟨a, ns, rfl, hS, hn1, hn, q⟩ := h
    refine ⟨_, (pss_cons (ps_set (i := 1) sc_mirrored_list.nd rfl (.inr rfl) (pe_callB (lenL (K := K) rfl) (by rfl) T.n_len (by decide +kernel) (pa_cons (pv 0) pa_nil)))
      (pss_one (ps_ret (pe_lc (own := [("slot", 2)]) (g := gName 2) (tt := tYes) (by rfl) sc_mirrored_list.nd (pi_range1 (by rfl) T.n_range (pa_cons (pv 1) pa_nil)) (blkOk_by (own := [("slot", 2)]) (N := ["items", "size", "slot"]) (sc := defScope s_mirrored_list) (by decide +kernel))
        (fun _ _ _ _ _ => (pg_name (i := 2) sc_mirrored_list.nd rfl (Or.inl rfl))) (fun _ _ _ _ _ => pts_nil) (fun _ _ _ _ _ => (pe_ix (ixL (K := K) rfl) (pv 0) (pe_op op_mod (pe_un un_neg (pv 2)) (pv 1)) (fun _ _ => rfl))))))), ?_⟩
    refine ⟨.ref a, rfl, a, _, rfl, .inl hS, ?_⟩
    rw [List.length_map]
    refine ⟨.int ns.length, rfl, ns.length, rfl, by omega, by omega, fun D hD => lc_range (lo := 0) (n := ((ns.length : Nat) : Int).toNat)
      (fun i H' => Same H H' ∧ H' D = some (.lst (((mir ns).take i).map V.int))) ⟨new_same hD, upd_same⟩ (fun i H1 hi hP => ⟨rfl, ?_⟩) (fun H1 hP => ?_)⟩
    · obtain ⟨s1, hD1⟩ := hP
      rw [Int.toNat_natCast] at hi
      have hm := mod_in (i := -(0 + (i : Int))) (show 0 < ns.length by omega)
      obtain ⟨n, hx, hat⟩ := at_in hm.1 hm.2
      refine ⟨.ref a, rfl, .int (0 + i), rfl, 0 + i, rfl, .int ns.length, rfl, _, _, rfl, rfl, (by show (0 : Int) < _; omega), ?_⟩
      refine ⟨a, _, _, .int n, rfl, rfl, s1.seq hS, hat, _, hD1, ?_, ?_, ?_⟩
      · rw [List.length_map, List.length_take]
        exact sz40 (by omega)
      · intro b o e
        rw [upd_ne (ne_of_none e hD)]
        exact s1 b o e
      · rw [upd_same, take_next]
        rw [mir_at hi]
        rw [show -(i : Int) = -(0 + (i : Int)) by omega, getD_at hx]
    · obtain ⟨s1, hD1⟩ := hP
      rw [Int.toNat_natCast, take_all (by rw [mir_len]; exact Nat.le_refl _)] at hD1
      exact q D H1 s1 hD hD1

/-! ### slitdiscs.checks, over rims -/
def spIsInt : Sp := fun vs H Q _ => ∃ n : Int, vs = [.int n] ∧ Q (.bl true) H
theorem ok_is_integer (T : Txt K mg) : FnOk P w K mg base CX0 1 T.a_is_integer T.d_is_integer ["value"] spIsInt := by
  refine T.F_is_integer.ok sc_is_integer (fun vs H Q E h => ?_) (fun cdv A outer s H vs Q E hr h => ?_)
  · obtain ⟨_, rfl, _⟩ := h
    rfl
  · obtain ⟨n, rfl, q⟩ := h
    refine ⟨_, (pss_one (ps_ret (pe_and (pe_callB (isiL (K := K) rfl) (by rfl) T.n_isinstance (by decide +kernel) (pa_cons (pv 0) (pa_cons (pe_bltn (v := .ty "int") (u := Value.type "int") rfl T.n_int (by decide +kernel) rfl) pa_nil))) (pe_one (pe_not (pe_callB (isiL (K := K) rfl) (by rfl) T.n_isinstance (by decide +kernel) (pa_cons (pv 0) (pa_cons (pe_bltn (v := .ty "bool") (u := Value.type "bool") rfl T.n_bool (by decide +kernel) rfl) pa_nil)))))))), ?_⟩
    refine ⟨.int n, rfl, .int n, .ty "int", _, _, true, rfl, .ty _, .base (.int n), kit_int_int, true, rfl, iteT ?_⟩
    exact ⟨.int n, rfl, .int n, .ty "bool", _, _, false, rfl, .ty _, .base (.int n), kit_int_bool, false, rfl, q⟩
def spHasSlots (K : PySem.W.Frag) : Sp := fun vs H Q _ => ∃ (a : Addr) (xs : List V), vs = [.ref a] ∧ SqL K H a xs ∧ 1 ≤ xs.length ∧ xs.length ≤ 40 ∧ Q (.bl true) H
theorem ok_has_slots (T : Txt K mg) : FnOk P w K mg base CX0 1 T.a_has_slots T.d_has_slots ["value"] (spHasSlots K) := by
  refine T.F_has_slots.ok sc_has_slots (fun vs H Q E h => ?_) (fun cdv A outer s H vs Q E hr h => ?_)
  · obtain ⟨_, _, rfl, _⟩ := h
    rfl
  · obtain ⟨a, xs, rfl, hS, h1, h40, q⟩ := h
    refine ⟨_, (pss_one (ps_ret (pe_and (pe_callB (isiL (K := K) rfl) (by rfl) T.n_isinstance (by decide +kernel) (pa_cons (pv 0) (pa_cons (pe_bltn (v := .ty "list") (u := Value.type "list") rfl T.n_list (by decide +kernel) rfl) pa_nil))) (pe_one (pe_chain op_le op_le pe_int (pe_callB (lenL (K := K) rfl) (by rfl) T.n_len (by decide +kernel) (pa_cons (pv 0) pa_nil)) (pe_glob (v := .int (40)) rfl T.g_MOST_SLOTS ⟨_, rfl⟩)))))), ?_⟩
    refine ⟨.ref a, rfl, .ref a, .ty "list", _, _, true, rfl, .ty _, tyx_list hS, kit_list_list, true, rfl, iteT ?_⟩
    refine ⟨.ref a, rfl, a, _, rfl, .inl hS, 1, _, rfl, rfl, _, rfl, ?_⟩
    rw [if_pos (decide_eq_true (by omega))]
    refine ⟨_, 40, rfl, rfl, ?_⟩
    show Q (.bl (decide ((xs.length : Int) ≤ 40))) H
    rw [decide_eq_true (show (xs.length : Int) ≤ 40 by omega)]
    exact q
def spWrongLight (K : PySem.W.Frag) : Sp := fun vs H Q _ => ∃ (a : Addr) (ns : List Int) (m : Int), vs = [.ref a, .int m] ∧ SqL K H a (ns.map V.int) ∧ (∀ n ∈ ns, 0 ≤ n ∧ n ≤ m) ∧ ∀ H', Same H H' → Q .non H'
theorem ok_wrong_light (T : Txt K mg) : FnOk P w K mg base CX0 2 T.a_wrong_light T.d_wrong_light ["items", "most"] (spWrongLight K) := by
  have G_is_integer := ok_is_integer (P := P) (w := w) (base := base) T
  refine T.F_wrong_light.ok sc_wrong_light (fun vs H Q E h => ?_) (fun cdv A outer s H vs Q E hr h => ?_)
  · obtain ⟨_, _, _, rfl, _⟩ := h
    rfl
  · obtain ⟨a, ns, m, rfl, hS, hR, q⟩ := h
    refine ⟨_, (pss_cons (ps_for PassesOwn.never rfl (enumL (K := K) rfl (by rfl) T.n_enumerate (pa_cons (pv 0) pa_nil)) (pg_tupL (K := K) (n := 2) rfl rfl (pgs_cons (pg_name (i := 2) sc_wrong_light.nd rfl (.inl rfl)) (pgs_cons (pg_name (i := 3) sc_wrong_light.nd rfl (.inl rfl)) pgs_nil))) (pss_one (ps_if (PW.pt (pw_or (pt_not (pt_val (pe_call G_is_integer hr (by rfl) T.g_is_integer T.F_is_integer.kp T.b_is_integer .nil pass0 (pa_cons (pv 3) pa_nil)))) (pw_or1 (pt_not (pt_chain op_le op_le pe_int (pv 3) (pv 1)))))) (pss_one (ps_ret (pv 2))) pss_nil)))
      (pss_one (ps_ret pe_non))), ?_⟩
    refine ⟨.ref a, rfl, a, _, rfl, hS, for_it (walk_enum (K := K) (xs := ns.map V.int)) (fun i σ H' => ∃ y1 y2 : Option V, σ = [some (.ref a), some (.int m), y1, y2] ∧ Same H H')
      ⟨none, none, rfl, Same.refl H⟩ (fun i σ H' _ ⟨_, _, _, s2⟩ => s2.seq hS) (fun i x σ H1 H2 hi hP hY => ?_) (fun σ H1 hP => ?_)⟩
    · obtain ⟨y1, y2, rfl, s1⟩ := hP
      obtain ⟨p, z1, z2, rfl, hp, rfl, e1, e2⟩ := hY
      obtain ⟨n, hn, rfl⟩ := int_at e2
      have hb := hR n (List.mem_of_getElem? hn)
      refine ⟨p, _, rfl, SqT.of upd_same, rfl, _, _, rfl, _, _, rfl, rfl, ?_⟩
      refine ⟨.int n, rfl, n, rfl, true, rfl, iteF ?_⟩
      refine ⟨.int n, rfl, 0, n, rfl, rfl, _, rfl, ?_⟩
      rw [if_pos (decide_eq_true hb.1)]
      refine ⟨.int m, rfl, n, m, rfl, rfl, _, rfl, iteNS hb.2 ?_⟩
      exact ⟨_, _, rfl, s1.trans (new_same hp)⟩
    · obtain ⟨y1, y2, rfl, s1⟩ := hP
      exact q H1 s1
def spWrongSlot (K : PySem.W.Frag) : Sp := fun vs H Q _ => ∃ (a : Addr) (ns : List Int), vs = [.ref a] ∧ SqL K H a (ns.map V.int) ∧ Rim ns ∧ ∀ H', Same H H' → Q .non H'
theorem ok_wrong_slot (T : Txt K mg) : FnOk P w K mg base CX0 3 T.a_wrong_slot T.d_wrong_slot ["items"] (spWrongSlot K) := by
  have G_wrong_light := ok_wrong_light (P := P) (w := w) (base := base) T
  refine T.F_wrong_slot.ok sc_wrong_slot (fun vs H Q E h => ?_) (fun cdv A outer s H vs Q E hr h => ?_)
  · obtain ⟨_, _, rfl, _⟩ := h
    rfl
  · obtain ⟨a, ns, rfl, hS, hR, q⟩ := h
    refine ⟨_, (pss_one (ps_ret (pe_call G_wrong_light hr (by rfl) T.g_wrong_light T.F_wrong_light.kp T.b_wrong_light .nil pass0 (pa_cons (pv 0) (pa_cons (pe_glob (v := .int (1000000000000000000000000000000)) rfl T.g_MOST_LIGHT ⟨_, rfl⟩) pa_nil))))), ?_⟩
    exact ⟨.ref a, rfl, a, ns, _, rfl, hS, hR.all, q⟩
def spCheckDisc (K : PySem.W.Frag) : Sp := spWrongSlot K
theorem ok_check_disc (T : Txt K mg) : FnOk P w K mg base CX0 4 T.a_check_disc T.d_check_disc ["disc"] (spCheckDisc K) := by
  have G_has_slots := ok_has_slots (P := P) (w := w) (base := base) T
  have G_wrong_slot := ok_wrong_slot (P := P) (w := w) (base := base) T
  refine T.F_check_disc.ok sc_check_disc (fun vs H Q E h => ?_) (fun cdv A outer s H vs Q E hr h => ?_)
  · obtain ⟨_, _, rfl, _⟩ := h
    rfl
  · obtain ⟨a, ns, rfl, hS, hR, q⟩ := h
    refine ⟨_, (pss_cons (ps_if (pt_not (pt_val (pe_call G_has_slots (hr.mono (by decide)) (by rfl) T.g_has_slots T.F_has_slots.kp T.b_has_slots .nil pass0 (pa_cons (pv 0) pa_nil)))) (pss_one ps_never) pss_nil)
      (pss_cons (ps_set (i := 1) sc_check_disc.nd rfl (.inl rfl) (pe_call G_wrong_slot hr (by rfl) T.g_wrong_slot T.F_wrong_slot.kp T.b_wrong_slot .nil pass0 (pa_cons (pv 0) pa_nil)))
      (pss_one (ps_if (pt_cmpR op_notN (pv 1) pe_non (nomark _)) (pss_one ps_never) pss_nil)))), ?_⟩
    refine ⟨.ref a, rfl, a, _, rfl, hS, by rw [List.length_map]; exact hR.pos, by rw [List.length_map]; exact hR.le, true, rfl, iteF ?_⟩
    refine ⟨.ref a, rfl, a, ns, rfl, hS, hR, fun H1 s1 => ?_⟩
    refine ⟨.non, rfl, rfl, _, rfl, iteNS rfl ?_⟩
    exact q H1 s1

def spCheckDiscs (K : PySem.W.Frag) : Sp := fun vs H Q _ => ∃ (a b : Addr) (ns ms : List Int), vs = [.ref a, .ref b] ∧ SqL K H a (ns.map V.int) ∧ SqL K H b (ms.map V.int) ∧ Rim ns ∧ Rim ms ∧ ns.length = ms.length ∧ ∀ H', Same H H' → Q .non H'
theorem ok_check_discs (T : Txt K mg) : FnOk P w K mg base CX0 5 T.a_check_discs T.d_check_discs ["disc", "other"] (spCheckDiscs K) := by
  have G_check_disc := ok_check_disc (P := P) (w := w) (base := base) T
  refine T.F_check_discs.ok sc_check_discs (fun vs H Q E h => ?_) (fun cdv A outer s H vs Q E hr h => ?_)
  · obtain ⟨_, _, _, _, rfl, _⟩ := h
    rfl
  · obtain ⟨a, b, ns, ms, rfl, hS, hS2, hR, hR2, hl, q⟩ := h
    refine ⟨_, (pss_cons (ps_expr (pe_call G_check_disc hr (by rfl) T.g_check_disc T.F_check_disc.kp T.b_check_disc .nil pass0 (pa_cons (pv 0) pa_nil)))
      (pss_cons (ps_expr (pe_call G_check_disc hr (by rfl) T.g_check_disc T.F_check_disc.kp T.b_check_disc .nil pass0 (pa_cons (pv 1) pa_nil)))
      (pss_one (ps_if (pt_cmpR op_ne (pe_callB (lenL (K := K) rfl) (by rfl) T.n_len (by decide +kernel) (pa_cons (pv 1) pa_nil)) (pe_callB (lenL (K := K) rfl) (by rfl) T.n_len (by decide +kernel) (pa_cons (pv 0) pa_nil)) (nomark _)) (pss_one ps_never) pss_nil)))), ?_⟩
    refine ⟨.ref a, rfl, a, ns, rfl, hS, hR, fun H1 s1 => ?_⟩
    refine ⟨.ref b, rfl, b, ms, rfl, s1.seq hS2, hR2, fun H2 s2 => ?_⟩
    refine ⟨.ref b, rfl, b, _, rfl, .inl ((s1.trans s2).seq hS2), .ref a, rfl, a, _, rfl, .inl ((s1.trans s2).seq hS), rfl, _, rfl, iteNS ?_ ?_⟩
    · rw [List.length_map, List.length_map, hl]
    · exact q H2 (s1.trans s2)

/-! ### lights -/
def spLight (K : PySem.W.Frag) : Sp := fun vs H Q _ => ∃ (a b : Addr) (ns ms : List Int) (t : Int), vs = [.ref a, .ref b, .int t] ∧ SqL K H a (ns.map V.int) ∧ SqL K H b (ms.map V.int) ∧
  ns.length = ms.length ∧ 1 ≤ ns.length ∧ ns.length ≤ 40 ∧ Ab 100 ns ∧ Ab 400 ms ∧ ∀ H', Same H H' → Q (.int (lightV ns ms t)) H'
theorem ok_light_between (T : Txt K mg) : FnOk P w K mg base CX0 2 T.a_light_between T.d_light_between ["disc", "row", "turn"] (spLight K) := by
  have G_turned_list := ok_turned_list (P := P) (w := w) (base := base) T
  refine T.F_light_between.ok sc_light_between (fun vs H Q E h => ?_) (fun cdv A outer s H vs Q E hr h => ?_)
  · obtain ⟨_, _, _, _, _, rfl, _⟩ := h
    rfl
  · obtain ⟨a, b, ns, ms, t, rfl, hS, hS2, hl, h1, h40, hA, hB, q⟩ := h
    refine ⟨_, (pss_one (ps_ret (pe_callB (sumL (K := K) rfl rfl) (by rfl) T.n_sum (by decide +kernel) (pa_cons (pe_lc (own := [("under", 3), ("over", 4)]) (tt := tYes) (by rfl) sc_light_between.nd (zipL (K := K) rfl (by rfl) T.n_zip (pa_cons (pv 0) (pa_cons (pe_call G_turned_list hr (by rfl) T.g_turned_list T.F_turned_list.kp T.b_turned_list .nil pass0 (pa_cons (pv 1) (pa_cons (pv 2) pa_nil))) pa_nil))) (blkOk_by (own := [("under", 3), ("over", 4)]) (N := ["disc", "row", "turn", "under", "over"]) (sc := defScope s_light_between) (by decide +kernel))
        (fun _ _ _ _ _ => (pg_tupL (K := K) (n := 2) rfl rfl (pgs_cons (pg_name (i := 3) sc_light_between.nd rfl (.inl rfl)) (pgs_cons (pg_name (i := 4) sc_light_between.nd rfl (.inl rfl)) pgs_nil)))) (fun _ _ _ _ _ => pts_nil) (fun _ _ _ _ _ => (pe_op op_mulW (pv 3) (pv 4)))) pa_nil)))), ?_⟩
    refine ⟨.ref a, rfl, .ref b, rfl, .int t, rfl, b, ms, t, rfl, hS2, by omega, by omega, fun l H1 s1 hl0 hl1 => ?_⟩
    refine ⟨a, l, _, _, rfl, s1.seq hS, SqL.of hl1, fun D hD => ?_⟩
    refine lc_it (walk_zip (K := K) (a := a) (b := l) (xs := ns.map V.int) (ys := (rot ms t).map V.int) (n := ns.length) (by rw [List.length_map, List.length_map, rot_len]; omega))
      (fun i H' => Same H1 H' ∧ H' D = some (.lst (((prods ns (rot ms t)).take i).map V.int))) ⟨new_same hD, upd_same⟩ (fun i H' _ hP => ⟨hP.1.seq (s1.seq hS), hP.1.seq (SqL.of hl1)⟩) (fun i x H2 H3 hi hP hY => ?_) (fun H2 hP => ?_)
    · obtain ⟨s2, hD2⟩ := hP
      obtain ⟨p, z1, z2, rfl, hp, rfl, e1, e2⟩ := hY
      obtain ⟨x, hx, rfl⟩ := int_at e1
      obtain ⟨y, hy, rfl⟩ := int_at e2
      refine ⟨p, _, rfl, SqT.of upd_same, rfl, _, _, rfl, _, _, rfl, rfl, rfl, ?_⟩
      refine ⟨.int x, rfl, .int y, rfl, x, y, rfl, rfl, wide_mul (hA.at hx) ((hB.rot t).at hy) (by decide) (by decide) (by decide), ?_⟩
      have s3 := s2.trans (new_same (o := .tup [.int x, .int y]) hp)
      refine ⟨_, (new_same hp) _ _ hD2, ?_, same_over s3 hD, ?_⟩
      · rw [List.length_map, List.length_take]
        exact sz40 (by omega)
      · rw [upd_same, take_next (prods_at hx hy)]
    · obtain ⟨s2, hD2⟩ := hP
      rw [take_all (by rw [prods_len, rot_len]; omega)] at hD2
      exact ⟨D, _, rfl, SqL.of hD2, q H2 (s1.trans s2)⟩
def spLights (K : PySem.W.Frag) : Sp := fun vs H Q _ => ∃ (a b : Addr) (ns ms : List Int), vs = [.ref a, .ref b] ∧ SqL K H a (ns.map V.int) ∧ SqL K H b (ms.map V.int) ∧
  ns.length = ms.length ∧ 1 ≤ ns.length ∧ ns.length ≤ 40 ∧ Ab 100 ns ∧ Ab 400 ms ∧ ∀ (l : Addr) (H' : Hp), Same H H' → H l = none → H' l = some (.lst ((lightsV ns ms).map V.int)) → Q (.ref l) H'
theorem ok_lights_between (T : Txt K mg) : FnOk P w K mg base CX0 3 T.a_lights_between T.d_lights_between ["disc", "row"] (spLights K) := by
  have G_light_between := ok_light_between (P := P) (w := w) (base := base) T
  refine T.F_lights_between.ok sc_lights_between (fun vs H Q E h => ?_) (fun cdv A outer s H vs Q E hr h => ?_)
  · obtain ⟨_, _, _, _, rfl, _⟩ := h
    rfl
  · obtain ⟨a, b, ns, ms, rfl, hS, hS2, hl, h1, h40, hA, hB, q⟩ := h
    refine ⟨_, (pss_one (ps_ret (pe_lc (own := [("turn", 2)]) (g := gName 2) (tt := tYes) (by rfl) sc_lights_between.nd (pi_range1 (by rfl) T.n_range (pa_cons (pe_callB (lenL (K := K) rfl) (by rfl) T.n_len (by decide +kernel) (pa_cons (pv 0) pa_nil)) pa_nil)) (blkOk_by (own := [("turn", 2)]) (N := ["disc", "row", "turn"]) (sc := defScope s_lights_between) (by decide +kernel))
        (fun _ _ _ _ _ => (pg_name (i := 2) sc_lights_between.nd rfl (Or.inl rfl))) (fun _ _ _ _ _ => pts_nil) (fun _ _ _ _ _ => (pe_call G_light_between hr (by rfl) T.g_light_between T.F_light_between.kp T.b_light_between .nil pass0 (pa_cons (pv 0) (pa_cons (pv 1) (pa_cons (pv 2) pa_nil)))))))), ?_⟩
    refine ⟨.ref a, rfl, a, _, rfl, .inl hS, ?_⟩
    rw [List.length_map]
    refine ⟨ns.length, rfl, by omega, by omega, fun D hD => lc_range (lo := 0) (n := ((ns.length : Nat) : Int).toNat)
      (fun i H' => Same H H' ∧ H' D = some (.lst (((lightsV ns ms).take i).map V.int))) ⟨new_same hD, upd_same⟩ (fun i H1 hi hP => ⟨rfl, ?_⟩) (fun H1 hP => ?_)⟩
    · obtain ⟨s1, hD1⟩ := hP
      rw [Int.toNat_natCast] at hi
      refine ⟨.ref a, rfl, .ref b, rfl, .int (0 + i), rfl, a, b, ns, ms, 0 + i, rfl, s1.seq hS, s1.seq hS2, hl, h1, h40, hA, hB, fun H2 s2 => ?_⟩
      refine ⟨_, s2 _ _ hD1, ?_, same_over (s1.trans s2) hD, ?_⟩
      · rw [List.length_map, List.length_take]
        exact sz40 (by omega)
      · rw [upd_same, take_next]
        rw [lightsV_at hi, Int.zero_add]
    · obtain ⟨s1, hD1⟩ := hP
      rw [Int.toNat_natCast, take_all (by rw [lightsV_len]; exact Nat.le_refl _)] at hD1
      exact q D H1 s1 hD hD1

def spLeastTurned (K : PySem.W.Frag) : Sp := fun vs H Q _ => ∃ (a : Addr) (ns : List Int), vs = [.ref a] ∧ SqL K H a (ns.map V.int) ∧ Rim ns ∧
  ∀ (l : Addr) (m : List Int) (H' : Hp), Same H H' → H l = none → H' l = some (.lst (m.map V.int)) → LeastI (turnsL ns) m → Q (.ref l) H'
theorem ok_least_turned (T : Txt K mg) : FnOk P w K mg base CX0 2 T.a_least_turned T.d_least_turned ["disc"] (spLeastTurned K) := by
  have G_turned_list := ok_turned_list (P := P) (w := w) (base := base) T
  refine T.F_least_turned.ok sc_least_turned (fun vs H Q E h => ?_) (fun cdv A outer s H vs Q E hr h => ?_)
  · obtain ⟨_, _, rfl, _⟩ := h
    rfl
  · obtain ⟨a, ns, rfl, hS, hR, q⟩ := h
    refine ⟨_, (pss_one (ps_ret (pe_callB (cr_minI (K := K) rfl rfl hr) (by rfl) T.n_min (by decide +kernel) (pa_cons (pe_lc (own := [("turn", 1)]) (g := gName 1) (tt := tYes) (by rfl) sc_least_turned.nd (pi_range1 (by rfl) T.n_range (pa_cons (pe_callB (lenL (K := K) rfl) (by rfl) T.n_len (by decide +kernel) (pa_cons (pv 0) pa_nil)) pa_nil)) (blkOk_by (own := [("turn", 1)]) (N := ["disc", "turn"]) (sc := defScope s_least_turned) (by decide +kernel))
        (fun _ _ _ _ _ => (pg_name (i := 1) sc_least_turned.nd rfl (Or.inl rfl))) (fun _ _ _ _ _ => pts_nil) (fun _ _ _ _ _ => (pe_call G_turned_list hr (by rfl) T.g_turned_list T.F_turned_list.kp T.b_turned_list .nil pass0 (pa_cons (pv 0) (pa_cons (pv 1) pa_nil))))) pa_nil)))), ?_⟩
    have l40 := hR.le
    have l1 := hR.pos
    refine ⟨.ref a, rfl, a, _, rfl, .inl hS, ?_⟩
    rw [List.length_map]
    refine ⟨ns.length, rfl, by omega, by omega, fun D hD => lc_range (lo := 0) (n := ((ns.length : Nat) : Int).toNat)
      (fun i H' => ∃ vs, Same H H' ∧ H' D = some (.lst vs) ∧ Rows H H' vs ((turnsL ns).take i)) ⟨[], new_same hD, upd_same, .nil⟩ (fun i H1 hi hP => ⟨rfl, ?_⟩) (fun H1 hP => ?_)⟩
    · obtain ⟨vs, s1, hD1, hr1⟩ := hP
      rw [Int.toNat_natCast] at hi
      refine ⟨.ref a, rfl, .int (0 + i), rfl, a, ns, 0 + i, rfl, s1.seq hS, l1, by omega, fun l H2 s2 hl hl2 => ?_⟩
      refine ⟨vs, s2 _ _ hD1, ?_, vs ++ [.ref l], same_over (s1.trans s2) hD, upd_same, ?_⟩
      · have := hr1.len
        rw [List.length_take, turns_len] at this
        exact sz40 (by omega)
      · have nl : l ≠ D := fun e => by
          rw [e, hD1] at hl
          cases hl
        have e : rot ns (0 + (i : Int)) = (fun (t : Nat) => rot ns (t : Int)) i := by
          show rot ns (0 + (i : Int)) = rot ns (i : Int)
          rw [Int.zero_add]
        have hr2 : Rows H (upd H2 D (.lst (vs ++ [.ref l]))) vs ((turnsL ns).take i) := by
          have hr3 := hr1.up s2
          exact rows_over hr3 (hr3.ne (o := .lst vs) (s2 _ _ hD1))
        have := hr2.snoc (s1.free hl) (m := rot ns (0 + (i : Int))) (by rw [upd_ne nl]; exact hl2)
        rw [e] at this
        unfold turnsL at this
        rw [take_map_next hi] at this
        exact this
    · obtain ⟨vs, s1, hD1, hr1⟩ := hP
      rw [Int.toNat_natCast, List.take_of_length_le (by rw [turns_len]; exact Nat.le_refl _)] at hr1
      refine ⟨D, vs, turnsL ns, rfl, SqL.of hD1, hr1.dp, by rw [turns_len]; omega, fun i v m hv hm hL => ?_⟩
      obtain ⟨l, m', rfl, hm', fl, el⟩ := hr1.at hv
      rw [hm] at hm'
      cases hm'
      exact q l m H1 s1 fl el hL
def spLeastLike (K : PySem.W.Frag) : Sp := fun vs H Q _ => ∃ (a : Addr) (ns : List Int), vs = [.ref a] ∧ SqL K H a (ns.map V.int) ∧ Rim ns ∧
  ∀ (l : Addr) (m : List Int) (H' : Hp), Same H H' → H l = none → H' l = some (.lst (m.map V.int)) → LeastI (bothL ns) m → Q (.ref l) H'
theorem ok_least_like (T : Txt K mg) : FnOk P w K mg base CX0 3 T.a_least_like T.d_least_like ["disc"] (spLeastLike K) := by
  have G_mirrored_list := ok_mirrored_list (P := P) (w := w) (base := base) T
  have G_least_turned := ok_least_turned (P := P) (w := w) (base := base) T
  refine T.F_least_like.ok sc_least_like (fun vs H Q E h => ?_) (fun cdv A outer s H vs Q E hr h => ?_)
  · obtain ⟨_, _, rfl, _⟩ := h
    rfl
  · obtain ⟨a, ns, rfl, hS, hR, q⟩ := h
    refine ⟨_, (pss_one (ps_ret (pe_callB (cr_min2 (K := K) rfl rfl hr) (by rfl) T.n_min (by decide +kernel) (pa_cons (pe_call G_least_turned hr (by rfl) T.g_least_turned T.F_least_turned.kp T.b_least_turned .nil pass0 (pa_cons (pv 0) pa_nil)) (pa_cons (pe_call G_least_turned hr (by rfl) T.g_least_turned T.F_least_turned.kp T.b_least_turned .nil pass0 (pa_cons (pe_call G_mirrored_list (hr.mono (by decide)) (by rfl) T.g_mirrored_list T.F_mirrored_list.kp T.b_mirrored_list .nil pass0 (pa_cons (pv 0) pa_nil)) pa_nil)) pa_nil))))), ?_⟩
    have l40 := hR.le
    refine ⟨.ref a, rfl, a, ns, rfl, hS, hR, fun l1 m1 H1 s1 f1 e1 L1 => ?_⟩
    refine ⟨.ref a, rfl, a, ns, rfl, s1.seq hS, hR.pos, by omega, fun l2 H2 s2 f2 e2 => ?_⟩
    refine ⟨l2, mir ns, rfl, SqL.of e2, hR.mir, fun l3 m3 H3 s3 f3 e3 L3 => ?_⟩
    have s13 := s2.trans s3
    have s03 := s1.trans s13
    have L := least_app L1 L3
    refine ⟨.ref l1, .ref l3, m1, m3, rfl, dp_ints (SqL.of (s13 _ _ e1)), dp_ints (SqL.of e3), ?_⟩
    cases z : LtI m3 m1 with
    | true =>
      rw [z] at L
      exact q l3 m3 H3 s03 ((s1.trans s2).free f3) e3 L
    | false =>
      rw [z] at L
      exact q l1 m1 H3 s03 f1 (s13 _ _ e1) L

def spAreLike (K : PySem.W.Frag) : Sp := fun vs H Q _ => ∃ (a b : Addr) (ns ms : List Int), vs = [.ref a, .ref b] ∧ SqL K H a (ns.map V.int) ∧ SqL K H b (ms.map V.int) ∧ Rim ns ∧ Rim ms ∧ ns.length = ms.length ∧
  ∀ H', Same H H' → Q (.bl (decide (ms ∈ bothL ns))) H'
theorem ok_are_like (T : Txt K mg) : FnOk P w K mg base CX0 6 T.a_are_like T.d_are_like ["disc", "other"] (spAreLike K) := by
  have G_check_discs := ok_check_discs (P := P) (w := w) (base := base) T
  have G_least_like := ok_least_like (P := P) (w := w) (base := base) T
  refine T.F_are_like.ok sc_are_like (fun vs H Q E h => ?_) (fun cdv A outer s H vs Q E hr h => ?_)
  · obtain ⟨_, _, _, _, rfl, _⟩ := h
    rfl
  · obtain ⟨a, b, ns, ms, rfl, hS, hS2, hR, hR2, hl, q⟩ := h
    refine ⟨_, (pss_cons (ps_expr (pe_call G_check_discs hr (by rfl) T.g_check_discs T.F_check_discs.kp T.b_check_discs .nil pass0 (pa_cons (pv 0) (pa_cons (pv 1) pa_nil))))
      (pss_one (ps_ret (pe_cmpR (eqD (K := K) rfl hr) (pe_call G_least_like (hr.mono (by decide)) (by rfl) T.g_least_like T.F_least_like.kp T.b_least_like .nil pass0 (pa_cons (pv 0) pa_nil)) (pe_call G_least_like (hr.mono (by decide)) (by rfl) T.g_least_like T.F_least_like.kp T.b_least_like .nil pass0 (pa_cons (pv 1) pa_nil)) (nomark _))))), ?_⟩
    refine ⟨.ref a, rfl, .ref b, rfl, a, b, ns, ms, rfl, hS, hS2, hR, hR2, hl, fun H1 s1 => ?_⟩
    refine ⟨.ref a, rfl, a, ns, rfl, s1.seq hS, hR, fun l1 m1 H2 s2 f1 e1 L1 => ?_⟩
    have s12 := s1.trans s2
    refine ⟨.ref b, rfl, b, ms, rfl, s12.seq hS2, hR2, fun l2 m2 H3 s3 f2 e2 L2 => ?_⟩
    have r1 : Rim m1 := hR.of_both L1.1
    have r2 : Rim m2 := hR2.of_both L2.1
    refine ⟨dI m1, dI m2, dp_ints (SqL.of (s3 _ _ e1)), dp_ints (SqL.of e2), r1.rp.shaped, r2.rp.shaped, ?_⟩
    rw [eqv_dI]
    have z := q H3 (s12.trans s3)
    have e : decide (m1 = m2) = decide (ms ∈ bothL ns) := by
      have := like_iff hR.pos hR2.pos L1 L2
      simp only [this]
    rw [e]
    exact z

/-! ### like_form -/
theorem ok_like_form (T : Txt K mg) : FnOk P w K mg base CX0 5 T.a_like_form T.d_like_form ["disc"] (spLeastLike K) := by
  have G_check_disc := ok_check_disc (P := P) (w := w) (base := base) T
  have G_least_like := ok_least_like (P := P) (w := w) (base := base) T
  refine T.F_like_form.ok sc_like_form (fun vs H Q E h => ?_) (fun cdv A outer s H vs Q E hr h => ?_)
  · obtain ⟨_, _, rfl, _⟩ := h
    rfl
  · obtain ⟨a, ns, rfl, hS, hR, q⟩ := h
    refine ⟨_, (pss_cons (ps_expr (pe_call G_check_disc hr (by rfl) T.g_check_disc T.F_check_disc.kp T.b_check_disc .nil pass0 (pa_cons (pv 0) pa_nil)))
      (pss_one (ps_ret (pe_call G_least_like (hr.mono (by decide)) (by rfl) T.g_least_like T.F_least_like.kp T.b_least_like .nil pass0 (pa_cons (pv 0) pa_nil))))), ?_⟩
    refine ⟨.ref a, rfl, a, ns, rfl, hS, hR, fun H1 s1 => ?_⟩
    exact ⟨.ref a, rfl, a, ns, rfl, s1.seq hS, hR, fun l m H2 s2 f2 e2 L => q l m H2 (s1.trans s2) (s1.free f2) e2 L⟩

def spCheckSlotted (K : PySem.W.Frag) : Sp := fun vs H Q _ => ∃ (a : Addr) (ns : List Int), vs = [.ref a] ∧ SqL K H a (ns.map V.int) ∧ 1 ≤ ns.length ∧ ns.length ≤ 40 ∧ Slt ns ∧ ∀ H' : Hp, Same H H' → Q .non H'
theorem ok_check_slotted (T : Txt K mg) : FnOk P w K mg base CX0 3 T.a_check_slotted T.d_check_slotted ["disc"] (spCheckSlotted K) := by
  have G_has_slots := ok_has_slots (P := P) (w := w) (base := base) T
  have G_wrong_light := ok_wrong_light (P := P) (w := w) (base := base) T
  refine T.F_check_slotted.ok sc_check_slotted (fun vs H Q E h => ?_) (fun cdv A outer s H vs Q E hr h => ?_)
  · obtain ⟨_, _, rfl, _⟩ := h
    rfl
  · obtain ⟨a, ns, rfl, hS, h1, h40, hs, q⟩ := h
    refine ⟨_, (pss_cons (ps_if (pt_not (pt_val (pe_call G_has_slots (hr.mono (by decide)) (by rfl) T.g_has_slots T.F_has_slots.kp T.b_has_slots .nil pass0 (pa_cons (pv 0) pa_nil)))) (pss_one ps_never) pss_nil)
      (pss_cons (ps_set (i := 1) sc_check_slotted.nd rfl (.inl rfl) (pe_call G_wrong_light hr (by rfl) T.g_wrong_light T.F_wrong_light.kp T.b_wrong_light .nil pass0 (pa_cons (pv 0) (pa_cons pe_int pa_nil))))
      (pss_one (ps_if (pt_cmpR op_notN (pv 1) pe_non (nomark _)) (pss_one ps_never) pss_nil)))), ?_⟩
    refine ⟨.ref a, rfl, a, _, rfl, hS, by rw [List.length_map]; exact h1, by rw [List.length_map]; exact h40, true, rfl, iteF ?_⟩
    refine ⟨.ref a, rfl, a, ns, 1, rfl, hS, hs, fun H1 s1 => ?_⟩
    refine ⟨.non, rfl, rfl, _, rfl, iteNS rfl ?_⟩
    exact q H1 s1
def spAtMost (K : PySem.W.Frag) : Sp := fun vs H Q _ => ∃ (a : Addr) (ns : List Int) (m : Int), vs = [.ref a, .int m] ∧ SqL K H a (ns.map V.int) ∧ (ns.length : Int) ≤ m ∧ Q .non H
theorem ok_check_slots_at_most (T : Txt K mg) : FnOk P w K mg base CX0 1 T.a_check_slots_at_most T.d_check_slots_at_most ["disc", "most"] (spAtMost K) := by
  refine T.F_check_slots_at_most.ok sc_check_slots_at_most (fun vs H Q E h => ?_) (fun cdv A outer s H vs Q E hr h => ?_)
  · obtain ⟨_, _, _, rfl, _⟩ := h
    rfl
  · obtain ⟨a, ns, m, rfl, hS, hm, q⟩ := h
    refine ⟨_, (pss_one (ps_if (pt_cmpR op_gt (pe_callB (lenL (K := K) rfl) (by rfl) T.n_len (by decide +kernel) (pa_cons (pv 0) pa_nil)) (pv 1) (nomark _)) (pss_one ps_never) pss_nil)), ?_⟩
    refine ⟨.ref a, rfl, a, _, rfl, .inl hS, .int m, rfl, ns.length, m, by rw [List.length_map], rfl, _, rfl, ite2 (fun h => absurd (of_decide_eq_true h) (by omega)) (fun _ => q)⟩

def spShut (K : PySem.W.Frag) : Sp := fun vs H Q _ => ∃ (a : Addr) (ns : List Int), vs = [.ref a] ∧ SqL K H a (ns.map V.int) ∧ 1 ≤ ns.length ∧ ns.length ≤ 40 ∧ Slt ns ∧
  ∀ (l : Addr) (H' : Hp), Same H H' → H l = none → H' l = some (.lst ((shutL ns).map V.int)) → Q (.ref l) H'
theorem ok_shut_disc (T : Txt K mg) : FnOk P w K mg base CX0 4 T.a_shut_disc T.d_shut_disc ["disc"] (spShut K) := by
  have G_check_slotted := ok_check_slotted (P := P) (w := w) (base := base) T
  refine T.F_shut_disc.ok sc_shut_disc (fun vs H Q E h => ?_) (fun cdv A outer s H vs Q E hr h => ?_)
  · obtain ⟨_, _, rfl, _⟩ := h
    rfl
  · obtain ⟨a, ns, rfl, hS, h1, h40, hs, q⟩ := h
    refine ⟨_, (pss_cons (ps_expr (pe_call G_check_slotted hr (by rfl) T.g_check_slotted T.F_check_slotted.kp T.b_check_slotted .nil pass0 (pa_cons (pv 0) pa_nil)))
      (pss_one (ps_ret (pe_lc (own := [("item", 1)]) (g := gName 1) (tt := tYes) (by rfl) sc_shut_disc.nd (pi_listL (K := K) rfl (pv 0)) (blkOk_by (own := [("item", 1)]) (N := ["disc", "item"]) (sc := defScope s_shut_disc) (by decide +kernel))
        (fun _ _ _ _ _ => (pg_name (i := 1) sc_shut_disc.nd rfl (Or.inl rfl))) (fun _ _ _ _ _ => pts_nil) (fun _ _ _ _ _ => (pe_op op_sub pe_int (pv 1))))))), ?_⟩
    refine ⟨.ref a, rfl, a, ns, rfl, hS, h1, h40, hs, fun H1 s1 => ?_⟩
    refine ⟨.ref a, rfl, a, rfl, ⟨_, s1.seq hS⟩, fun D hD => ?_⟩
    refine lc_list (K := K) (a := a) (xs := ns.map V.int) (fun i H' => Same H1 H' ∧ H' D = some (.lst (((shutL ns).take i).map V.int)))
      ⟨new_same hD, upd_same⟩ (fun i H' _ hP => hP.1.seq (s1.seq hS)) (fun i x H2 hx hP => ⟨rfl, ?_⟩) (fun H2 hP => ?_)
    · obtain ⟨s2, g2⟩ := hP
      obtain ⟨b, hb, rfl⟩ := int_at hx
      have hi : i < ns.length := (List.getElem?_eq_some_iff.mp hb).1
      refine ⟨.int b, rfl, 1, b, rfl, rfl, _, g2, by rw [List.length_map, List.length_take]; exact sz40 (by omega), same_over s2 hD, ?_⟩
      rw [upd_same, take_next]
      unfold shutL
      rw [List.getElem?_map, hb]
      rfl
    · obtain ⟨s2, g2⟩ := hP
      rw [List.length_map, take_all (by unfold shutL; rw [List.length_map]; exact Nat.le_refl _)] at g2
      exact q D H2 (s1.trans s2) (s1.free hD) g2

/-! ### slitdiscs.twins -/
def spOwnLights (K : PySem.W.Frag) : Sp := fun vs H Q _ => ∃ (a : Addr) (ns : List Int), vs = [.ref a] ∧ SqL K H a (ns.map V.int) ∧ Rim ns ∧
  ∀ (l : Addr) (H' : Hp), Same H H' → H l = none → H' l = some (.lst ((lightsV ns ns).map V.int)) → Q (.ref l) H'
theorem ok_own_lights (T : Txt K mg) : FnOk P w K mg base CX0 5 T.a_own_lights T.d_own_lights ["disc"] (spOwnLights K) := by
  have G_check_disc := ok_check_disc (P := P) (w := w) (base := base) T
  have G_lights_between := ok_lights_between (P := P) (w := w) (base := base) T
  refine T.F_own_lights.ok sc_own_lights (fun vs H Q E h => ?_) (fun cdv A outer s H vs Q E hr h => ?_)
  · obtain ⟨_, _, rfl, _⟩ := h
    rfl
  · obtain ⟨a, ns, rfl, hS, hR, q⟩ := h
    refine ⟨_, (pss_cons (ps_expr (pe_call G_check_disc hr (by rfl) T.g_check_disc T.F_check_disc.kp T.b_check_disc .nil pass0 (pa_cons (pv 0) pa_nil)))
      (pss_one (ps_ret (pe_call G_lights_between (hr.mono (by decide)) (by rfl) T.g_lights_between T.F_lights_between.kp T.b_lights_between .nil pass0 (pa_cons (pv 0) (pa_cons (pv 0) pa_nil)))))), ?_⟩
    refine ⟨.ref a, rfl, a, ns, rfl, hS, hR, fun H1 s1 => ?_⟩
    exact ⟨.ref a, rfl, .ref a, rfl, a, a, ns, ns, rfl, s1.seq hS, s1.seq hS, rfl, hR.pos, hR.le, hR.ab, hR.ab.mono (by decide), fun l H2 s2 h2 e2 => q l H2 (s1.trans s2) (s1.free h2) e2⟩
/-- whether they are twins -/
def twB (ns ms : List Int) : Bool := decide (lightsV ns ns = lightsV ms ms) && !decide (ms ∈ bothL ns)
theorem twB_comm {ns ms : List Int} (h : 1 ≤ ns.length) (h2 : 1 ≤ ms.length) : twB ms ns = twB ns ms := by
  unfold twB
  have e1 : decide (lightsV ms ms = lightsV ns ns) = decide (lightsV ns ns = lightsV ms ms) := decide_eq_decide.mpr ⟨Eq.symm, Eq.symm⟩
  have e2 : decide (ns ∈ bothL ms) = decide (ms ∈ bothL ns) := decide_eq_decide.mpr ⟨both_symm h2, both_symm h⟩
  rw [e1, e2]
theorem own_ab {ns : List Int} (h : Rim ns) : RP (dI (lightsV ns ns)) := (lightsV_ab h.ab h.ab (by have := h.le; omega)).rp (by decide)
theorem own_fits {ns : List Int} (h : Rim ns) : (dI (lightsV ns ns)).shown.length ≤ sizeLine :=
  fit_le (Nat.le_trans ((lightsV_ab h.ab h.ab (by have := h.le; omega)).fits (by decide) (by rw [lightsV_len]; have := h.le; omega)) (by decide))
def spTwins (K : PySem.W.Frag) : Sp := fun vs H Q _ => ∃ (a b : Addr) (ns ms : List Int), vs = [.ref a, .ref b] ∧ SqL K H a (ns.map V.int) ∧ SqL K H b (ms.map V.int) ∧ Rim ns ∧ Rim ms ∧ ns.length = ms.length ∧
  ∀ H', Same H H' → Q (.bl (twB ns ms)) H'
theorem ok_are_twins (T : Txt K mg) : FnOk P w K mg base CX0 7 T.a_are_twins T.d_are_twins ["disc", "other"] (spTwins K) := by
  have G_check_discs := ok_check_discs (P := P) (w := w) (base := base) T
  have G_lights_between := ok_lights_between (P := P) (w := w) (base := base) T
  have G_are_like := ok_are_like (P := P) (w := w) (base := base) T
  refine T.F_are_twins.ok sc_are_twins (fun vs H Q E h => ?_) (fun cdv A outer s H vs Q E hr h => ?_)
  · obtain ⟨_, _, _, _, rfl, _⟩ := h
    rfl
  · obtain ⟨a, b, ns, ms, rfl, hS, hS2, hR, hR2, hl, q⟩ := h
    refine ⟨_, (pss_cons (ps_expr (pe_call G_check_discs (hr.mono (by decide)) (by rfl) T.g_check_discs T.F_check_discs.kp T.b_check_discs .nil pass0 (pa_cons (pv 0) (pa_cons (pv 1) pa_nil))))
      (pss_one (ps_ret (pe_and (pe_cmpR (eqD (K := K) rfl hr) (pe_call G_lights_between (hr.mono (by decide)) (by rfl) T.g_lights_between T.F_lights_between.kp T.b_lights_between .nil pass0 (pa_cons (pv 0) (pa_cons (pv 0) pa_nil))) (pe_call G_lights_between (hr.mono (by decide)) (by rfl) T.g_lights_between T.F_lights_between.kp T.b_lights_between .nil pass0 (pa_cons (pv 1) (pa_cons (pv 1) pa_nil))) (nomark _)) (pe_one (pe_not (pe_call G_are_like hr (by rfl) T.g_are_like T.F_are_like.kp T.b_are_like .nil pass0 (pa_cons (pv 0) (pa_cons (pv 1) pa_nil))))))))), ?_⟩
    refine ⟨.ref a, rfl, .ref b, rfl, a, b, ns, ms, rfl, hS, hS2, hR, hR2, hl, fun H1 s1 => ?_⟩
    refine ⟨.ref a, rfl, .ref a, rfl, a, a, ns, ns, rfl, s1.seq hS, s1.seq hS, rfl, hR.pos, hR.le, hR.ab, hR.ab.mono (by decide), fun l2 H2 s2 h2 e2 => ?_⟩
    have s12 := s1.trans s2
    refine ⟨.ref b, rfl, .ref b, rfl, b, b, ms, ms, rfl, s12.seq hS2, s12.seq hS2, rfl, hR2.pos, hR2.le, hR2.ab, hR2.ab.mono (by decide), fun l3 H3 s3 h3 e3 => ?_⟩
    have s13 := s12.trans s3
    refine ⟨_, _, dp_ints (SqL.of (s3 _ _ e2)), dp_ints (SqL.of e3), (own_ab hR).shaped, (own_ab hR2).shaped, ?_⟩
    rw [eqv_dI]
    by_cases c : lightsV ns ns = lightsV ms ms
    · rw [decide_eq_true c]
      refine ⟨true, rfl, iteT ?_⟩
      refine ⟨.ref a, rfl, .ref b, rfl, a, b, ns, ms, rfl, s13.seq hS, s13.seq hS2, hR, hR2, hl, fun H4 s4 => ?_⟩
      have z := q H4 (s13.trans s4)
      unfold twB at z
      rw [decide_eq_true c, Bool.true_and] at z
      exact ⟨_, rfl, z⟩
    · have z := q H3 s13
      unfold twB at z
      rw [decide_eq_false c, Bool.false_and] at z
      rw [decide_eq_false c]
      exact ⟨false, rfl, iteF z⟩

def spAllLights (K : PySem.W.Frag) : Sp := fun vs H Q _ => ∃ (a b : Addr) (ns ms : List Int), vs = [.ref a, .ref b] ∧ SqL K H a (ns.map V.int) ∧ SqL K H b (ms.map V.int) ∧
  Rim ns ∧ Rim ms ∧ ns.length = ms.length ∧ ∀ (l : Addr) (H' : Hp), Same H H' → H l = none → H' l = some (.lst ((lightsV ns ms).map V.int)) → Q (.ref l) H'
theorem ok_all_lights (T : Txt K mg) : FnOk P w K mg base CX0 6 T.a_all_lights T.d_all_lights ["disc", "other"] (spAllLights K) := by
  have G_check_discs := ok_check_discs (P := P) (w := w) (base := base) T
  have G_lights_between := ok_lights_between (P := P) (w := w) (base := base) T
  refine T.F_all_lights.ok sc_all_lights (fun vs H Q E h => ?_) (fun cdv A outer s H vs Q E hr h => ?_)
  · obtain ⟨_, _, _, _, rfl, _⟩ := h
    rfl
  · obtain ⟨a, b, ns, ms, rfl, hS, hS2, hR, hR2, hl, q⟩ := h
    refine ⟨_, (pss_cons (ps_expr (pe_call G_check_discs hr (by rfl) T.g_check_discs T.F_check_discs.kp T.b_check_discs .nil pass0 (pa_cons (pv 0) (pa_cons (pv 1) pa_nil))))
      (pss_one (ps_ret (pe_call G_lights_between (hr.mono (by decide)) (by rfl) T.g_lights_between T.F_lights_between.kp T.b_lights_between .nil pass0 (pa_cons (pv 0) (pa_cons (pv 1) pa_nil)))))), ?_⟩
    refine ⟨.ref a, rfl, .ref b, rfl, a, b, ns, ms, rfl, hS, hS2, hR, hR2, hl, fun H1 s1 => ?_⟩
    exact ⟨.ref a, rfl, .ref b, rfl, a, b, ns, ms, rfl, s1.seq hS, s1.seq hS2, hl, hR.pos, hR.le, hR.ab, hR2.ab.mono (by decide), fun l H2 s2 h2 e2 => q l H2 (s1.trans s2) (s1.free h2) e2⟩

/-! ### choices -/
def spBtw : Sp := fun vs H Q _ => ∃ n lo hi : Int, vs = [.int n, .int lo, .int hi] ∧ lo ≤ n ∧ n ≤ hi ∧ Q .non H
theorem ok_check_between (T : Txt K mg) : FnOk P w K mg base CX0 2 T.a_check_between T.d_check_between ["number", "least", "most"] spBtw := by
  have G_is_integer := ok_is_integer (P := P) (w := w) (base := base) T
  refine T.F_check_between.ok sc_check_between (fun vs H Q E h => ?_) (fun cdv A outer s H vs Q E hr h => ?_)
  · obtain ⟨_, _, _, rfl, _⟩ := h
    rfl
  · obtain ⟨n, lo, hi, rfl, h1, h2, q⟩ := h
    refine ⟨_, (pss_one (ps_if (PW.pt (pw_or (pt_not (pt_val (pe_call G_is_integer hr (by rfl) T.g_is_integer T.F_is_integer.kp T.b_is_integer .nil pass0 (pa_cons (pv 0) pa_nil)))) (pw_or1 (pt_not (pt_chain op_le op_le (pv 1) (pv 0) (pv 2)))))) (pss_one ps_never) pss_nil)), ?_⟩
    refine ⟨.int n, rfl, n, rfl, true, rfl, iteF ?_⟩
    refine ⟨.int lo, rfl, .int n, rfl, lo, n, rfl, rfl, _, rfl, ?_⟩
    rw [if_pos (decide_eq_true h1)]
    exact ⟨.int hi, rfl, n, hi, rfl, rfl, _, rfl, iteNS h2 q⟩
def spChoice : Sp := fun vs H Q _ => ∃ n m : Int, vs = [.int n, .int m] ∧ 1 ≤ n ∧ n ≤ 14 ∧ 0 ≤ m ∧ m ≤ n ∧ Q .non H
theorem ok_check_choice (T : Txt K mg) : FnOk P w K mg base CX0 3 T.a_check_choice T.d_check_choice ["slots", "many"] spChoice := by
  have G_check_between := ok_check_between (P := P) (w := w) (base := base) T
  refine T.F_check_choice.ok sc_check_choice (fun vs H Q E h => ?_) (fun cdv A outer s H vs Q E hr h => ?_)
  · obtain ⟨_, _, rfl, _⟩ := h
    rfl
  · obtain ⟨n, m, rfl, h1, h2, h3, h4, q⟩ := h
    refine ⟨_, (pss_cons (ps_expr (pe_call G_check_between hr (by rfl) T.g_check_between T.F_check_between.kp T.b_check_between .nil pass0 (pa_cons (pv 0) (pa_cons pe_int (pa_cons (pe_glob (v := .int (14)) rfl T.g_MOST_LISTED ⟨_, rfl⟩) pa_nil)))))
      (pss_one (ps_expr (pe_call G_check_between hr (by rfl) T.g_check_between T.F_check_between.kp T.b_check_between .nil pass0 (pa_cons (pv 1) (pa_cons pe_int (pa_cons (pv 0) pa_nil))))))), ?_⟩
    exact ⟨.int n, rfl, n, 1, 14, rfl, h1, h2, .int m, rfl, .int n, rfl, m, 0, n, rfl, h3, h4, q⟩

theorem cut_drop (ns : List Int) (s : Int) (h0 : 0 ≤ s) : cutV (ns.map V.int) (some s) none = (ns.drop s.toNat).map V.int := by
  obtain ⟨k, rfl⟩ : ∃ k : Nat, s = (k : Int) := ⟨s.toNat, by omega⟩
  unfold cutV
  rw [HT.sIx_none, HT.sIx_nat, Int.toNat_natCast, List.map_drop]
  rcases Nat.le_total k (ns.map V.int).length with z | z
  · rw [Nat.min_eq_left z, List.take_of_length_le (by rw [List.length_drop]; omega)]
  · rw [Nat.min_eq_right z, List.drop_of_length_le (Nat.le_refl _), List.drop_of_length_le z, List.take_nil]

/-! ### flat lights -/
def flatB (ns : List Int) : Bool := match ns.drop 1 with
  | [] => true
  | x :: r => r.all fun y => decide (y = x)
theorem flatB_iff (ns : List Int) : flatB ns = true ↔ ∀ x ∈ ns.drop 1, ∀ y ∈ ns.drop 1, x = y := by
  unfold flatB
  cases ns.drop 1 with
  | nil => exact ⟨fun _ x hx => (List.not_mem_nil hx).elim, fun _ => rfl⟩
  | cons z r =>
    constructor
    · intro h
      have key : ∀ x ∈ z :: r, x = z := fun x hx => by
        rcases List.mem_cons.mp hx with e | m
        · exact e
        · exact of_decide_eq_true (List.all_eq_true.mp h x m)
      exact fun x hx y hy => (key x hx).trans (key y hy).symm
    · intro h
      exact List.all_eq_true.mpr fun y hy => decide_eq_true (h y (List.mem_cons_of_mem _ hy) z List.mem_cons_self)
theorem few_flat {ns : List Int} {c : Nat} (h : ∃ L : List Int, L.Nodup ∧ L.length = c ∧ ∀ k, decide (k ∈ ns.drop 1) = true ↔ k ∈ L) : decide ((c : Int) ≤ 1) = flatB ns := by
  obtain ⟨L, hn, rfl, hm⟩ := h
  cases e : flatB ns with
  | true =>
    have hf := (flatB_iff ns).mp e
    refine decide_eq_true ?_
    match L, hn, hm with
    | [], _, _ => decide
    | [x], _, _ => exact Int.le_refl _
    | x :: y :: L, hn, hm =>
      have hx := of_decide_eq_true ((hm x).mpr List.mem_cons_self)
      have hy := of_decide_eq_true ((hm y).mpr (List.mem_cons_of_mem _ List.mem_cons_self))
      exact absurd (hf x hx y hy) ((List.pairwise_cons.mp hn).1 y List.mem_cons_self)
  | false =>
    refine decide_eq_false fun z => ?_
    have : flatB ns = true := (flatB_iff ns).mpr fun x hx y hy => by
      have h1 := (hm x).mp (decide_eq_true hx)
      have h2 := (hm y).mp (decide_eq_true hy)
      match L, z, h1, h2 with
      | [], _, h1, _ => exact (List.not_mem_nil h1).elim
      | [w], _, h1, h2 => rw [List.mem_singleton.mp h1, List.mem_singleton.mp h2]
      | _ :: _ :: _, z, _, _ =>
        simp only [List.length_cons] at z
        omega
    rw [this] at e
    cases e
def spAreFlat (K : PySem.W.Frag) : Sp := fun vs H Q _ => ∃ (a : Addr) (ns : List Int), vs = [.ref a] ∧ SqL K H a (ns.map V.int) ∧ ns.length ≤ 40 ∧ ∀ (H' : Hp), Same H H' → Q (.bl (flatB ns)) H'
theorem ok_are_flat (T : Txt K mg) : FnOk P w K mg base CX0 1 T.a_are_flat T.d_are_flat ["lights"] (spAreFlat K) := by
  refine T.F_are_flat.ok sc_are_flat (fun vs H Q E h => ?_) (fun cdv A outer s H vs Q E hr h => ?_)
  · obtain ⟨_, _, rfl, _⟩ := h
    rfl
  · obtain ⟨a, ns, rfl, hS, hl, q⟩ := h
    refine ⟨_, (pss_one (ps_ret (pe_cmpR op_le (pe_callB (cr_lenS rfl) (by rfl) T.n_len (by decide +kernel) (pa_cons (pe_callTy (setOfIL (K := K) (w := w) rfl rfl rfl) (by rfl) T.n_set (by decide +kernel) (pa_cons (pe_slice (slL (K := K) rfl) (pv 0) (po_some pe_int) po_none) pa_nil)) pa_nil)) pe_int (nomark _)))), ?_⟩
    refine ⟨.ref a, rfl, 1, rfl, a, _, rfl, hS, fun l1 h1 => ?_⟩
    have g1 : (upd H l1 (.lst (cutV (ns.map V.int) (some 1) none))) l1 = some (.lst ((ns.drop 1).map V.int)) := by rw [upd_same, cut_drop ns 1 (by decide)]; rfl
    refine ⟨l1, _, rfl, SqL.of g1, by rw [List.length_drop]; omega, fun b c hb hc => ⟨b, _, c, rfl, upd_same, fun hL => ?_⟩⟩
    refine ⟨_, _, rfl, rfl, ?_⟩
    have e := few_flat hL
    dsimp only
    rw [e]
    exact q _ ((new_same h1).trans (new_same hb))
def spIsFlat (K : PySem.W.Frag) : Sp := fun vs H Q _ => ∃ (a : Addr) (ns : List Int), vs = [.ref a] ∧ SqL K H a (ns.map V.int) ∧ Rim ns ∧ ∀ (H' : Hp), Same H H' → Q (.bl (flatB (lightsV ns ns))) H'
theorem ok_is_flat (T : Txt K mg) : FnOk P w K mg base CX0 5 T.a_is_flat T.d_is_flat ["disc"] (spIsFlat K) := by
  have G_check_disc := ok_check_disc (P := P) (w := w) (base := base) T
  have G_lights_between := ok_lights_between (P := P) (w := w) (base := base) T
  have G_are_flat := ok_are_flat (P := P) (w := w) (base := base) T
  refine T.F_is_flat.ok sc_is_flat (fun vs H Q E h => ?_) (fun cdv A outer s H vs Q E hr h => ?_)
  · obtain ⟨_, _, rfl, _⟩ := h
    rfl
  · obtain ⟨a, ns, rfl, hS, hR, q⟩ := h
    refine ⟨_, (pss_cons (ps_expr (pe_call G_check_disc hr (by rfl) T.g_check_disc T.F_check_disc.kp T.b_check_disc .nil pass0 (pa_cons (pv 0) pa_nil)))
      (pss_one (ps_ret (pe_call G_are_flat (hr.mono (by decide)) (by rfl) T.g_are_flat T.F_are_flat.kp T.b_are_flat .nil pass0 (pa_cons (pe_call G_lights_between (hr.mono (by decide)) (by rfl) T.g_lights_between T.F_lights_between.kp T.b_lights_between .nil pass0 (pa_cons (pv 0) (pa_cons (pv 0) pa_nil))) pa_nil))))), ?_⟩
    refine ⟨.ref a, rfl, a, ns, rfl, hS, hR, fun H1 s1 => ?_⟩
    refine ⟨.ref a, rfl, .ref a, rfl, a, a, ns, ns, rfl, s1.seq hS, s1.seq hS, rfl, hR.pos, hR.le, hR.ab, hR.ab.mono (by decide), fun l H2 s2 fl gl => ?_⟩
    exact ⟨l, _, rfl, SqL.of gl, by rw [lightsV_len]; exact hR.le, fun H3 s3 => q H3 ((s1.trans s2).trans s3)⟩

/-! ### the least turn, the least list -/
def spFirstTurn (K : PySem.W.Frag) : Sp := fun vs H Q _ => ∃ (a b : Addr) (ns ms : List Int), vs = [.ref a, .ref b] ∧ SqL K H a (ns.map V.int) ∧ SqL K H b (ms.map V.int) ∧ Rim ns ∧ Rim ms ∧
  ∀ H', Same H H' → Q (headV (hits ns ms 0 ns.length)) H'
theorem ok_first_turn (T : Txt K mg) : FnOk P w K mg base CX0 2 T.a_first_turn T.d_first_turn ["disc", "other"] (spFirstTurn K) := by
  have G_turned_list := ok_turned_list (P := P) (w := w) (base := base) T
  refine T.F_first_turn.ok sc_first_turn (fun vs H Q E h => ?_) (fun cdv A outer s H vs Q E hr h => ?_)
  · obtain ⟨_, _, _, _, rfl, _⟩ := h
    rfl
  · obtain ⟨a, b, ns, ms, rfl, hS, hS2, hR, hR2, q⟩ := h
    refine ⟨_, (pss_cons (ps_for PassesOwn.never rfl (pi_range1 (by rfl) T.n_range (pa_cons (pe_callB (lenL (K := K) rfl) (by rfl) T.n_len (by decide +kernel) (pa_cons (pv 0) pa_nil)) pa_nil)) (pg_name (i := 2) sc_first_turn.nd rfl (.inl rfl)) (pss_one (ps_if (pt_cmpR (eqD (K := K) rfl hr) (pe_call G_turned_list hr (by rfl) T.g_turned_list T.F_turned_list.kp T.b_turned_list .nil pass0 (pa_cons (pv 0) (pa_cons (pv 2) pa_nil))) (pv 1) (nomark _)) (pss_one (ps_ret (pv 2))) pss_nil)))
      (pss_one (ps_ret pe_non))), ?_⟩
    have l40 := hR.le
    refine ⟨.ref a, rfl, a, _, rfl, .inl hS, ?_⟩
    rw [List.length_map]
    refine ⟨ns.length, rfl, by omega, by omega, for_range (lo := 0) (n := ((ns.length : Nat) : Int).toNat)
      (fun i σ H' => ∃ y : Option V, σ = [some (.ref a), some (.ref b), y] ∧ Same H H' ∧ hits ns ms 0 i = []) ⟨none, rfl, Same.refl H, rfl⟩ (fun i σ H1 hi hP => ?_) (fun σ H1 hP => ?_)⟩
    · obtain ⟨y, rfl, s1, h0⟩ := hP
      rw [Int.toNat_natCast] at hi
      refine ⟨.ref a, rfl, .int (0 + i), rfl, a, ns, 0 + i, rfl, s1.seq hS, hR.pos, by omega, fun l H2 s2 hl hl2 => ?_⟩
      have s12 := s1.trans s2
      refine ⟨.ref b, rfl, dI (rot ns (0 + i)), dI ms, dp_ints (SqL.of hl2), dp_ints (s12.seq hS2), (hR.rot _).rp.shaped, hR2.rp.shaped, ?_⟩
      rw [eqv_dI]
      refine ⟨_, rfl, ite2 (fun h => ?_) (fun h => ?_)⟩
      · have h := of_decide_eq_true h
        obtain ⟨r, e⟩ := hits_head h0 h hi
        have z := q H2 s12
        rw [e] at z
        exact ⟨_, rfl, z⟩
      · have h : ¬ rot ns (0 + (i : Int)) = ms := fun z => h (decide_eq_true z)
        refine ⟨_, rfl, s12, ?_⟩
        rw [hits_no h]
        exact h0
    · obtain ⟨y, rfl, s1, h0⟩ := hP
      rw [Int.toNat_natCast] at h0
      have z := q H1 s1
      rw [h0] at z
      exact z

def spBetween (K : PySem.W.Frag) : Sp := fun vs H Q _ => ∃ (a b : Addr) (ns ms : List Int), vs = [.ref a, .ref b] ∧ SqL K H a (ns.map V.int) ∧ SqL K H b (ms.map V.int) ∧ Rim ns ∧ Rim ms ∧ ns.length = ms.length ∧
  ∀ H', Same H H' → Q (headV (hits ns ms 0 ns.length)) H'
theorem ok_turn_between (T : Txt K mg) : FnOk P w K mg base CX0 6 T.a_turn_between T.d_turn_between ["disc", "other"] (spBetween K) := by
  have G_check_discs := ok_check_discs (P := P) (w := w) (base := base) T
  have G_first_turn := ok_first_turn (P := P) (w := w) (base := base) T
  refine T.F_turn_between.ok sc_turn_between (fun vs H Q E h => ?_) (fun cdv A outer s H vs Q E hr h => ?_)
  · obtain ⟨_, _, _, _, rfl, _⟩ := h
    rfl
  · obtain ⟨a, b, ns, ms, rfl, hS, hS2, hR, hR2, hl, q⟩ := h
    refine ⟨_, (pss_cons (ps_expr (pe_call G_check_discs hr (by rfl) T.g_check_discs T.F_check_discs.kp T.b_check_discs .nil pass0 (pa_cons (pv 0) (pa_cons (pv 1) pa_nil))))
      (pss_one (ps_ret (pe_call G_first_turn (hr.mono (by decide)) (by rfl) T.g_first_turn T.F_first_turn.kp T.b_first_turn .nil pass0 (pa_cons (pv 0) (pa_cons (pv 1) pa_nil)))))), ?_⟩
    refine ⟨.ref a, rfl, .ref b, rfl, a, b, ns, ms, rfl, hS, hS2, hR, hR2, hl, fun H1 s1 => ?_⟩
    exact ⟨.ref a, rfl, .ref b, rfl, a, b, ns, ms, rfl, s1.seq hS, s1.seq hS2, hR, hR2, fun H2 s2 => q H2 (s1.trans s2)⟩

/-! ### _law_multiplied, multiplied_disc, shut_disc -/
def spLMult (K : PySem.W.Frag) : Sp := fun vs H Q _ => ∃ (a : Addr) (ns : List Int) (f : Int), vs = [.ref a, .int f] ∧ SqL K H a (ns.map V.int) ∧ Rim ns ∧ Nat.gcd f.natAbs ns.length = 1 ∧
  ∀ (l : Addr) (H' : Hp), Same H H' → H l = none → H' l = some (.lst ((multL ns f).map V.int)) → Q (.ref l) H'
theorem ok_multiplied_list (T : Txt K mg) : FnOk P w K mg base CX0 1 T.a_multiplied_list T.d_multiplied_list ["items", "factor"] (spLMult K) := by
  refine T.F_multiplied_list.ok sc_multiplied_list (fun vs H Q E h => ?_) (fun cdv A outer s H vs Q E hr h => ?_)
  · obtain ⟨_, _, _, rfl, _⟩ := h
    rfl
  · obtain ⟨a, ns, f, rfl, hS, hR, hg, q⟩ := h
    refine ⟨_, (pss_cons (ps_set (i := 2) sc_multiplied_list.nd rfl (.inl rfl) (pe_callB (lenL (K := K) rfl) (by rfl) T.n_len (by decide +kernel) (pa_cons (pv 0) pa_nil)))
      (pss_cons (ps_set (i := 3) sc_multiplied_list.nd rfl (.inl rfl) (pe_callTy (listL (K := K) rfl) (by rfl) T.n_list (by decide +kernel) (pa_cons (pv 0) pa_nil)))
      (pss_cons (ps_for PassesOwn.never rfl (enumL (K := K) rfl (by rfl) T.n_enumerate (pa_cons (pv 0) pa_nil)) (pg_tupL (K := K) (n := 2) rfl rfl (pgs_cons (pg_name (i := 4) sc_multiplied_list.nd rfl (.inl rfl)) (pgs_cons (pg_name (i := 5) sc_multiplied_list.nd rfl (.inl rfl)) pgs_nil))) (pss_one (ps_asg (pv 5) (pg_sub (pv 3) (pe_op op_mod (pe_op op_mul (pv 1) (pv 4)) (pv 2)) set_list))))
      (pss_one (ps_ret (pv 3)))))), ?_⟩
    have l40 := hR.le
    have l1 := hR.pos
    refine ⟨.ref a, rfl, a, _, rfl, .inl hS, ?_⟩
    rw [List.length_map]
    refine ⟨.ref a, rfl, a, _, rfl, .inl hS, fun D fD => ?_⟩
    have s1 := new_same (o := .lst (ns.map V.int)) fD
    have gD : (upd H D (.lst (ns.map V.int))) D = some (.lst (ns.map V.int)) := upd_same
    generalize upd H D (.lst (ns.map V.int)) = H1 at s1 gD ⊢
    refine ⟨.ref a, rfl, a, _, rfl, s1.seq hS, for_it (walk_enum (K := K) (xs := ns.map V.int)) (fun i σ H' => ∃ (y1 y2 : Option V) (vs : List V), σ = [some (.ref a), some (.int f), some (.int ns.length), some (.ref D), y1, y2] ∧ Same H H' ∧ H' D = some (.lst vs) ∧ FilledV (plc f ns.length) (multL ns f) vs i)
      ⟨none, none, _, rfl, s1, gD, by rw [List.length_map, mult_len], fun p ⟨j, hj, _⟩ => absurd hj (Nat.not_lt_zero j)⟩ (fun i σ H' _ ⟨_, _, _, _, s2, _⟩ => s2.seq hS) (fun i x σ H2 H3 hi hP hY => ?_) (fun σ H2 hP => ?_)⟩
    · obtain ⟨y1, y2, vs, rfl, s2, g2, hF⟩ := hP
      obtain ⟨p, z1, z2, rfl, hp, rfl, e1, e2⟩ := hY
      have e1 : V.int (i : Int) = z1 := Option.some.inj e1
      subst e1
      obtain ⟨n, hn, rfl⟩ := int_at e2
      have hin : i < ns.length := by rw [List.length_map] at hi; exact hi
      refine ⟨p, _, rfl, SqT.of upd_same, rfl, _, _, rfl, _, _, rfl, rfl, ?_⟩
      have s3 := s2.trans (new_same (o := .tup [.int i, .int n]) hp)
      have g3 := new_same (o := .tup [.int i, .int n]) hp _ _ g2
      have pl := plc_lt (f := f) (n := ns.length) (by omega) i
      refine ⟨.int n, rfl, .ref D, rfl, .int f, rfl, .int i, rfl, f, i, rfl, rfl, .inr ⟨by omega, by omega⟩, .int ns.length, rfl, _, _, rfl, rfl, (by show (0 : Int) < _; omega), ?_⟩
      have hm := mod_in (i := f * (i : Int)) (show 0 < ns.length by omega)
      refine ⟨D, _, _, plc f ns.length i, rfl, rfl, g3, ixN_in hm.1 (by rw [hF.1, mult_len]; omega), ?_⟩
      exact ⟨_, _, _, rfl, same_over s3 fD, upd_same, hF.step ((mult_back hg hin).trans hn)⟩
    · obtain ⟨y1, y2, vs, rfl, s2, g2, hF⟩ := hP
      rw [List.length_map] at hF
      have e := hF.done fun p hp => plc_on hg (by rw [mult_len] at hp; exact hp)
      subst e
      exact ⟨.ref D, rfl, q D H2 s2 fD g2⟩

/-! ### flat_turns -/
def spFlat (K : PySem.W.Frag) : Sp := fun vs H Q _ => ∃ (a : Addr) (ns : List Int), vs = [.ref a] ∧ SqL K H a (ns.map V.int) ∧ Rim ns ∧
  ∀ (l : Addr) (H' : Hp), Same H H' → H l = none → H' l = some (.lst ((flatL ns).map V.int)) → Q (.ref l) H'
theorem ok_flat_turns (T : Txt K mg) : FnOk P w K mg base CX0 7 T.a_flat_turns T.d_flat_turns ["disc"] (spFlat K) := by
  have G_check_disc := ok_check_disc (P := P) (w := w) (base := base) T
  have G_turn_between := ok_turn_between (P := P) (w := w) (base := base) T
  have G_multiplied_list := ok_multiplied_list (P := P) (w := w) (base := base) T
  refine T.F_flat_turns.ok sc_flat_turns (fun vs H Q E h => ?_) (fun cdv A outer s H vs Q E hr h => ?_)
  · obtain ⟨_, _, rfl, _⟩ := h
    rfl
  · obtain ⟨a, ns, rfl, hS, hR, q⟩ := h
    refine ⟨_, (pss_cons (ps_expr (pe_call G_check_disc (hr.mono (by decide)) (by rfl) T.g_check_disc T.F_check_disc.kp T.b_check_disc .nil pass0 (pa_cons (pv 0) pa_nil)))
      (pss_cons (ps_set (i := 1) sc_flat_turns.nd rfl (.inr rfl) (pe_callB (lenL (K := K) rfl) (by rfl) T.n_len (by decide +kernel) (pa_cons (pv 0) pa_nil)))
      (pss_cons (ps_setLc (i := 2) (own := [("factor", 3)]) (g := gName 3) (by rfl) sc_flat_turns.nd rfl rfl (sw_true rfl rfl rfl (by decide +kernel)) (pi_range2 (by rfl) T.n_range (pa_cons pe_int (pa_cons (pe_callB (call_max2 rfl) (by rfl) T.n_max (by decide +kernel) (pa_cons (pv 1) (pa_cons pe_int pa_nil))) pa_nil))) (blkOk_by (own := [("factor", 3)]) (N := ["disc", "slots", "factors", "factor"]) (sc := defScope s_flat_turns) (by decide +kernel))
        (fun _ _ _ _ _ => (pg_name (i := 3) sc_flat_turns.nd rfl (Or.inl rfl))) (fun _ _ _ _ _ => (pts_one (pt_cmpR op_eq (pe_callBfun cr_gcd (by rfl) T.i_gcd (pa_cons (pv 3) (pa_cons (pv 1) pa_nil))) pe_int (nomark _)))) (fun _ _ _ _ _ => (pv 3)))
      (pss_one (ps_ret (pe_lc (own := [("factor", 3)]) (g := gName 3) (by rfl) sc_flat_turns.nd (pi_listL (K := K) rfl (pv 2)) (blkOk_by (own := [("factor", 3)]) (N := ["disc", "slots", "factors", "factor"]) (sc := defScope s_flat_turns) (by decide +kernel))
        (fun _ _ _ _ _ => (pg_name (i := 3) sc_flat_turns.nd rfl (Or.inl rfl))) (fun _ _ _ _ _ => (pts_one (pt_cmpR op_notN (pe_call G_turn_between hr (by rfl) T.g_turn_between T.F_turn_between.kp T.b_turn_between .nil pass0 (pa_cons (pv 0) (pa_cons (pe_call G_multiplied_list (hr.mono (by decide)) (by rfl) T.g_multiplied_list T.F_multiplied_list.kp T.b_multiplied_list .nil pass0 (pa_cons (pv 0) (pa_cons (pv 3) pa_nil))) pa_nil))) pe_non (nomark _)))) (fun _ _ _ _ _ => (pv 3)))))))), ?_⟩
    have l40 := hR.le
    have lp := hR.pos
    have tl := topF_le l40
    refine ⟨.ref a, rfl, a, ns, rfl, hS, hR, fun H1 s1 => ?_⟩
    refine ⟨.ref a, rfl, a, _, rfl, .inl (s1.seq hS), ?_⟩
    rw [List.length_map]
    refine ⟨.int ns.length, rfl, ns.length, 2, rfl, 1, _, rfl, ⟨by decide, by decide, by split <;> omega, by split <;> omega⟩, fun F hF => ?_⟩
    show ∃ W : Nat → Nat → Hp → Prop, _
    refine lc_range (lo := 1) (n := topF ns.length) (fun i H' => Same H1 H' ∧ H' F = some (.lst ((selL (fun f => decide (Nat.gcd f.natAbs ns.length = 1)) 1 i).map V.int)))
      ⟨new_same hF, upd_same⟩ (fun i H2 hi hP => ⟨rfl, ?_⟩) (fun H2 hP => ?_)
    · obtain ⟨s2, g2⟩ := hP
      have hl := selL_len (fun f => decide (Nat.gcd f.natAbs ns.length = 1)) 1 i
      refine ⟨.int (1 + i), rfl, .int ns.length, rfl, 1 + i, ns.length, rfl, rfl, _, rfl, ite2 (fun h => ?_) (fun h => ?_)⟩
      · have hg : Nat.gcd (1 + (i : Int)).natAbs ns.length = 1 := by
          have e := V.int.inj (of_decide_eq_true h)
          have e2 : ((Nat.gcd (1 + (i : Int)).natAbs (ns.length : Int).natAbs : Nat) : Int) = 1 := e
          rw [Int.natAbs_natCast] at e2
          omega
        refine ⟨.int (1 + i), rfl, _, g2, by rw [List.length_map]; exact sz40 (by omega), same_over s2 hF, ?_⟩
        rw [upd_same, selL_yes (decide_eq_true hg), List.map_append]
        rfl
      · refine ⟨s2, ?_⟩
        rw [selL_no (fun e => h (by
          have e2 := of_decide_eq_true e
          rw [Int.natAbs_natCast, e2]
          rfl))]
        exact g2
    obtain ⟨s2, g2⟩ := hP
    have s12 := s1.trans s2
    have fF := s1.free hF
    simp only [List.set_cons_zero, List.set_cons_succ]
    refine ⟨.ref F, rfl, F, rfl, ⟨_, SqL.of g2⟩, fun D hD => ?_⟩
    refine lc_list (K := K) (a := F) (xs := (facL ns.length).map V.int) (fun i H' => Same H2 H' ∧ H' D = some (.lst ((((facL ns.length).take i).filter fun f => decide (multL ns f ∈ turnsL ns)).map V.int)))
      ⟨new_same hD, upd_same⟩ (fun i H' _ hP => SqL.of (hP.1 _ _ g2)) (fun i x H3 hx hP => ⟨rfl, ?_⟩) (fun H3 hP => ?_)
    · obtain ⟨s3, g3⟩ := hP
      obtain ⟨f, hf, rfl⟩ := int_at hx
      have hg := fac_gcd (List.mem_of_getElem? hf)
      have s13 := s12.trans s3
      have et : (facL ns.length).take (i + 1) = (facL ns.length).take i ++ [f] := by
        rw [List.take_add_one, hf]
        rfl
      have ht : ((facL ns.length).take i).length ≤ 39 := Nat.le_trans (List.length_take_le' _ _) (Nat.le_trans (selL_len _ _ _) tl)
      have hl : (((facL ns.length).take i).filter fun f => decide (multL ns f ∈ turnsL ns)).length ≤ 39 := Nat.le_trans (List.length_filter_le _ _) ht
      refine ⟨.ref a, rfl, .ref a, rfl, .int f, rfl, a, ns, f, rfl, s13.seq hS, hR, hg, fun l H4 s4 f4 e4 => ?_⟩
      refine ⟨a, l, ns, multL ns f, rfl, (s13.trans s4).seq hS, SqL.of e4, hR, hR.mult hg, by rw [mult_len], fun H5 s5 => ?_⟩
      refine ⟨rfl, _, rfl, ?_⟩
      have s35 := (s3.trans s4).trans s5
      have g5 := (s4.trans s5) _ _ g3
      by_cases hm : multL ns f ∈ turnsL ns
      · have hn : ¬ headV (hits ns (multL ns f) 0 ns.length) = V.non := fun e => (hits_turns lp).mp e hm
        show (if (!decide (headV (hits ns (multL ns f) 0 ns.length) = V.non)) = true then _ else _)
        rw [decide_eq_false hn]
        refine iteT ?_
        refine ⟨.int f, rfl, _, g5, by rw [List.length_map]; exact sz40 (by omega), same_over s35 hD, ?_⟩
        rw [upd_same, et, List.filter_append, List.map_append]
        have e1 : List.filter (fun f => decide (multL ns f ∈ turnsL ns)) [f] = [f] := by
          rw [List.filter_cons, if_pos (decide_eq_true hm)]
          rfl
        rw [e1]
        rfl
      · show (if (!decide (headV (hits ns (multL ns f) 0 ns.length) = V.non)) = true then _ else _)
        rw [decide_eq_true ((hits_turns lp).mpr hm)]
        refine iteF ⟨s35, ?_⟩
        have e1 : List.filter (fun f => decide (multL ns f ∈ turnsL ns)) [f] = [] := by
          rw [List.filter_cons, if_neg (fun e => hm (of_decide_eq_true e))]
          rfl
        rw [et, List.filter_append, e1, List.append_nil]
        exact g5
    · obtain ⟨s3, g3⟩ := hP
      rw [List.length_map, List.take_of_length_le (Nat.le_refl _)] at g3
      exact q D H3 (s12.trans s3) (s12.free hD) g3

/-! ### the lights of open slots are those of their disc -/
def opn (n : Nat) (l : List Nat) : List Int := (List.range n).map fun i => if i ∈ l then 1 else 0
theorem opn_len (n : Nat) (l : List Nat) : (opn n l).length = n := by
  unfold opn
  rw [List.length_map, List.length_range]
theorem opn_get {n i : Nat} {l : List Nat} (h : i < n) : (opn n l).getD i 0 = if i ∈ l then 1 else 0 := by
  unfold opn
  rw [List.getD_eq_getElem?_getD, List.getElem?_map, List.getElem?_range h]
  rfl
theorem sum_zero : ∀ (xs : List Nat) (h : Nat → Int), (∀ x ∈ xs, h x = 0) → (xs.map h).sum = 0
  | [], _, _ => rfl
  | x :: xs, h, e => by
    rw [List.map_cons, List.sum_cons, e x List.mem_cons_self, sum_zero xs h fun y hy => e y (List.mem_cons_of_mem _ hy)]
    rfl
theorem sum_add : ∀ (xs : List Nat) (h g : Nat → Int), (xs.map fun x => h x + g x).sum = (xs.map h).sum + (xs.map g).sum
  | [], _, _ => rfl
  | x :: xs, h, g => by
    rw [List.map_cons, List.sum_cons, List.map_cons, List.sum_cons, List.map_cons, List.sum_cons, sum_add xs h g]
    omega
theorem sum_one : ∀ (xs : List Nat) (h : Nat → Int) (a : Nat), xs.Nodup → a ∈ xs → (xs.map fun x => if x = a then h x else 0).sum = h a
  | [], _, _, _, m => nomatch m
  | x :: xs, h, a, nd, m => by
    rw [List.map_cons, List.sum_cons]
    rw [List.nodup_cons] at nd
    by_cases e : x = a
    · subst e
      rw [if_pos rfl, sum_zero xs _ fun y hy => if_neg fun (z : y = x) => nd.1 (z ▸ hy)]
      omega
    · rw [if_neg e, sum_one xs h a nd.2 ((List.mem_cons.mp m).resolve_left fun z => e z.symm)]
      omega
theorem sum_ind (n : Nat) (h : Nat → Int) : ∀ l : List Nat, l.Nodup → (∀ x ∈ l, x < n) → ((List.range n).map fun i => if i ∈ l then h i else 0).sum = (l.map h).sum
  | [], _, _ => sum_zero _ _ fun x _ => if_neg (List.not_mem_nil)
  | a :: l, nd, hl => by
    rw [List.nodup_cons] at nd
    rw [List.map_cons, List.sum_cons, ← sum_ind n h l nd.2 fun x hx => hl x (List.mem_cons_of_mem _ hx), ← sum_one (List.range n) h a List.nodup_range (List.mem_range.mpr (hl a List.mem_cons_self)), ← sum_add]
    congr 1
    apply List.map_congr_left
    intro i _
    by_cases e : i = a
    · subst e
      rw [if_pos List.mem_cons_self, if_pos rfl, if_neg nd.1]
      omega
    · rw [if_neg e]
      by_cases m : i ∈ l
      · rw [if_pos (List.mem_cons_of_mem _ m), if_pos m]
        omega
      · rw [if_neg m, if_neg fun z => (List.mem_cons.mp z).elim e m]
        rfl
theorem count_one (c : Nat) : ∀ l : List Nat, l.Nodup → (l.map fun g => if g = c then (1 : Int) else 0).sum = if c ∈ l then 1 else 0 := fun l nd => by
  by_cases m : c ∈ l
  · rw [sum_one l (fun _ => 1) c nd m, if_pos m]
  · rw [if_neg m, sum_zero l _ fun x hx => if_neg fun (z : x = c) => m (z ▸ hx)]
theorem diff_iff {n f g j : Nat} (hg : g < n) (hj : j < n) : ((((f : Int) - g) % (n : Int)).toNat = j) ↔ g = (((f : Int) - j) % (n : Int)).toNat := by
  have hn : (0 : Int) < n := by omega
  have a1 := Int.emod_nonneg ((f : Int) - g) (by omega : (n : Int) ≠ 0)
  have a2 := Int.emod_nonneg ((f : Int) - j) (by omega : (n : Int) ≠ 0)
  constructor
  · intro h
    have e : ((f : Int) - g) % n = j := by omega
    have : ((f : Int) - j) % n = g := by
      rw [← e, Int.sub_emod, Int.emod_emod, ← Int.sub_emod, show (f : Int) - (f - g) = g by omega]
      exact Int.emod_eq_of_lt (by omega) (by omega)
    omega
  · intro h
    have e : ((f : Int) - j) % n = g := by omega
    have : ((f : Int) - g) % n = j := by
      rw [← e, Int.sub_emod, Int.emod_emod, ← Int.sub_emod, show (f : Int) - (f - j) = j by omega]
      exact Int.emod_eq_of_lt (by omega) (by omega)
    omega
/-- one step of opened_lights -/
def bump (n : Nat) (ms : List Int) (f g : Nat) : List Int := ms.set (((f : Int) - g) % (n : Int)).toNat (ms.getD (((f : Int) - g) % (n : Int)).toNat 0 + 1)
theorem bump_len (n : Nat) (ms : List Int) (f g : Nat) : (bump n ms f g).length = ms.length := List.length_set
theorem bump_get {n f g j : Nat} {ms : List Int} (hm : ms.length = n) (hj : j < n) : (bump n ms f g).getD j 0 = ms.getD j 0 + if (((f : Int) - g) % (n : Int)).toNat = j then 1 else 0 := by
  unfold bump
  rw [List.getD_eq_getElem?_getD, List.getElem?_set]
  by_cases e : (((f : Int) - g) % (n : Int)).toNat = j
  · rw [if_pos e, if_pos e, if_pos (by omega), e]
    rfl
  · rw [if_neg e, if_neg e, List.getD_eq_getElem?_getD]
    omega
def row1 (n : Nat) (ms : List Int) (f : Nat) (l : List Nat) : List Int := l.foldl (fun ms g => bump n ms f g) ms
theorem row1_len (n f : Nat) : ∀ (l : List Nat) (ms : List Int), (row1 n ms f l).length = ms.length
  | [], _ => rfl
  | g :: l, ms => by
    show (row1 n (bump n ms f g) f l).length = _
    rw [row1_len n f l, bump_len]
theorem row1_get {n f j : Nat} (hj : j < n) : ∀ (l : List Nat) (ms : List Int), ms.length = n → (row1 n ms f l).getD j 0 = ms.getD j 0 + (l.map fun (g : Nat) => if (((f : Int) - g) % (n : Int)).toNat = j then (1 : Int) else 0).sum
  | [], ms, _ => by
    show ms.getD j 0 = ms.getD j 0 + 0
    omega
  | g :: l, ms, hm => by
    show (row1 n (bump n ms f g) f l).getD j 0 = _
    rw [row1_get hj l _ (by rw [bump_len, hm]), bump_get hm hj, List.map_cons, List.sum_cons]
    omega
def rowsL (n : Nat) (ms : List Int) (l : List Nat) (fs : List Nat) : List Int := fs.foldl (fun ms f => row1 n ms f l) ms
theorem rowsL_len (n : Nat) (l : List Nat) : ∀ (fs : List Nat) (ms : List Int), (rowsL n ms l fs).length = ms.length
  | [], _ => rfl
  | f :: fs, ms => by
    show (rowsL n (row1 n ms f l) l fs).length = _
    rw [rowsL_len n l fs, row1_len]
theorem rowsL_get {n j : Nat} {l : List Nat} (hj : j < n) : ∀ (fs : List Nat) (ms : List Int), ms.length = n → (rowsL n ms l fs).getD j 0 = ms.getD j 0 + (fs.map fun (f : Nat) => (l.map fun (g : Nat) => if (((f : Int) - g) % (n : Int)).toNat = j then (1 : Int) else 0).sum).sum
  | [], ms, _ => by
    show ms.getD j 0 = ms.getD j 0 + 0
    omega
  | f :: fs, ms, hm => by
    show (rowsL n (row1 n ms f l) l fs).getD j 0 = _
    rw [rowsL_get hj fs _ (by rw [row1_len, hm]), row1_get hj l ms hm, List.map_cons, List.sum_cons]
    omega
theorem prods_opn {n : Nat} {l : List Nat} {m : List Int} (hm : m.length = n) : (prods (opn n l) m).sum = ((List.range n).map fun i => if i ∈ l then m.getD i 0 else 0).sum := by
  have em : m = (List.range n).map fun i => m.getD i 0 := by
    refine ext_getD (by rw [List.length_map, List.length_range, hm]) fun j hj => ?_
    rw [List.getD_eq_getElem?_getD (l := (List.range n).map _), List.getElem?_map, List.getElem?_range (by omega)]
    rfl
  have e : prods (opn n l) m = (List.range n).map fun i => if i ∈ l then m.getD i 0 else 0 := by
    refine ext_getD (by rw [prods_len, opn_len, List.length_map, List.length_range, hm, Nat.min_self]) fun j hj => ?_
    rw [prods_len, opn_len, hm, Nat.min_self] at hj
    rw [prods_get (by rw [opn_len]; exact hj) (by omega), opn_get hj, List.getD_eq_getElem?_getD (l := (List.range n).map _), List.getElem?_map, List.getElem?_range hj]
    show _ = if j ∈ l then m.getD j 0 else 0
    by_cases c : j ∈ l
    · rw [if_pos c, if_pos c, Int.one_mul]
    · rw [if_neg c, if_neg c, Int.zero_mul]
  rw [e]
/-- what opened_lights counts are the lights of the disc -/
theorem opened_own {n : Nat} {l : List Nat} (hn : 1 ≤ n) (nd : l.Nodup) (hl : ∀ x ∈ l, x < n) : rowsL n (List.replicate n 0) l l = lightsV (opn n l) (opn n l) := by
  refine ext_getD (by rw [rowsL_len, List.length_replicate, lightsV_len, opn_len]) fun j hj => ?_
  rw [rowsL_len, List.length_replicate] at hj
  rw [rowsL_get hj l _ List.length_replicate]
  have e0 : (List.replicate n (0 : Int)).getD j 0 = 0 := by
    rw [List.getD_eq_getElem?_getD, List.getElem?_replicate, if_pos hj]
    rfl
  have e1 : (lightsV (opn n l) (opn n l)).getD j 0 = lightV (opn n l) (opn n l) (j : Int) := getD_at (lightsV_at (by rw [opn_len]; exact hj))
  rw [e0, e1, Int.zero_add]
  unfold lightV
  rw [prods_opn (by rw [rot_len, opn_len]), sum_ind n _ l nd hl]
  congr 1
  apply List.map_congr_left
  intro f hf
  rw [rot_get (by rw [opn_len]; exact hl f hf), opn_len]
  have hlt : (((f : Int) - j) % (n : Int)).toNat < n := by
    have := Int.emod_lt_of_pos ((f : Int) - j) (show (0 : Int) < n by omega)
    have := Int.emod_nonneg ((f : Int) - j) (show (n : Int) ≠ 0 by omega)
    omega
  rw [opn_get hlt, ← count_one _ l nd]
  congr 1
  apply List.map_congr_left
  intro g hg
  by_cases e : g = (((f : Int) - j) % (n : Int)).toNat
  · rw [if_pos e, if_pos ((diff_iff (hl g hg) hj).mpr e)]
  · rw [if_neg e, if_neg fun z => e ((diff_iff (hl g hg) hj).mp z)]

/-! ### slots listed, exactly -/
theorem diff_ix {n f g : Nat} (hf : f < n) (hg : g < n) : ixN n ((f : Int) - (g : Int)) = some ((((f : Int) - (g : Int)) % (n : Int)).toNat) ∧ (((f : Int) - (g : Int)) % (n : Int)).toNat < n := by
  have hm := Int.emod_lt_of_pos ((f : Int) - g) (show (0 : Int) < n by omega)
  have hp := Int.emod_nonneg ((f : Int) - g) (show (n : Int) ≠ 0 by omega)
  refine ⟨?_, by omega⟩
  unfold ixN
  by_cases h : (0 : Int) ≤ (f : Int) - (g : Int)
  · rw [if_pos h, if_pos (by omega), Int.emod_eq_of_lt h (by omega)]
  · rw [if_neg h, if_pos (by omega)]
    congr 2
    rw [← Int.add_emod_right, Int.emod_eq_of_lt (by omega) (by omega)]
theorem nat_get {l : List Nat} {i : Nat} {x : V} (h : (l.map fun (x : Nat) => V.int x)[i]? = some x) : ∃ y, l[i]? = some y ∧ x = .int ((y : Nat) : Int) := by
  rw [List.getElem?_map] at h
  cases e : l[i]? with
  | none => rw [e] at h; cases h
  | some y =>
    rw [e] at h
    exact ⟨y, rfl, (Option.some.inj h).symm⟩
theorem take_nat {l : List Nat} {i y : Nat} (h : l[i]? = some y) : l.take (i + 1) = l.take i ++ [y] := by
  rw [List.take_add_one, h]
  rfl
def spOpened25 : Sp := fun vs H Q _ => ∃ (t : Addr) (l : List Nat) (n : Nat), vs = [.ref t, .int n] ∧ H t = some (.tup (l.map fun (x : Nat) => V.int x)) ∧ (∀ x ∈ l, x < n) ∧ l.Nodup ∧ 1 ≤ n ∧ n ≤ 14 ∧ l.length ≤ 14 ∧
  ∀ (a : Addr) (H' : Hp), Same H H' → H a = none → H' a = some (.lst ((lightsV (opn n l) (opn n l)).map V.int)) → Q (.ref a) H'
theorem ok_opened_lights (T : Txt K mg) : FnOk P w K mg base CX0 1 T.a_opened_lights T.d_opened_lights ["opened", "slots"] spOpened25 := by
  refine T.F_opened_lights.ok sc_opened_lights (fun vs H Q E h => ?_) (fun cdv A outer s H vs Q E hr h => ?_)
  · obtain ⟨_, _, _, rfl, _⟩ := h
    rfl
  · obtain ⟨t, l, n, rfl, ht, hx, nd, n1, hn, hl, q⟩ := h
    refine ⟨_, (pss_cons (ps_set (i := 2) sc_opened_lights.nd rfl (.inl rfl) (pe_op op_rep (pe_lst (pa_cons pe_int pa_nil)) (pv 1)))
      (pss_cons (ps_for PassesOwn.never rfl (pi_tupL (K := K) rfl (pv 0)) (pg_name (i := 3) sc_opened_lights.nd rfl (.inl rfl)) (pss_one (ps_for PassesOwn.never rfl (pi_tupL (K := K) rfl (pv 0)) (pg_name (i := 4) sc_opened_lights.nd rfl (.inl rfl)) (pss_one (ps_augS (pv 2) (pe_op op_sub (pv 3) (pv 4)) (get_listN (K := K) rfl) pe_int ip_add set_list)))))
      (pss_one (ps_ret (pv 2))))), ?_⟩
    rw [← opened_own n1 nd hx] at q
    refine ⟨(by show 1 ≤ sizeLine; decide), fun z hz => ?_⟩
    refine ⟨.int n, rfl, z, n, _, rfl, rfl, upd_same, by omega, ?_, ?_, fun F hF => ?_⟩
    · omega
    · show 1 * (n : Int).toNat ≤ sizeLine
      exact sz40' (by omega)
    have s1 := (new_same (o := .lst [.int 0]) hz).trans (new_same (o := .lst (List.replicate (n : Int).toNat [V.int 0]).flatten) hF)
    have g1 : (upd (upd H z (.lst [.int 0])) F (.lst (List.replicate (n : Int).toNat [V.int 0]).flatten)) F = some (.lst ((rowsL n (List.replicate n 0) l (l.take 0)).map V.int)) := by
      rw [upd_same, rep_one, Int.toNat_natCast]
      rfl
    have fF : H F = none := none_back (new_same hz) hF
    generalize upd (upd H z (.lst [.int 0])) F (.lst (List.replicate (n : Int).toNat [V.int 0]).flatten) = H1 at s1 g1 ⊢
    have rl : ∀ (fs : List Nat), (rowsL n (List.replicate n 0) l fs).length = n := fun fs => by rw [rowsL_len, List.length_replicate]
    refine ⟨.ref t, rfl, t, rfl, ⟨_, SqT.of (s1 _ _ ht)⟩, for_tup (K := K) (a := t) (xs := l.map fun (x : Nat) => V.int x) (fun i σ H' => ∃ (y3 y4 : Option V), σ = [some (.ref t), some (.int n), some (.ref F), y3, y4] ∧ Same H H' ∧ H' F = some (.lst ((rowsL n (List.replicate n 0) l (l.take i)).map V.int)))
      ⟨_, _, rfl, s1, g1⟩ (fun i σ H' _ ⟨_, _, _, s2, _⟩ => SqT.of (s2 _ _ ht)) (fun i x σ H2 hi hP => ?_) (fun σ H2 hP => ?_)⟩
    · obtain ⟨y3, y4, rfl, s2, g2⟩ := hP
      obtain ⟨f, hf, rfl⟩ := nat_get hi
      have hfn := hx f (List.mem_of_getElem? hf)
      refine ⟨.ref t, rfl, t, rfl, ⟨_, SqT.of (s2 _ _ ht)⟩, for_tup (K := K) (a := t) (xs := l.map fun (x : Nat) => V.int x) (fun k σ H' => ∃ (y4 : Option V), σ = [some (.ref t), some (.int n), some (.ref F), some (.int f), y4] ∧ Same H H' ∧ H' F = some (.lst ((row1 n (rowsL n (List.replicate n 0) l (l.take i)) f (l.take k)).map V.int)))
        ⟨_, rfl, s2, g2⟩ (fun i σ H' _ ⟨_, _, s2, _⟩ => SqT.of (s2 _ _ ht)) (fun k x σ H3 hk hP => ?_) (fun σ H3 hP => ?_)⟩
      · obtain ⟨y4, rfl, s3, g3⟩ := hP
        obtain ⟨g, hg, rfl⟩ := nat_get hk
        obtain ⟨hj, hjn⟩ := diff_ix hfn (hx g (List.mem_of_getElem? hg))
        obtain ⟨ms, hms⟩ : ∃ ms, ms = row1 n (rowsL n (List.replicate n 0) l (l.take i)) f (l.take k) := ⟨_, rfl⟩
        have hm : ms.length = n := by rw [hms, row1_len, rl]
        have enx : row1 n (rowsL n (List.replicate n 0) l (l.take i)) f (l.take (k + 1)) = bump n ms f g := by
          rw [take_nat hg, hms]
          unfold row1
          rw [List.foldl_append]
          rfl
        rw [← hms] at g3
        have ej : (ms.map V.int)[(((f : Int) - (g : Int)) % (n : Int)).toNat]? = some (.int (ms.getD (((f : Int) - (g : Int)) % (n : Int)).toNat 0)) := by
          rw [List.getElem?_map, List.getD_eq_getElem?_getD, List.getElem?_eq_getElem (by omega)]
          rfl
        have hj2 : ixN (ms.map V.int).length ((f : Int) - (g : Int)) = some (((f : Int) - (g : Int)) % (n : Int)).toNat := by rw [List.length_map, hm]; exact hj
        refine ⟨.ref F, rfl, .int f, rfl, .int g, rfl, f, g, rfl, rfl, F, _, _, _, rfl, rfl, SqL.of g3, by rw [atI, hj2]; exact ej, _, 1, rfl, rfl, F, _, _, _, rfl, rfl, g3, hj2, ?_⟩
        refine ⟨_, rfl, same_over s3 fF, ?_⟩
        rw [upd_same, enx, ← List.map_set]
        rfl
      · obtain ⟨y4, rfl, s3, g3⟩ := hP
        refine ⟨_, _, rfl, s3, ?_⟩
        rw [g3, take_nat hf, List.length_map, List.take_length]
        unfold rowsL
        rw [List.foldl_append]
        rfl
    obtain ⟨y3, y4, rfl, s2, g2⟩ := hP
    rw [List.length_map, List.take_length] at g2
    exact ⟨.ref F, rfl, q F H2 s2 fF g2⟩
/-- the disc of the open slots -/
def spDisc25 : Sp := fun vs H Q _ => ∃ (t : Addr) (l : List Nat) (n : Nat), vs = [.ref t, .int n] ∧ H t = some (.tup (l.map fun (x : Nat) => V.int x)) ∧ n ≤ 14 ∧
  ∀ (a : Addr) (H' : Hp), Same H H' → H a = none → H' a = some (.lst ((opn n l).map V.int)) → Q (.ref a) H'
theorem ok_opened_disc (T : Txt K mg) : FnOk P w K mg base CX0 1 T.a_opened_disc T.d_opened_disc ["opened", "slots"] spDisc25 := by
  refine T.F_opened_disc.ok sc_opened_disc (fun vs H Q E h => ?_) (fun cdv A outer s H vs Q E hr h => ?_)
  · obtain ⟨_, _, _, rfl, _⟩ := h
    rfl
  · obtain ⟨t, l, n, rfl, ht, hn, q⟩ := h
    refine ⟨_, (pss_one (ps_ret (pe_lc (own := [("slot", 2)]) (g := gName 2) (tt := tYes) (by rfl) sc_opened_disc.nd (pi_range1 (by rfl) T.n_range (pa_cons (pv 1) pa_nil)) (blkOk_by (own := [("slot", 2)]) (N := ["opened", "slots", "slot"]) (sc := defScope s_opened_disc) (by decide +kernel))
        (fun _ _ _ _ _ => (pg_name (i := 2) sc_opened_disc.nd rfl (Or.inl rfl))) (fun _ _ _ _ _ => pts_nil) (fun _ _ _ _ _ => (pe_ifExp (pt_cmpR (inSL (K := K) rfl) (pv 2) (pv 0) (by with_unfolding_all rfl)) pe_int pe_int))))), ?_⟩
    refine ⟨.int n, rfl, n, rfl, by omega, by omega, fun F hF => ?_⟩
    refine lc_range (lo := 0) (n := (n : Int).toNat) (fun i H' => Same H H' ∧ H' F = some (.lst (((List.range i).map fun j => if j ∈ l then (1 : Int) else 0).map V.int)))
      ⟨new_same hF, upd_same⟩ (fun i H2 hi hP => ⟨rfl, ?_⟩) (fun H2 hP => ?_)
    · obtain ⟨s2, g2⟩ := hP
      have step : ∀ v : Int, v = (if i ∈ l then 1 else 0) → ∃ acc, H2 F = some (.lst acc) ∧ acc.length < sizeLine ∧ Same H (upd H2 F (.lst (acc ++ [.int v]))) ∧ (upd H2 F (.lst (acc ++ [.int v]))) F = some (.lst (((List.range (i + 1)).map fun j => if j ∈ l then (1 : Int) else 0).map V.int)) := fun v hv =>
        ⟨_, g2, by rw [List.length_map, List.length_map, List.length_range]; exact sz40 (by omega), same_over s2 hF, by rw [upd_same, List.range_succ, List.map_append, List.map_append, hv]; rfl⟩
      have em : inV (.int (0 + (i : Int))) (l.map fun (x : Nat) => V.int x) = decide (i ∈ l) := by
        have := inV_int (0 + (i : Int)) (l.map fun (x : Nat) => (x : Int))
        rw [List.map_map] at this
        refine this.trans ?_
        rw [decide_eq_decide, List.mem_map]
        refine ⟨fun hy => ?_, fun h => ⟨i, h, by omega⟩⟩
        obtain ⟨y, hy, e⟩ := hy
        have : y = i := by omega
        rw [← this]
        exact hy
      refine ⟨.int (0 + i), rfl, .ref t, rfl, t, _, rfl, .inr (SqT.of (s2 _ _ ht)), rfl, List.all_eq_true.mpr fun x hx => ?_, ?_⟩
      · obtain ⟨y, _, rfl⟩ := List.mem_map.mp hx
        rfl
      rw [if_neg (show ¬ (false = true) by decide), em]
      refine ⟨_, rfl, ite2 (fun h => step 1 (if_pos (of_decide_eq_true h)).symm) (fun h => step 0 (if_neg fun z => h (decide_eq_true z)).symm)⟩
    obtain ⟨s2, g2⟩ := hP
    rw [Int.toNat_natCast] at g2
    exact q F H2 s2 hF g2

/-! ### forms listed, exactly -/
def formB (d : List Int) : Bool := decide (∀ y ∈ bothL d, LtI y d = false)
theorem self_both {d : List Int} (h : 1 ≤ d.length) : d ∈ bothL d := (mem_both h).mpr ⟨0, .inl (rot_zero d).symm⟩
theorem form_iff {d m : List Int} (h : 1 ≤ d.length) (hm : LeastI (bothL d) m) : m = d ↔ formB d = true := by
  constructor
  · rintro rfl
    exact decide_eq_true hm.2
  · intro e
    exact least_one hm ⟨self_both h, of_decide_eq_true e⟩
theorem opn01 (n : Nat) (l : List Nat) : ∀ m ∈ opn n l, m = 0 ∨ m = 1 := fun m hm => by
  obtain ⟨i, _, rfl⟩ := List.mem_map.mp hm
  split
  · exact .inr rfl
  · exact .inl rfl
theorem opn_rim {n : Nat} {l : List Nat} (h1 : 1 ≤ n) (h2 : n ≤ 40) : Rim (opn n l) :=
  ⟨by rw [opn_len]; exact h1, by rw [opn_len]; exact h2, fun m hm => by rcases opn01 n l m hm with rfl | rfl <;> decide⟩
/-- tuples of slots, one by one; none of them is F -/
inductive TupsAt (F : Addr) (H : Hp) : List V → List (List Nat) → Prop
  | nil : TupsAt F H [] []
  | cons {t : Addr} {l : List Nat} {us : List V} {ls : List (List Nat)} (f : t ≠ F) (h : H t = some (.tup (l.map fun (x : Nat) => V.int x))) (r : TupsAt F H us ls) : TupsAt F H (.ref t :: us) (l :: ls)
theorem TupsAt.up {F : Addr} {H H' : Hp} {us : List V} {ls : List (List Nat)} (h : TupsAt F H us ls) (s : ∀ b x, H b = some x → b ≠ F → H' b = some x) : TupsAt F H' us ls := by
  induction h with
  | nil => exact .nil
  | cons f h _ ih => exact .cons f (s _ _ h f) ih
theorem TupsAt.snoc {F : Addr} {H : Hp} {us : List V} {ls : List (List Nat)} {t : Addr} {l : List Nat} (h : TupsAt F H us ls) (f : t ≠ F) (g : H t = some (.tup (l.map fun (x : Nat) => V.int x))) : TupsAt F H (us ++ [.ref t]) (ls ++ [l]) := by
  induction h with
  | nil => exact .cons f g .nil
  | cons f2 h _ ih => exact .cons f2 h ih
theorem TupsAt.len {F : Addr} {H : Hp} {us : List V} {ls : List (List Nat)} (h : TupsAt F H us ls) : us.length = ls.length := by
  induction h with
  | nil => rfl
  | cons _ _ _ ih => rw [List.length_cons, List.length_cons, ih]
theorem TupsAt.at {F : Addr} {H : Hp} {us : List V} {ls : List (List Nat)} (h : TupsAt F H us ls) : ∀ {i : Nat} {v : V}, us[i]? = some v → ∃ t l, v = .ref t ∧ ls[i]? = some l ∧ H t = some (.tup (l.map fun (x : Nat) => V.int x)) := by
  induction h with
  | nil => intro i v e; cases i <;> cases e
  | cons f h _ ih =>
    intro i v e
    cases i with
    | zero => exact ⟨_, _, (Option.some.inj e).symm, rfl, h⟩
    | succ i => exact ih e
/-- a reference beside the list that stands there; it is not F -/
def PrL (F : Addr) (H : Hp) (z : V × List Int) : Prop := ∃ b : Addr, z.1 = .ref b ∧ b ≠ F ∧ H b = some (.lst (z.2.map V.int))
theorem PrL.up {F : Addr} {H H' : Hp} {z : V × List Int} (h : PrL F H z) (s : ∀ b x, H b = some x → b ≠ F → H' b = some x) : PrL F H' z := let ⟨b, e, f, g⟩ := h; ⟨b, e, f, s _ _ g f⟩
theorem PrL.off {F G : Addr} {H : Hp} {z : V × List Int} (h : PrL F H z) (hG : H G = none) : PrL G H z := let ⟨b, e, _, g⟩ := h; ⟨b, e, ne_of_none g hG, g⟩
theorem prL_dp {K : PySem.W.Frag} {F : Addr} {H : Hp} : ∀ zs : List (V × List Int), (∀ z ∈ zs, PrL F H z) → DpAll K H (zs.map (·.1)) ((zs.map (·.2)).map dI)
  | [], _ => .nil
  | z :: zs, h => by
    obtain ⟨b, e, _, g⟩ := h z List.mem_cons_self
    have r := prL_dp (K := K) zs fun y hy => h y (List.mem_cons_of_mem _ hy)
    rw [List.map_cons, e]
    exact .cons (dp_ints (SqL.of g)) r
theorem zip_maps : ∀ zs : List (V × List Int), (zs.map (·.1)).zip (zs.map (·.2)) = zs
  | [] => rfl
  | z :: zs => by rw [List.map_cons, List.map_cons, List.zip_cons_cons, zip_maps zs]
def spForms25 : Sp := fun vs H Q _ => ∃ (a : Addr) (us : List V) (ls : List (List Nat)) (n : Nat) (F0 : Addr), vs = [.ref a, .int n] ∧ H a = some (.lst us) ∧ TupsAt F0 H us ls ∧ H F0 = some (.lst us) ∧ us.length ≤ 5000 ∧ 1 ≤ n ∧ n ≤ 14 ∧
  ∀ (p : Addr) (zs : List (V × List Int)) (H' : Hp), Same H H' → H p = none → H' p = some (.lst ((zs.mergeSort leL).map (·.1))) → (∀ z ∈ zs, PrL p H' z) → (∀ z ∈ zs, ∃ b : Addr, z.1 = .ref b ∧ H b = none) → zs.map (·.2) = (ls.map (opn n)).filter formB → Q (.ref p) H'
theorem ok_opened_forms (T : Txt K mg) : FnOk P w K mg base CX0 6 T.a_opened_forms T.d_opened_forms ["openings", "slots"] spForms25 := by
  have G_opened_disc := ok_opened_disc (P := P) (w := w) (base := base) T
  have G_like_form := ok_like_form (P := P) (w := w) (base := base) T
  refine T.F_opened_forms.ok sc_opened_forms (fun vs H Q E h => ?_) (fun cdv A outer s H vs Q E hr h => ?_)
  · obtain ⟨_, _, _, _, _, rfl, _⟩ := h
    rfl
  · obtain ⟨a, us, ls, n, F0, rfl, ha, hT, h0, hlen, n1, n14, q⟩ := h
    refine ⟨_, (pss_cons (ps_setLc (i := 2) (own := [("opened", 3)]) (g := gName 3) (tt := tYes) (by rfl) sc_opened_forms.nd rfl rfl (sw_true rfl rfl rfl (by decide +kernel)) (pi_listL (K := K) rfl (pv 0)) (blkOk_by (own := [("opened", 3)]) (N := ["openings", "slots", "discs", "opened", "disc"]) (sc := defScope s_opened_forms) (by decide +kernel))
        (fun _ _ _ _ _ => (pg_name (i := 3) sc_opened_forms.nd rfl (Or.inl rfl))) (fun _ _ _ _ _ => pts_nil) (fun _ _ _ _ _ => (pe_call G_opened_disc (hr.mono (by decide)) (by rfl) T.g_opened_disc T.F_opened_disc.kp T.b_opened_disc .nil pass0 (pa_cons (pv 3) (pa_cons (pv 1) pa_nil)))))
      (pss_one (ps_ret (pe_callB (cr_sortL (K := K) rfl hr) (by rfl) T.n_sorted (by decide +kernel) (pa_cons (pe_lc (own := [("disc", 4)]) (g := gName 4) (by rfl) sc_opened_forms.nd (pi_listL (K := K) rfl (pv 2)) (blkOk_by (own := [("disc", 4)]) (N := ["openings", "slots", "discs", "opened", "disc"]) (sc := defScope s_opened_forms) (by decide +kernel))
        (fun _ _ _ _ _ => (pg_name (i := 4) sc_opened_forms.nd rfl (Or.inl rfl))) (fun _ _ _ _ _ => (pts_one (pt_cmpR (eqD (K := K) rfl hr) (pe_call G_like_form hr (by rfl) T.g_like_form T.F_like_form.kp T.b_like_form .nil pass0 (pa_cons (pv 4) pa_nil)) (pv 4) (nomark _)))) (fun _ _ _ _ _ => (pv 4))) pa_nil))))), ?_⟩
    have hll := hT.len
    refine ⟨.ref a, rfl, a, rfl, ⟨_, SqL.of ha⟩, fun F hF => ?_⟩
    refine lc_list (K := K) (a := a) (xs := us) (fun i H' => ∃ zs : List (V × List Int), Same H H' ∧ H' F = some (.lst (zs.map (·.1))) ∧ zs.map (·.2) = (ls.take i).map (opn n) ∧ (∀ z ∈ zs, PrL F H' z) ∧ ∀ z ∈ zs, ∃ b : Addr, z.1 = .ref b ∧ H b = none)
      ⟨[], new_same hF, upd_same, rfl, fun _ h => (List.not_mem_nil h).elim, fun _ h => (List.not_mem_nil h).elim⟩ (fun i H' _ hP => SqL.of (hP.choose_spec.1 _ _ ha)) (fun i x H2 hx hP => ⟨rfl, ?_⟩) (fun H2 hP => ?_)
    · obtain ⟨zs, s2, g2, hz, hall, hfr⟩ := hP
      obtain ⟨t, l, rfl, hl, ht⟩ := hT.at hx
      have hi : i < us.length := (List.getElem?_eq_some_iff.mp hx).1
      have hzl : zs.length ≤ i := by
        have := congrArg List.length hz
        rw [List.length_map, List.length_map, List.length_take] at this
        omega
      refine ⟨.ref t, rfl, .int n, rfl, t, l, n, rfl, s2 _ _ ht, n14, fun b H3 s3 fb gb => ?_⟩
      have nbF : b ≠ F := fun z => by
        rw [z, g2] at fb
        cases fb
      refine ⟨_, s3 _ _ g2, by rw [List.length_map]; exact Nat.lt_of_le_of_lt hzl (Nat.lt_of_lt_of_le (Nat.lt_of_lt_of_le hi hlen) (by decide)), zs ++ [(.ref b, opn n l)], same_over (s2.trans s3) hF, by rw [upd_same, List.map_append]; rfl, by rw [List.map_append, hz, List.take_add_one, hl, List.map_append]; rfl, fun z hm => ?_, fun z hm => ?_⟩
      · rcases List.mem_append.mp hm with h | h
        · exact (hall z h).up fun c y e f => by rw [upd_ne f]; exact s3 _ _ e
        · rw [List.mem_singleton.mp h]
          exact ⟨b, rfl, nbF, by rw [upd_ne nbF]; exact gb⟩
      · rcases List.mem_append.mp hm with h | h
        · exact hfr z h
        · rw [List.mem_singleton.mp h]
          exact ⟨b, rfl, none_back s2 fb⟩
    obtain ⟨zs, s2, g2, hz, hall, hfr⟩ := hP
    rw [hll, List.take_length] at hz
    refine ⟨.ref F, rfl, F, rfl, ⟨_, SqL.of g2⟩, fun G hG => ?_⟩
    refine lc_list (K := K) (a := F) (xs := zs.map (·.1)) (fun i H' => ∃ ys : List (V × List Int), Same H2 H' ∧ H' G = some (.lst (ys.map (·.1))) ∧ ys.map (·.2) = ((zs.take i).map (·.2)).filter formB ∧ (∀ z ∈ ys, PrL G H' z) ∧ ∀ z ∈ ys, ∃ b : Addr, z.1 = .ref b ∧ H b = none)
      ⟨[], new_same hG, upd_same, rfl, fun _ h => (List.not_mem_nil h).elim, fun _ h => (List.not_mem_nil h).elim⟩ (fun i H' _ hP => SqL.of (hP.choose_spec.1 _ _ g2)) (fun i x H3 hx hP => ⟨rfl, ?_⟩) (fun H3 hP => ?_)
    · obtain ⟨ys, s3, g3, hy, hall3, hfy⟩ := hP
      have hi : i < zs.length := by
        have := (List.getElem?_eq_some_iff.mp hx).1
        rwa [List.length_map] at this
      rw [List.getElem?_map] at hx
      obtain ⟨z, hzi⟩ : ∃ z, zs[i]? = some z := ⟨_, List.getElem?_eq_getElem hi⟩
      rw [hzi] at hx
      obtain rfl : z.1 = x := Option.some.inj hx
      obtain ⟨b, eb, nb, gb⟩ := ((hall z (List.mem_of_getElem? hzi)).off hG).up fun c y e _ => s3 _ _ e
      rw [eb]
      have hd : ∃ l, z.2 = opn n l := by
        have : z.2 ∈ ls.map (opn n) := by
          rw [← hz]
          exact List.mem_map.mpr ⟨z, List.mem_of_getElem? hzi, rfl⟩
        obtain ⟨l, _, e⟩ := List.mem_map.mp this
        exact ⟨l, e.symm⟩
      obtain ⟨l, ed⟩ := hd
      have hR : Rim z.2 := by rw [ed]; exact opn_rim n1 (by omega)
      have hyl : ys.length ≤ 5000 := by
        have := congrArg List.length hy
        rw [List.length_map] at this
        have h2 := List.length_filter_le formB ((zs.take i).map (·.2))
        have h3 := congrArg List.length hz
        rw [List.length_map, List.length_map] at h3
        rw [List.length_map, List.length_take] at h2
        omega
      have enx : (zs.take (i + 1)).map (·.2) = (zs.take i).map (·.2) ++ [z.2] := by
        rw [List.take_add_one, hzi, List.map_append]
        rfl
      refine ⟨.ref b, rfl, b, z.2, rfl, SqL.of gb, hR, fun c m H4 s4 fc gc hm => ?_⟩
      refine ⟨.ref b, rfl, dI m, dI z.2, dp_ints (SqL.of gc), dp_ints (SqL.of (s4 _ _ gb)), PySem.W.ke_shaped_ints m, PySem.W.ke_shaped_ints z.2, ?_⟩
      rw [eqv_dI]
      refine ⟨_, rfl, ite2 (fun h => ?_) (fun h => ?_)⟩
      · have hf := (form_iff hR.pos hm).mp (of_decide_eq_true h)
        refine ⟨.ref b, rfl, _, s4 _ _ g3, by rw [List.length_map]; exact Nat.lt_of_le_of_lt hyl (by decide), ys ++ [(.ref b, z.2)], same_over (s3.trans s4) hG, by rw [upd_same, List.map_append]; rfl, by rw [List.map_append, hy, enx, List.filter_append]; simp only [List.filter_cons, hf, List.filter_nil, if_true, List.map_cons, List.map_nil], fun y hm2 => ?_, fun y hm2 => ?_⟩
        · rcases List.mem_append.mp hm2 with h | h
          · exact (hall3 y h).up fun c y e f => by rw [upd_ne f]; exact s4 _ _ e
          · rw [List.mem_singleton.mp h]
            exact ⟨b, rfl, nb, by rw [upd_ne nb]; exact s4 _ _ gb⟩
        · rcases List.mem_append.mp hm2 with h | h
          · exact hfy y h
          · rw [List.mem_singleton.mp h]
            obtain ⟨b2, e2, f2⟩ := hfr z (List.mem_of_getElem? hzi)
            exact ⟨b, rfl, by rw [eb] at e2; rw [V.ref.inj e2]; exact f2⟩
      · have hf : formB z.2 = false := by
          cases e : formB z.2 with
          | false => rfl
          | true => exact absurd (decide_eq_true ((form_iff hR.pos hm).mpr e)) h
        refine ⟨ys, s3.trans s4, s4 _ _ g3, by rw [hy, enx, List.filter_append]; simp only [List.filter_cons, hf, List.filter_nil, List.append_nil, Bool.false_eq_true, if_false], fun y hm2 => (hall3 y hm2).up fun c y e _ => s4 _ _ e, hfy⟩
    obtain ⟨ys, s3, g3, hy, hall3, hfy⟩ := hP
    rw [List.length_map, List.take_length, hz] at hy
    refine ⟨G, ys.map (·.1), ys.map (·.2), rfl, SqL.of g3, prL_dp ys hall3, fun p hp => ?_⟩
    have s23 := (s2.trans s3).trans (new_same (o := .lst ((sortL (ys.map (·.1)) (ys.map (·.2))).map (·.1))) hp)
    refine q p ys _ s23 (none_back (s2.trans s3) hp) ?_ (fun z hzm => ((hall3 z hzm).off hp).up fun c y e f => by rw [upd_ne f]; exact e) hfy hy
    rw [upd_same]
    unfold sortL
    rw [zip_maps]

/-! ### the least disc with given lights -/
def Row01 (n : Nat) (d : List Int) : Prop := d.length = n ∧ ∀ m ∈ d, m = 0 ∨ m = 1
theorem Row01.rim {n : Nat} {d : List Int} (h : Row01 n d) (h1 : 1 ≤ n) (h2 : n ≤ 40) : Rim d :=
  ⟨by rw [h.1]; exact h1, by rw [h.1]; exact h2, fun m hm => by rcases h.2 m hm with rfl | rfl <;> decide⟩
theorem own_both {d f : List Int} (h1 : 1 ≤ d.length) (hf : f ∈ bothL d) : lightsV f f = lightsV d d := by
  obtain ⟨t, e⟩ := (mem_both h1).mp hf
  rcases e with rfl | rfl
  · exact lights_both rfl t
  · rw [lights_both rfl t, lights_mir rfl]
    exact (lights_swap rfl).symm
theorem get_mem {d : List Int} {j : Nat} (h : j < d.length) : d.getD j 0 ∈ d := by
  rw [List.getD_eq_getElem?_getD, List.getElem?_eq_getElem h]
  exact List.getElem_mem h
theorem rot_mem {d : List Int} (h1 : 1 ≤ d.length) (t : Int) {x : Int} (hx : x ∈ rot d t) : x ∈ d := by
  obtain ⟨j, hj, e⟩ := List.getElem_of_mem hx
  have hj2 := hj
  rw [rot_len] at hj2
  have e2 := rot_at (ns := d) (t := t) hj2
  rw [List.getElem?_eq_getElem hj, e] at e2
  rw [Option.some.inj e2]
  refine get_mem ?_
  have := Int.emod_lt_of_pos ((j : Int) - t) (show (0 : Int) < d.length by omega)
  have := Int.emod_nonneg ((j : Int) - t) (show (d.length : Int) ≠ 0 by omega)
  omega
theorem mir_mem {d : List Int} (h1 : 1 ≤ d.length) {x : Int} (hx : x ∈ mir d) : x ∈ d := by
  obtain ⟨j, hj, e⟩ := List.getElem_of_mem hx
  have hj2 := hj
  rw [mir_len] at hj2
  have e2 := mir_at (ns := d) hj2
  rw [List.getElem?_eq_getElem hj, e] at e2
  rw [Option.some.inj e2]
  refine get_mem ?_
  have := Int.emod_lt_of_pos (-(j : Int)) (show (0 : Int) < d.length by omega)
  have := Int.emod_nonneg (-(j : Int)) (show (d.length : Int) ≠ 0 by omega)
  omega
theorem row_both {n : Nat} {d f : List Int} (hd : Row01 n d) (h1 : 1 ≤ n) (hf : f ∈ bothL d) : Row01 n f := by
  have h1' : 1 ≤ d.length := by rw [hd.1]; exact h1
  refine ⟨by rw [both_len h1' hf, hd.1], fun m hm => ?_⟩
  obtain ⟨t, e⟩ := (mem_both h1').mp hf
  rcases e with rfl | rfl
  · exact hd.2 m (rot_mem h1' t hm)
  · exact hd.2 m (mir_mem h1' (rot_mem (by rw [mir_len]; exact h1') t hm))
theorem opn_row (n : Nat) (l : List Nat) : Row01 n (opn n l) := ⟨opn_len n l, opn01 n l⟩
def opens (n : Nat) (d : List Int) : List Nat := (List.range n).filter fun i => decide (d.getD i 0 = 1)
theorem opens_mem {n j : Nat} {d : List Int} : j ∈ opens n d ↔ j < n ∧ d.getD j 0 = 1 := by
  unfold opens
  rw [List.mem_filter, List.mem_range, decide_eq_true_iff]
theorem opn_opens {n : Nat} {d : List Int} (h : Row01 n d) : opn n (opens n d) = d := by
  refine ext_getD (by rw [opn_len, h.1]) fun j hj => ?_
  rw [opn_len] at hj
  rw [opn_get hj]
  have hm := h.2 _ (get_mem (d := d) (j := j) (by rw [h.1]; exact hj))
  by_cases c : d.getD j 0 = 1
  · rw [if_pos (opens_mem.mpr ⟨hj, c⟩), c]
  · rw [if_neg fun z => c (opens_mem.mp z).2]
    rcases hm with e | e
    · exact e.symm
    · exact absurd e c
theorem opens_chs (n : Nat) (d : List Int) : opens n d ∈ chs n (opens n d).length := by
  refine (cho_mem 0 n _).mpr ⟨rfl, List.Pairwise.filter _ List.pairwise_lt_range, fun x hx => ?_⟩
  have := (opens_mem.mp hx).1
  omega
theorem sum_ones : ∀ (xs : List Nat) (h : Nat → Int), (∀ x ∈ xs, h x = 1) → (xs.map h).sum = xs.length
  | [], _, _ => rfl
  | x :: xs, h, e => by
    rw [List.map_cons, List.sum_cons, e x List.mem_cons_self, sum_ones xs h fun y hy => e y (List.mem_cons_of_mem _ hy), List.length_cons]
    omega
theorem rot0 (d : List Int) : rot d ((0 : Nat) : Int) = d := rot_zero d
theorem opens_count {n : Nat} {d : List Int} (h : Row01 n d) : ((opens n d).length : Int) = lightV d d ((0 : Nat) : Int) := by
  have nd : (opens n d).Nodup := List.Pairwise.filter _ List.nodup_range
  have e : lightV d d ((0 : Nat) : Int) = (prods (opn n (opens n d)) d).sum := by
    unfold lightV
    rw [rot0, opn_opens h]
  rw [e, prods_opn h.1, sum_ind n (fun i => d.getD i 0) _ nd fun x hx => (opens_mem.mp hx).1]
  exact (sum_ones _ _ fun x hx => (opens_mem.mp hx).2).symm
def BestW (n : Nat) (ws m : List Int) : Prop := Row01 n m ∧ lightsV m m = ws ∧ ∀ d, Row01 n d → lightsV d d = ws → LtI d m = false
/-- the forms with the lights ws and k open slots -/
def formsW (n k : Nat) (ws : List Int) : List (List Int) := (((chs n k).filter fun l => decide (lightsV (opn n l) (opn n l) = ws)).map (opn n)).filter formB
theorem formsW_in {n k : Nat} {ws d : List Int} (h : d ∈ formsW n k ws) : Row01 n d ∧ lightsV d d = ws := by
  obtain ⟨h1, _⟩ := List.mem_filter.mp h
  obtain ⟨l, hl, rfl⟩ := List.mem_map.mp h1
  exact ⟨opn_row n l, of_decide_eq_true (List.mem_filter.mp hl).2⟩
theorem formsW_of {n k : Nat} {ws d : List Int} (h1 : 1 ≤ n) (hd : Row01 n d) (hw : lightsV d d = ws) (hk : (k : Int) = lightV d d ((0 : Nat) : Int)) : ∃ f ∈ formsW n k ws, LtI d f = false := by
  have h1' : 1 ≤ d.length := by rw [hd.1]; exact h1
  obtain ⟨f, hf⟩ : ∃ f, LeastI (bothL d) f := by
    cases e : bothL d with
    | nil => exact absurd (self_both h1') (by rw [e]; exact List.not_mem_nil)
    | cons x xs =>
      obtain ⟨m, _, hm⟩ := minD_least x xs
      exact ⟨m, hm⟩
  have rf := row_both hd h1 hf.1
  have of := own_both h1' hf.1
  have hf1 : 1 ≤ f.length := by rw [rf.1]; exact h1
  have fb : formB f = true := decide_eq_true fun y hy => hf.2 y (both_sub h1' hf.1 hy)
  have ek : (opens n f).length = k := by
    have e1 := opens_count rf
    have e2 : lightV f f ((0 : Nat) : Int) = lightV d d ((0 : Nat) : Int) := by
      have a := lightsV_at (ns := f) (ms := f) (i := 0) (by omega)
      have b := lightsV_at (ns := d) (ms := d) (i := 0) (by omega)
      rw [of, b] at a
      exact (Option.some.inj a).symm
    omega
  refine ⟨f, List.mem_filter.mpr ⟨List.mem_map.mpr ⟨opens n f, List.mem_filter.mpr ⟨?_, ?_⟩, opn_opens rf⟩, fb⟩, hf.2 d (self_both h1')⟩
  · rw [← ek]
    exact opens_chs n f
  · rw [opn_opens rf, of, hw]
    exact decide_eq_true rfl
theorem leL_eq (a b : V × List Int) : leL a b = !LtI b.2 a.2 := by
  unfold leL
  rw [PySem.W.dataLe_eq]
  rfl
theorem leL_total (a b : V × List Int) : (leL a b || leL b a) = true := by
  rw [leL_eq, leL_eq]
  cases e1 : LtI b.2 a.2 with
  | false => rfl
  | true =>
    cases e2 : LtI a.2 b.2 with
    | false => rfl
    | true =>
      have := ltI_trans e1 e2
      rw [ltI_irr] at this
      cases this
theorem leL_trans (a b c : V × List Int) (h : leL a b = true) (k : leL b c = true) : leL a c = true := by
  rw [leL_eq] at h k ⊢
  cases e : LtI c.2 a.2 with
  | false => rfl
  | true =>
    exfalso
    cases e1 : LtI b.2 a.2 with
    | true => rw [e1] at h; cases h
    | false =>
      cases e2 : LtI c.2 b.2 with
      | true => rw [e2] at k; cases k
      | false =>
        -- a ≤ b ≤ c < a
        cases e3 : LtI a.2 b.2 with
        | true =>
          have := ltI_trans e e3
          rw [e2] at this
          cases this
        | false =>
          have := ltI_total e1 e3
          rw [← this, e2] at e
          cases e
theorem sort_head {zs r : List (V × List Int)} {z0 : V × List Int} (e : zs.mergeSort leL = z0 :: r) : z0 ∈ zs ∧ ∀ z ∈ zs, LtI z.2 z0.2 = false := by
  have hp := List.mergeSort_perm zs leL
  have hs := List.pairwise_mergeSort leL_trans leL_total zs
  rw [e] at hp hs
  refine ⟨hp.mem_iff.mp List.mem_cons_self, fun z hz => ?_⟩
  rcases List.mem_cons.mp (hp.mem_iff.mpr hz) with h | h
  · rw [h]
    exact ltI_irr _
  · have := (List.pairwise_cons.mp hs).1 z h
    rw [leL_eq] at this
    cases q : LtI z.2 z0.2 with
    | false => rfl
    | true => rw [q] at this; cases this

/-! ### _openings, _forms_with, disc_with -/
def chN : Nat → Nat → Nat
  | _, 0 => 1
  | 0, _ + 1 => 0
  | m + 1, r + 1 => chN m r + chN m (r + 1)
theorem cho_count : ∀ (lo m r : Nat), (cho lo m r).length = chN m r
  | lo, m, 0 => by rw [cho_zero]; cases m <;> rfl
  | _, 0, _ + 1 => rfl
  | lo, m + 1, r + 1 => by
    rw [cho, List.length_append, List.length_map, cho_count, cho_count]
    rfl
theorem chN_few : ∀ m r : Nat, m ≤ 14 → chN m r ≤ 5000 := by
  have h : ∀ m r : Nat, chN m r ≤ 2 ^ m := fun m => by
    induction m with
    | zero =>
      intro r
      cases r with
      | zero => exact Nat.le_refl _
      | succ r => exact Nat.zero_le _
    | succ m ih =>
      intro r
      cases r with
      | zero => exact Nat.one_le_two_pow
      | succ r =>
        have h1 := ih r
        have h2 := ih (r + 1)
        show chN m r + chN m (r + 1) ≤ 2 ^ (m + 1)
        rw [Nat.pow_succ]
        omega
  have h14 : ∀ m ≤ 12, ∀ r, chN m r ≤ 4096 := fun m hm r => Nat.le_trans (h m r) (Nat.pow_le_pow_right (by decide) hm)
  intro m r hm
  by_cases h12 : m ≤ 12
  · exact Nat.le_trans (h14 m h12 r) (by decide)
  by_cases hr : r ≤ 14
  · have : (List.range 15).all (fun r => decide (chN 13 r ≤ 5000 ∧ chN 14 r ≤ 5000)) = true := by decide +kernel
    have := of_decide_eq_true (List.all_eq_true.mp this r (List.mem_range.mpr (by omega)))
    rcases (show m = 13 ∨ m = 14 by omega) with rfl | rfl
    · exact this.1
    · exact this.2
  · have z : ∀ m r : Nat, m < r → chN m r = 0 := fun m => by
      induction m with
      | zero =>
        intro r h
        cases r with
        | zero => omega
        | succ r => rfl
      | succ m ih =>
        intro r h
        cases r with
        | zero => omega
        | succ r =>
          show chN m r + chN m (r + 1) = 0
          rw [ih r (by omega), ih (r + 1) (by omega)]
    rw [z m r (by omega)]
    exact Nat.zero_le _
theorem chs_few {n k : Nat} (h : n ≤ 14) : (chs n k).length ≤ 5000 := by
  show (cho 0 n k).length ≤ 5000
  rw [cho_count]
  exact chN_few n k h
theorem chs_len {n k : Nat} {l : List Nat} (h : l ∈ chs n k) : l.length = k := cho_len 0 n k h
theorem chs_nodup {n k : Nat} {l : List Nat} (h : l ∈ chs n k) : l.Nodup := (((cho_mem 0 n k).mp h).2.1).imp fun h => Nat.ne_of_lt h
def spOpenings : Sp := fun vs H Q _ => ∃ (a : Addr) (ws : List Int) (m : Nat), vs = [.ref a, .int m] ∧ H a = some (.lst (ws.map V.int)) ∧ 1 ≤ ws.length ∧ ws.length ≤ 14 ∧ m ≤ ws.length ∧
  ∀ (F : Addr) (us : List V) (ls : List (List Nat)) (H' : Hp), Same H H' → H F = none → H' F = some (.lst us) → TupsAt F H' us ls → us.length ≤ 5000 → ls = (chs ws.length m).filter (fun l => decide (lightsV (opn ws.length l) (opn ws.length l) = ws)) → Q (.ref F) H'
theorem ok_openings (T : Txt K mg) : FnOk P w K mg base CX0 2 T.a_openings T.d_openings ["lights", "many"] spOpenings := by
  have G_opened_lights := ok_opened_lights (P := P) (w := w) (base := base) T
  refine T.F_openings.ok sc_openings (fun vs H Q E h => ?_) (fun cdv A outer s H vs Q E hr h => ?_)
  · obtain ⟨_, _, _, rfl, _⟩ := h
    rfl
  · obtain ⟨a, ws, m, rfl, ha, n1, n14, hm, q⟩ := h
    refine ⟨_, (pss_cons (ps_set (i := 2) sc_openings.nd rfl (.inr rfl) (pe_callB (lenL (K := K) rfl) (by rfl) T.n_len (by decide +kernel) (pa_cons (pv 0) pa_nil)))
      (pss_one (ps_ret (pe_lc (own := [("opened", 3)]) (g := gName 3) (by rfl) sc_openings.nd (pi_comb (by rfl) T.i_combinations (pa_cons (pe_callTy cr_range1 (by rfl) T.n_range (by decide +kernel) (pa_cons (pv 2) pa_nil)) (pa_cons (pv 1) pa_nil))) (blkOk_by (own := [("opened", 3)]) (N := ["lights", "many", "slots", "opened"]) (sc := defScope s_openings) (by decide +kernel))
        (fun _ _ _ _ _ => (pg_name (i := 3) sc_openings.nd rfl (Or.inl rfl))) (fun _ _ _ _ _ => (pts_one (pt_cmpR (eqD (K := K) rfl hr) (pe_call G_opened_lights hr (by rfl) T.g_opened_lights T.F_opened_lights.kp T.b_opened_lights .nil pass0 (pa_cons (pv 3) (pa_cons (pv 2) pa_nil))) (pv 0) (nomark _)))) (fun _ _ _ _ _ => (pv 3)))))), ?_⟩
    refine ⟨.ref a, rfl, a, _, rfl, .inl (SqL.of ha), ?_⟩
    rw [List.length_map]
    obtain ⟨n, hn⟩ : ∃ n, n = ws.length := ⟨_, rfl⟩
    rw [← hn] at n1 n14 hm q ⊢
    refine ⟨.int n, rfl, n, rfl, fun r hr => ?_⟩
    have sr := new_same (o := .rng 0 n) hr
    refine ⟨.int m, rfl, r, n, m, rfl, upd_same, hm, by omega, fun F hF => ?_⟩
    refine lc_it (walk_comb (n := n) (k := m)) (fun i H' => ∃ us : List V, Same (upd H r (.rng 0 n)) H' ∧ H' F = some (.lst us) ∧ us.length ≤ i ∧ TupsAt F H' us (((chs n m).take i).filter fun l => decide (lightsV (opn n l) (opn n l) = ws)))
      ⟨[], new_same hF, upd_same, Nat.le_refl _, .nil⟩ (fun _ _ _ _ => trivial) (fun i x H2 H3 hi hP hY => ⟨rfl, ?_⟩) (fun H2 hP => ?_)
    · obtain ⟨us, s2, g2, hu, hall⟩ := hP
      obtain ⟨t, rfl, ft, l, hl, rfl⟩ := hY
      have st := new_same (o := .tup (l.map fun (x : Nat) => V.int x)) ft
      have gt : (upd H2 t (.tup (l.map fun (x : Nat) => V.int x))) t = some (.tup (l.map fun (x : Nat) => V.int x)) := upd_same
      have g3 := st _ _ g2
      have nt : t ≠ F := fun z => by
        rw [z, g2] at ft
        cases ft
      have hlm := List.mem_of_getElem? hl
      have hl14 : l.length ≤ 14 := by
        rw [chs_len hlm]
        omega
      have hci := Nat.lt_of_lt_of_le hi (chs_few n14)
      have ga3 := st _ _ (s2 _ _ (sr _ _ ha))
      generalize upd H2 t (.tup (l.map fun (x : Nat) => V.int x)) = H3 at st gt g3 ga3 ⊢
      have enx : ((chs n m).take (i + 1)).filter (fun l => decide (lightsV (opn n l) (opn n l) = ws)) = ((chs n m).take i).filter (fun l => decide (lightsV (opn n l) (opn n l) = ws)) ++ (if lightsV (opn n l) (opn n l) = ws then [l] else []) := by
        rw [List.take_add_one, hl, List.filter_append]
        congr 1
        show List.filter _ [l] = _
        by_cases c : lightsV (opn n l) (opn n l) = ws
        · rw [if_pos c]
          simp only [List.filter_cons, c, decide_true, if_true, List.filter_nil]
        · rw [if_neg c]
          simp only [List.filter_cons, c, decide_false, List.filter_nil, Bool.false_eq_true, if_false]
      refine ⟨.ref t, rfl, .int n, rfl, t, l, n, rfl, gt, chs_lt hlm, chs_nodup hlm, n1, n14, hl14, fun b H4 s4 fb gb => ?_⟩
      refine ⟨.ref a, rfl, dI (lightsV (opn n l) (opn n l)), dI ws, dp_ints (SqL.of gb), dp_ints (SqL.of (s4 _ _ ga3)), PySem.W.ke_shaped_ints _, PySem.W.ke_shaped_ints _, ?_⟩
      rw [eqv_dI]
      refine ⟨_, rfl, ite2 (fun h => ?_) (fun h => ?_)⟩
      · have c := of_decide_eq_true h
        refine ⟨.ref t, rfl, us, s4 _ _ g3, Nat.lt_of_le_of_lt hu (Nat.lt_of_lt_of_le hci (by decide)), us ++ [.ref t], same_over ((s2.trans st).trans s4) hF, upd_same, by rw [List.length_append]; exact Nat.succ_le_succ hu, ?_⟩
        rw [enx, if_pos c]
        exact (hall.up fun b y e f => by rw [upd_ne f]; exact s4 _ _ (st _ _ e)).snoc nt (by rw [upd_ne nt]; exact s4 _ _ gt)
      · refine ⟨us, (s2.trans st).trans s4, s4 _ _ g3, Nat.le_succ_of_le hu, ?_⟩
        rw [enx, if_neg fun c => h (decide_eq_true c), List.append_nil]
        exact hall.up fun b y e _ => s4 _ _ (st _ _ e)
    obtain ⟨us, s2, g2, hu, hall⟩ := hP
    rw [List.take_length] at hall
    exact q F us _ H2 (sr.trans s2) (none_back sr hF) g2 hall (Nat.le_trans hu (chs_few n14)) rfl
def spFormsWith : Sp := fun vs H Q _ => ∃ (a : Addr) (ws : List Int) (m : Nat), vs = [.ref a] ∧ H a = some (.lst (ws.map V.int)) ∧ 1 ≤ ws.length ∧ ws.length ≤ 14 ∧ ws[0]? = some (m : Int) ∧ m ≤ ws.length ∧
  ∀ (p : Addr) (zs : List (V × List Int)) (H' : Hp), Same H H' → H p = none → H' p = some (.lst ((zs.mergeSort leL).map (·.1))) → (∀ z ∈ zs, PrL p H' z) → (∀ z ∈ zs, ∃ b : Addr, z.1 = .ref b ∧ H b = none) → zs.map (·.2) = formsW ws.length m ws → Q (.ref p) H'
theorem ok_forms_with (T : Txt K mg) : FnOk P w K mg base CX0 7 T.a_forms_with T.d_forms_with ["lights"] spFormsWith := by
  have G_openings := ok_openings (P := P) (w := w) (base := base) T
  have G_opened_forms := ok_opened_forms (P := P) (w := w) (base := base) T
  refine T.F_forms_with.ok sc_forms_with (fun vs H Q E h => ?_) (fun cdv A outer s H vs Q E hr h => ?_)
  · obtain ⟨_, _, _, rfl, _⟩ := h
    rfl
  · obtain ⟨a, ws, m, rfl, ha, n1, n14, e0, hm, q⟩ := h
    refine ⟨_, (pss_cons (ps_if (pt_cmpR op_gt (pe_ix (ixL (K := K) rfl) (pv 0) pe_int (fun _ _ => rfl)) (pe_callB (lenL (K := K) rfl) (by rfl) T.n_len (by decide +kernel) (pa_cons (pv 0) pa_nil)) (nomark _)) (pss_one (ps_ret (pe_lst pa_nil))) pss_nil)
      (pss_one (ps_ret (pe_call G_opened_forms hr (by rfl) T.g_opened_forms T.F_opened_forms.kp T.b_opened_forms .nil pass0 (pa_cons (pe_call G_openings (hr.mono (by decide)) (by rfl) T.g_openings T.F_openings.kp T.b_openings .nil pass0 (pa_cons (pv 0) (pa_cons (pe_ix (ixL (K := K) rfl) (pv 0) pe_int (fun _ _ => rfl)) pa_nil))) (pa_cons (pe_callB (lenL (K := K) rfl) (by rfl) T.n_len (by decide +kernel) (pa_cons (pv 0) pa_nil)) pa_nil)))))), ?_⟩
    have hat : atI (ws.map V.int) 0 = some (.int (m : Int)) := atI_nat (j := 0) (by rw [List.getElem?_map, e0]; rfl)
    refine ⟨.ref a, rfl, a, _, 0, .int m, rfl, rfl, SqL.of ha, hat, .ref a, rfl, a, _, rfl, .inl (SqL.of ha), ?_⟩
    rw [List.length_map]
    refine ⟨m, ws.length, rfl, rfl, _, rfl, ite2 (fun h => ?_) (fun h => ?_)⟩
    · exact absurd (of_decide_eq_true h) (by omega)
    · have hsm := hm
      refine ⟨.ref a, rfl, .ref a, rfl, a, _, 0, .int m, rfl, rfl, SqL.of ha, hat, a, ws, m, rfl, ha, n1, n14, hsm, fun F us ls H1 s1 fF gF hT hlen els => ?_⟩
      refine ⟨.ref a, rfl, a, _, rfl, .inl (SqL.of (s1 _ _ ha)), ?_⟩
      rw [List.length_map]
      refine ⟨F, us, ls, ws.length, F, rfl, gF, hT, gF, hlen, n1, n14, fun p zs H2 s2 fp gp hz hfz ez => ?_⟩
      have efs : zs.map (·.2) = formsW ws.length m ws := by rw [ez, els]; rfl
      exact q p zs H2 (s1.trans s2) (none_back s1 fp) gp hz (fun z hm => let ⟨b, e, f⟩ := hfz z hm; ⟨b, e, none_back s1 f⟩) efs

/-! ### _law_all -/
def ext01 (c : Int) (s : List Int) : List (List Int) := (([0, 1] : List Int).filter fun b => decide (s.sum + b ≤ c)).map fun b => s ++ [b]
def all01 (c : Int) : Nat → List (List Int)
  | 0 => [[]]
  | k + 1 => (all01 c k).flatMap (ext01 c)
theorem all01_row {c : Int} : ∀ {k : Nat} {d : List Int}, d ∈ all01 c k → Row01 k d
  | 0, d, h => by
    rw [List.mem_singleton.mp h]
    exact ⟨rfl, fun m hm => (List.not_mem_nil hm).elim⟩
  | k + 1, d, h => by
    obtain ⟨s, hs, hd⟩ := List.mem_flatMap.mp h
    obtain ⟨b, hb, rfl⟩ := List.mem_map.mp hd
    have r := all01_row hs
    refine ⟨by rw [List.length_append, r.1]; rfl, fun m hm => ?_⟩
    rcases List.mem_append.mp hm with h | h
    · exact r.2 m h
    · rw [List.mem_singleton.mp h]
      have := (List.mem_filter.mp hb).1
      simp only [List.mem_cons, List.not_mem_nil, or_false] at this
      exact this
theorem sum01 {k : Nat} {d : List Int} (h : Row01 k d) : 0 ≤ d.sum := by
  have : ∀ l : List Int, (∀ m ∈ l, m = 0 ∨ m = 1) → 0 ≤ l.sum := fun l => by
    induction l with
    | nil => exact fun _ => Int.le_refl _
    | cons x l ih =>
      intro h
      rw [List.sum_cons]
      have := ih fun m hm => h m (List.mem_cons_of_mem _ hm)
      rcases h x List.mem_cons_self with e | e <;> omega
  exact this d h.2
theorem all01_of {c : Int} : ∀ {k : Nat} {d : List Int}, Row01 k d → d.sum ≤ c → d ∈ all01 c k
  | 0, d, h, _ => by
    rw [List.eq_nil_of_length_eq_zero h.1]
    exact List.mem_singleton.mpr rfl
  | k + 1, d, h, hs => by
    obtain ⟨s, b, rfl⟩ : ∃ s b, d = s ++ [b] := ⟨d.dropLast, d.getLast (fun z => by rw [z] at h; cases h.1), (List.dropLast_concat_getLast _).symm⟩
    have hb := h.2 b (List.mem_append_right _ List.mem_cons_self)
    have hr : Row01 k s := ⟨by have := h.1; rw [List.length_append] at this; exact Nat.succ.inj this, fun m hm => h.2 m (List.mem_append_left _ hm)⟩
    have e : (s ++ [b]).sum = s.sum + b := by rw [List.sum_append]; simp
    rw [e] at hs
    have h0 := sum01 hr
    refine List.mem_flatMap.mpr ⟨s, all01_of hr (by rcases hb with e | e <;> omega), List.mem_map.mpr ⟨b, List.mem_filter.mpr ⟨?_, decide_eq_true hs⟩, rfl⟩⟩
    simp only [List.mem_cons, List.not_mem_nil, or_false]
    exact hb
theorem all01_len (c : Int) : ∀ k : Nat, (all01 c k).length ≤ 2 ^ k
  | 0 => Nat.le_refl _
  | k + 1 => by
    have key : ∀ l : List (List Int), (l.flatMap (ext01 c)).length ≤ 2 * l.length := fun l => by
      induction l with
      | nil => exact Nat.le_refl _
      | cons s l ih =>
        rw [List.flatMap_cons, List.length_append, List.length_cons]
        have : (ext01 c s).length ≤ 2 := by
          unfold ext01
          rw [List.length_map]
          exact List.length_filter_le _ _
        omega
    have := key (all01 c k)
    have := all01_len c k
    show ((all01 c k).flatMap (ext01 c)).length ≤ 2 ^ (k + 1)
    rw [Nat.pow_succ]
    omega
theorem ltI_lt (a b : List Int) : LtI a b = decide (a < b) := by
  unfold LtI dI
  rw [PySem.W.dataLt_list]
  exact PySem.W.dataLt_ints a b
theorem lt_app : ∀ {s s' x y : List Int}, s.length = s'.length → s < s' → s ++ x < s' ++ y
  | [], [], _, _, _, h => absurd h (by simp)
  | [], _ :: _, _, _, e, _ => by cases e
  | _ :: _, [], _, _, e, _ => by cases e
  | a :: s, b :: s', x, y, e, h => by
    rw [List.cons_lt_cons_iff] at h
    rw [List.cons_append, List.cons_append, List.cons_lt_cons_iff]
    rcases h with h | ⟨h1, h2⟩
    · exact .inl h
    · exact .inr ⟨h1, lt_app (Nat.succ.inj e) h2⟩
/-- rows in order -/
theorem all01_sorted (c : Int) : ∀ k : Nat, (all01 c k).Pairwise fun a b => LtI a b = true
  | 0 => List.pairwise_singleton _ _
  | k + 1 => by
    show ((all01 c k).flatMap (ext01 c)).Pairwise _
    have key : ∀ l : List (List Int), l.Pairwise (fun a b => LtI a b = true) → (∀ s ∈ l, s.length = k) → (l.flatMap (ext01 c)).Pairwise fun a b => LtI a b = true := fun l => by
      induction l with
      | nil => exact fun _ _ => .nil
      | cons s l ih =>
        intro hp hl
        rw [List.pairwise_cons] at hp
        rw [List.flatMap_cons, List.pairwise_append]
        refine ⟨?_, ih hp.2 fun x hx => hl x (List.mem_cons_of_mem _ hx), fun a ha b hb => ?_⟩
        · unfold ext01
          rw [List.pairwise_map]
          refine List.Pairwise.filter _ ?_
          refine List.pairwise_cons.mpr ⟨fun b hb => ?_, List.pairwise_singleton _ _⟩
          rw [List.mem_singleton.mp hb, ltI_lt]
          exact decide_eq_true (List.append_left_lt (by decide))
        · obtain ⟨s2, hs2, hb2⟩ := List.mem_flatMap.mp hb
          obtain ⟨x, _, rfl⟩ := List.mem_map.mp ha
          obtain ⟨y, _, rfl⟩ := List.mem_map.mp hb2
          have h := hp.1 s2 hs2
          rw [ltI_lt] at h ⊢
          exact decide_eq_true (lt_app (by rw [hl s List.mem_cons_self, hl s2 (List.mem_cons_of_mem _ hs2)]) (of_decide_eq_true h))
    exact key _ (all01_sorted c k) fun s hs => (all01_row hs).1

/-! ### _law_all, the program -/
inductive RowsF (F : Addr) (H : Hp) : List V → List (List Int) → Prop
  | nil : RowsF F H [] []
  | cons {a : Addr} {r : List Int} {us : List V} {S : List (List Int)} (f : a ≠ F) (h : H a = some (.lst (r.map V.int))) (t : RowsF F H us S) : RowsF F H (.ref a :: us) (r :: S)
theorem RowsF.up {F : Addr} {H H' : Hp} {us : List V} {S : List (List Int)} (h : RowsF F H us S) (s : ∀ b x, H b = some x → b ≠ F → H' b = some x) : RowsF F H' us S := by
  induction h with
  | nil => exact .nil
  | cons f h _ ih => exact .cons f (s _ _ h f) ih
theorem RowsF.snoc {F : Addr} {H : Hp} {us : List V} {S : List (List Int)} {a : Addr} {r : List Int} (h : RowsF F H us S) (f : a ≠ F) (g : H a = some (.lst (r.map V.int))) : RowsF F H (us ++ [.ref a]) (S ++ [r]) := by
  induction h with
  | nil => exact .cons f g .nil
  | cons f2 h _ ih => exact .cons f2 h ih
theorem RowsF.ll {F : Addr} {H : Hp} {us : List V} {S : List (List Int)} (h : RowsF F H us S) : LL H us S := by
  induction h with
  | nil => exact .nil
  | cons _ h _ ih => exact .cons h ih
theorem ll_up {H H' : Hp} {us : List V} {S : List (List Int)} (h : LL H us S) (s : Same H H') : LL H' us S := by
  induction h with
  | nil => exact .nil
  | cons h _ ih => exact .cons (s _ _ h) ih
theorem ll_app {H : Hp} {us vs : List V} {S R : List (List Int)} (h : LL H us S) (g : LL H vs R) : LL H (us ++ vs) (S ++ R) := by
  induction h with
  | nil => exact g
  | cons h _ ih => exact .cons h ih
theorem ll_len {H : Hp} {us : List V} {S : List (List Int)} (h : LL H us S) : us.length = S.length := by
  induction h with
  | nil => rfl
  | cons _ _ ih => rw [List.length_cons, List.length_cons, ih]
theorem ll_at {H : Hp} {us : List V} {S : List (List Int)} (h : LL H us S) : ∀ {i : Nat} {v : V}, us[i]? = some v → ∃ a r, v = .ref a ∧ S[i]? = some r ∧ H a = some (.lst (r.map V.int)) := by
  induction h with
  | nil => intro i v e; cases i <;> cases e
  | cons h _ ih =>
    intro i v e
    cases i with
    | zero => exact ⟨_, _, (Option.some.inj e).symm, rfl, h⟩
    | succ i => exact ih e

/-! ### forms with given lights, all of them -/
theorem prods_self : ∀ d : List Int, (∀ m ∈ d, m = 0 ∨ m = 1) → prods d d = d
  | [], _ => rfl
  | x :: d, h => by
    show (x * x) :: prods d d = x :: d
    rw [prods_self d fun m hm => h m (List.mem_cons_of_mem _ hm)]
    rcases h x List.mem_cons_self with e | e <;> rw [e] <;> rfl
theorem light_sum01 {n : Nat} {d : List Int} (h : Row01 n d) : lightV d d ((0 : Nat) : Int) = d.sum := by
  unfold lightV
  rw [rot0, prods_self d h.2]
theorem sum_le01 {n : Nat} {d : List Int} (h : Row01 n d) : d.sum ≤ n := by
  have key : ∀ l : List Int, (∀ m ∈ l, m = 0 ∨ m = 1) → l.sum ≤ l.length := fun l => by
    induction l with
    | nil => exact fun _ => Int.le_refl _
    | cons x l ih =>
      intro h
      rw [List.sum_cons, List.length_cons]
      have := ih fun m hm => h m (List.mem_cons_of_mem _ hm)
      rcases h x List.mem_cons_self with e | e <;> omega
  have := key d h.2
  rw [h.1] at this
  exact this
theorem first_light {n : Nat} {d ws : List Int} (h : Row01 n d) (h1 : 1 ≤ n) (hw : lightsV d d = ws) {c : Int} (e0 : ws[0]? = some c) : d.sum = c := by
  have z := lightsV_at (ns := d) (ms := d) (i := 0) (by rw [h.1]; omega)
  rw [hw, e0] at z
  rw [← light_sum01 h]
  exact (Option.some.inj z).symm
theorem chs_inj {n k : Nat} {l l' : List Nat} (h : l ∈ chs n k) (h' : l' ∈ chs n k) (e : opn n l = opn n l') : l = l' := by
  have key : ∀ {a : List Nat}, a ∈ chs n k → opens n (opn n a) = a := fun {a} ha => by
    have hp := ((cho_mem 0 n k).mp ha).2.1
    have hp2 : (opens n (opn n a)).Pairwise (· < ·) := List.Pairwise.filter _ List.pairwise_lt_range
    have hm : ∀ j, j ∈ opens n (opn n a) ↔ j ∈ a := fun j => by
      rw [opens_mem]
      constructor
      · rintro ⟨h1, h2⟩
        rw [opn_get h1] at h2
        by_cases c : j ∈ a
        · exact c
        · rw [if_neg c] at h2
          cases h2
      · intro c
        have h1 := chs_lt ha j c
        exact ⟨h1, by rw [opn_get h1, if_pos c]⟩
    exact List.Perm.eq_of_pairwise (le := (· < ·)) (fun x y _ _ h1 h2 => by omega) hp2 hp ((List.perm_ext_iff_of_nodup (hp2.imp fun h => Nat.ne_of_lt h) (hp.imp fun h => Nat.ne_of_lt h)).mpr hm)
  rw [← key h, e, key h']
theorem cho_dis : ∀ lo m r : Nat, (cho lo m r).Nodup
  | lo, m, 0 => by
    rw [cho_zero]
    exact List.pairwise_singleton _ _
  | _, 0, _ + 1 => List.Pairwise.nil
  | lo, m + 1, r + 1 => by
    rw [cho]
    refine List.nodup_append.mpr ⟨?_, cho_dis (lo + 1) m (r + 1), fun a ha b hb e => ?_⟩
    · exact List.Pairwise.map _ (fun a b h e => h (List.cons.inj e).2) (cho_dis (lo + 1) m r)
    · subst e
      obtain ⟨t, _, rfl⟩ := List.mem_map.mp ha
      have := (((cho_mem (lo + 1) m (r + 1)).mp hb).2.2 lo List.mem_cons_self).1
      omega
theorem chs_dis (n k : Nat) : (chs n k).Nodup := cho_dis 0 n k
theorem formsW_nodup (n k : Nat) (ws : List Int) : (formsW n k ws).Nodup := by
  refine List.Pairwise.filter _ ?_
  have h := (chs_dis n k).filter (fun l => decide (lightsV (opn n l) (opn n l) = ws))
  refine List.pairwise_map.mpr (h.imp_of_mem fun {a b} ha hb ne e => ne ?_)
  exact chs_inj (List.mem_filter.mp ha).1 (List.mem_filter.mp hb).1 e
theorem formsW_iff {n k : Nat} {ws f : List Int} (h1 : 1 ≤ n) (hk : ws[0]? = some (k : Int)) : f ∈ formsW n k ws ↔ Row01 n f ∧ lightsV f f = ws ∧ formB f = true := by
  constructor
  · intro h
    obtain ⟨a, b⟩ := formsW_in h
    exact ⟨a, b, (List.mem_filter.mp h).2⟩
  · rintro ⟨hr, hw, hb⟩
    have hc : (k : Int) = lightV f f ((0 : Nat) : Int) := by
      have z := lightsV_at (ns := f) (ms := f) (i := 0) (by rw [hr.1]; omega)
      rw [hw, hk] at z
      exact Option.some.inj z
    have ek : (opens n f).length = k := by
      have := opens_count hr
      omega
    refine List.mem_filter.mpr ⟨List.mem_map.mpr ⟨opens n f, List.mem_filter.mpr ⟨?_, ?_⟩, opn_opens hr⟩, hb⟩
    · rw [← ek]
      exact opens_chs n f
    · rw [opn_opens hr, hw]
      exact decide_eq_true rfl
/-- a list in order, each once -/
theorem sorted_asc {zs : List (V × List Int)} (h : (zs.map (·.2)).Nodup) : ((zs.mergeSort leL).map (·.2)).Pairwise fun a b => LtI a b = true := by
  rw [List.pairwise_map]
  have hp := List.mergeSort_perm zs leL
  have hs := List.pairwise_mergeSort leL_trans leL_total zs
  have hn : (zs.mergeSort leL).Pairwise fun p q => p.2 ≠ q.2 := List.pairwise_map.mp ((hp.map Prod.snd).nodup_iff.mpr h)
  refine (hs.and hn).imp fun {p q} h => ?_
  have h1 := h.1
  rw [leL_eq] at h1
  cases e : LtI p.2 q.2 with
  | true => rfl
  | false =>
    cases e2 : LtI q.2 p.2 with
    | false => exact absurd (ltI_total e e2) h.2
    | true => rw [e2] at h1; cases h1
/-- rows with k ones, the last slot open if any is -/
def rowsC (n : Nat) (c : Int) : List (List Int) := ((all01 c n).filter fun d => decide (d.sum = c)).filter fun d => decide (d.getD (n - 1) 0 = 1) || decide (d.sum = 0)
theorem sum_both {n : Nat} {d f : List Int} (h1 : 1 ≤ n) (hd : Row01 n d) (hf : f ∈ bothL d) : f.sum = d.sum := by
  have e0 : (lightsV d d)[0]? = some d.sum := by
    rw [lightsV_at (ns := d) (ms := d) (i := 0) (by rw [hd.1]; omega), light_sum01 hd]
  exact first_light (row_both hd h1 hf) h1 (own_both (by rw [hd.1]; exact h1) hf) e0
/-- a row turned so that its last slot is open -/
theorem last_open {n : Nat} {f : List Int} (h1 : 1 ≤ n) (hf : Row01 n f) : ∃ r ∈ bothL f, r ∈ rowsC n f.sum := by
  have h1' : 1 ≤ f.length := by rw [hf.1]; exact h1
  by_cases h0 : f.sum = 0
  · exact ⟨f, self_both h1', List.mem_filter.mpr ⟨List.mem_filter.mpr ⟨all01_of hf (Int.le_refl _), decide_eq_true rfl⟩, by rw [decide_eq_true h0, Bool.or_true]⟩⟩
  · obtain ⟨j, hj, ej⟩ : ∃ j, j < n ∧ f.getD j 0 = 1 := by
      refine Classical.byContradiction fun z => h0 ?_
      have hz : ∀ m ∈ f, m = 0 := fun m hm => by
        obtain ⟨j, hj, e⟩ := List.getElem_of_mem hm
        rcases hf.2 m hm with e2 | e2
        · exact e2
        · exact absurd ⟨j, by rw [← hf.1]; exact hj, by rw [List.getD_eq_getElem?_getD, List.getElem?_eq_getElem hj, e, e2]; rfl⟩ z
      have : ∀ l : List Int, (∀ m ∈ l, m = 0) → l.sum = 0 := fun l => by
        induction l with
        | nil => exact fun _ => rfl
        | cons x l ih =>
          intro h
          rw [List.sum_cons, h x List.mem_cons_self, ih fun m hm => h m (List.mem_cons_of_mem _ hm)]
          rfl
      exact this f hz
    have hr : rot f ((n : Int) - 1 - j) ∈ bothL f := (mem_both h1').mpr ⟨_, .inl rfl⟩
    have rr := row_both hf h1 hr
    have hs := sum_both h1 hf hr
    refine ⟨_, hr, List.mem_filter.mpr ⟨List.mem_filter.mpr ⟨all01_of rr (Int.le_of_eq hs), decide_eq_true hs⟩, ?_⟩⟩
    have e := rot_at (ns := f) (t := (n : Int) - 1 - j) (j := n - 1) (by rw [hf.1]; omega)
    have e2 : (((n - 1 : Nat) : Int) - ((n : Int) - 1 - j)) % (f.length : Int) = j := by
      rw [hf.1, show ((n - 1 : Nat) : Int) - ((n : Int) - 1 - j) = j by omega]
      exact Int.emod_eq_of_lt (by omega) (by omega)
    rw [e2, Int.toNat_natCast, ej] at e
    rw [List.getD_eq_getElem?_getD, e]
    rfl
theorem last_sub {n : Nat} {c : Int} {r : List Int} (h : r ∈ rowsC n c) : Row01 n r ∧ r.sum = c := by
  obtain ⟨h1, _⟩ := List.mem_filter.mp h
  obtain ⟨h2, h3⟩ := List.mem_filter.mp h1
  exact ⟨all01_row h2, of_decide_eq_true h3⟩
/-- the forms of the rows with lights that P holds of -/
def FormsP (n : Nat) (c : Int) (P : List Int → Prop) (f : List Int) : Prop := Row01 n f ∧ f.sum = c ∧ P (lightsV f f) ∧ formB f = true
theorem formsP_due {n : Nat} {c : Int} {P : List Int → Prop} (h1 : 1 ≤ n) {S : List (List Int)} (hS : ∀ m, m ∈ S ↔ ∃ r ∈ rowsC n c, P (lightsV r r) ∧ LeastI (bothL r) m) (m : List Int) : m ∈ S ↔ FormsP n c P m := by
  rw [hS]
  constructor
  · rintro ⟨r, hr, hp, hm⟩
    obtain ⟨r1, r2⟩ := last_sub hr
    have h1' : 1 ≤ r.length := by rw [r1.1]; exact h1
    have rm := row_both r1 h1 hm.1
    exact ⟨rm, by rw [sum_both h1 r1 hm.1, r2], by rw [own_both h1' hm.1]; exact hp, decide_eq_true fun y hy => hm.2 y (both_sub h1' hm.1 hy)⟩
  · rintro ⟨hr, hs, hp, hb⟩
    obtain ⟨r, hrb, hrc⟩ := last_open h1 hr
    have h1' : 1 ≤ m.length := by rw [hr.1]; exact h1
    rw [hs] at hrc
    have r1 := (last_sub hrc).1
    have back : m ∈ bothL r := both_symm h1' hrb
    exact ⟨r, hrc, by rw [own_both h1' hrb]; exact hp, back, fun y hy => of_decide_eq_true hb y (both_sub h1' hrb hy)⟩
theorem open_sum {n : Nat} {f : List Int} (h : Row01 n f) : ((opens n f).length : Int) = f.sum := by rw [opens_count h, light_sum01 h]
theorem opens_opn {n k : Nat} {a : List Nat} (ha : a ∈ chs n k) : opens n (opn n a) = a := by
  have h2 := opens_chs n (opn n a)
  have e : (opens n (opn n a)).length = k := by
    have hm : ∀ j, j ∈ opens n (opn n a) ↔ j ∈ a := fun j => by
      rw [opens_mem]
      constructor
      · rintro ⟨h1, h2⟩
        rw [opn_get h1] at h2
        by_cases c : j ∈ a
        · exact c
        · rw [if_neg c] at h2
          cases h2
      · intro c
        have h1 := chs_lt ha j c
        exact ⟨h1, by rw [opn_get h1, if_pos c]⟩
    have hn1 : (opens n (opn n a)).Nodup := List.Pairwise.filter _ List.nodup_range
    have hp := ((List.perm_ext_iff_of_nodup hn1 (chs_nodup ha)).mpr hm).length_eq
    rw [hp, chs_len ha]
  rw [e] at h2
  exact chs_inj h2 ha (opn_opens (opn_row n a))

/-! ### twin_discs -/
def spTDs : Sp := fun vs H Q _ => ∃ (a : Addr) (ns : List Int), vs = [.ref a] ∧ H a = some (.lst (ns.map V.int)) ∧ Row01 ns.length ns ∧ 1 ≤ ns.length ∧ ns.length ≤ 14 ∧
  ∀ (p : Addr) (zs : List (V × List Int)) (H' : Hp), Same H H' → H p = none → H' p = some (.lst ((zs.mergeSort leL).map (·.1))) → (∀ z ∈ zs, PrL p H' z) → (∀ z ∈ zs, ∃ b : Addr, z.1 = .ref b ∧ H b = none) → zs.map (·.2) = formsW ns.length ns.sum.toNat (lightsV ns ns) → Q (.ref p) H'
theorem slt01 {n : Nat} {d : List Int} (h : Row01 n d) : Slt d := fun x hx => by rcases h.2 x hx with e | e <;> omega
theorem own_first {n : Nat} {d : List Int} (h1 : 1 ≤ n) (h : Row01 n d) : (lightsV d d)[0]? = some ((d.sum.toNat : Nat) : Int) := by
  rw [lightsV_at (ns := d) (ms := d) (i := 0) (by rw [h.1]; exact h1), light_sum01 h, Int.toNat_of_nonneg (sum01 h)]
theorem ok_twin_discs (T : Txt K mg) : FnOk P w K mg base CX0 8 T.a_twin_discs T.d_twin_discs ["disc"] spTDs := by
  have G_check_slotted := ok_check_slotted (P := P) (w := w) (base := base) T
  have G_check_slots_at_most := ok_check_slots_at_most (P := P) (w := w) (base := base) T
  have G_lights_between := ok_lights_between (P := P) (w := w) (base := base) T
  have G_forms_with := ok_forms_with (P := P) (w := w) (base := base) T
  refine T.F_twin_discs.ok sc_twin_discs (fun vs H Q E h => ?_) (fun cdv A outer s H vs Q E hr h => ?_)
  · obtain ⟨_, _, rfl, _⟩ := h
    rfl
  · obtain ⟨a, ns, rfl, ha, h01, h1, h14, q⟩ := h
    refine ⟨_, (pss_cons (ps_expr (pe_call G_check_slotted (hr.mono (by decide)) (by rfl) T.g_check_slotted T.F_check_slotted.kp T.b_check_slotted .nil pass0 (pa_cons (pv 0) pa_nil)))
      (pss_cons (ps_expr (pe_call G_check_slots_at_most (hr.mono (by decide)) (by rfl) T.g_check_slots_at_most T.F_check_slots_at_most.kp T.b_check_slots_at_most .nil pass0 (pa_cons (pv 0) (pa_cons (pe_glob (v := .int (14)) rfl T.g_MOST_LISTED ⟨_, rfl⟩) pa_nil))))
      (pss_one (ps_ret (pe_call G_forms_with hr (by rfl) T.g_forms_with T.F_forms_with.kp T.b_forms_with .nil pass0 (pa_cons (pe_call G_lights_between (hr.mono (by decide)) (by rfl) T.g_lights_between T.F_lights_between.kp T.b_lights_between .nil pass0 (pa_cons (pv 0) (pa_cons (pv 0) pa_nil))) pa_nil)))))), ?_⟩
    have hR := h01.rim h1 (by omega)
    refine ⟨.ref a, rfl, a, ns, rfl, SqL.of ha, h1, by omega, slt01 h01, fun H1 s1 => ?_⟩
    refine ⟨.ref a, rfl, a, ns, 14, rfl, SqL.of (s1 _ _ ha), by omega, ?_⟩
    refine ⟨.ref a, rfl, .ref a, rfl, a, a, ns, ns, rfl, SqL.of (s1 _ _ ha), SqL.of (s1 _ _ ha), ?_⟩
    refine ⟨rfl, h1, by omega, hR.ab, hR.ab.mono (by decide), fun l H2 s2 fl gl => ?_⟩
    have hsn := sum_le01 h01
    have hs0 := sum01 h01
    refine ⟨l, lightsV ns ns, ns.sum.toNat, rfl, gl, by rw [lightsV_len]; exact h1, by rw [lightsV_len]; exact h14, own_first h1 h01, by rw [lightsV_len]; omega, fun p zs H3 s3 fp gp hz hfz ez => ?_⟩
    rw [lightsV_len] at ez
    exact q p zs H3 ((s1.trans s2).trans s3) (none_back (s1.trans s2) fp) gp hz (fun z hm => let ⟨b, e, f⟩ := hfz z hm; ⟨b, e, none_back (s1.trans s2) f⟩) ez

/-! ### rows told -/
theorem take_filter {α : Type} {l : List α} {p : α → Bool} {k : Nat} {x : α} (h : l[k]? = some x) : (l.take (k + 1)).filter p = (l.take k).filter p ++ (if p x = true then [x] else []) := by
  rw [List.take_add_one, h, List.filter_append]
  congr 1
  show List.filter p [x] = _
  by_cases c : p x = true
  · rw [if_pos c]
    simp only [List.filter_cons, c, if_true, List.filter_nil]
  · rw [if_neg c]
    simp only [List.filter_cons, c, List.filter_nil, Bool.false_eq_true, if_false]
def dLs (R : List (List Int)) : PyData := .list (R.map dI)
theorem dat_rows {n : Nat} {R : List (List Int)} (h : ∀ r ∈ R, Row01 n r) (hn : n ≤ 14) (hl : R.length ≤ 64) : Dat 2 1000000 (dLs R) := by
  have h1 : ∀ d ∈ R.map dI, Dat 1 14045 d := fun d hd => by
    obtain ⟨r, hr, rfl⟩ := List.mem_map.mp hd
    have g := h r hr
    exact (dat_ints (ns := r) (k := 1) (n := 14) (fun x hx => by rcases g.2 x hx with e | e <;> rw [e] <;> decide) (by decide) (by rw [g.1]; exact hn)).mono (by decide) (by decide)
  exact (dat_list (n := 64) h1 (by decide) (by rw [List.length_map]; exact hl)).mono (by decide) (by decide)
theorem cut_first {x : V} {l : List V} : cutV (x :: l) (some 1) none = l := by
  unfold cutV
  have e : HT.sIx (x :: l).length 0 (some 1) = 1 := by
    show (if (1 : Int) < 0 then ((1 : Int) + ((x :: l).length : Int)).toNat else min (1 : Int).toNat (x :: l).length) = 1
    rw [if_neg (by decide), List.length_cons]
    show min 1 (l.length + 1) = 1
    omega
  rw [HT.sIx_none, e]
  show List.take (l.length + 1 - 1) l = l
  rw [Nat.add_sub_cancel, List.take_length]
theorem ll_dp {K : PySem.W.Frag} {H : Hp} {us : List V} {S : List (List Int)} (h : LL H us S) : DpAll K H us (S.map dI) := by
  induction h with
  | nil => exact .nil
  | cons h _ ih => exact .cons (dp_ints (SqL.of h)) ih
theorem prl_ll {F : Addr} {H : Hp} : ∀ {zs : List (V × List Int)}, (∀ z ∈ zs, PrL F H z) → LL H (zs.map (·.1)) (zs.map (·.2))
  | [], _ => .nil
  | z :: zs, h => by
    obtain ⟨b, e, _, g⟩ := h z List.mem_cons_self
    rw [List.map_cons, List.map_cons, e]
    exact .cons g (prl_ll fun y hy => h y (List.mem_cons_of_mem _ hy))

/-! ### few rows are flat -/
/-! ### open and shut slots taken for each other -/
theorem shutL_len (ns : List Int) : (shutL ns).length = ns.length := List.length_map _
theorem shutL_get {ns : List Int} {j : Nat} (h : j < ns.length) : (shutL ns).getD j 0 = 1 - ns.getD j 0 := by
  unfold shutL
  rw [List.getD_eq_getElem?_getD, List.getD_eq_getElem?_getD, List.getElem?_map, List.getElem?_eq_getElem h]
  rfl
theorem shut_rot (ns : List Int) (t : Int) : shutL (rot ns t) = rot (shutL ns) t := by
  refine ext_getD (by rw [shutL_len, rot_len, rot_len, shutL_len]) fun j hj => ?_
  rw [shutL_len, rot_len] at hj
  have hm := mod_in (i := (j : Int) - t) (show 0 < ns.length by omega)
  rw [shutL_get (by rw [rot_len]; exact hj), rot_get hj, rot_get (by rw [shutL_len]; exact hj), shutL_len, shutL_get (by omega)]
theorem shut_mir (ns : List Int) : shutL (mir ns) = mir (shutL ns) := by
  refine ext_getD (by rw [shutL_len, mir_len, mir_len, shutL_len]) fun j hj => ?_
  rw [shutL_len, mir_len] at hj
  have hm := mod_in (i := -(j : Int)) (show 0 < ns.length by omega)
  rw [shutL_get (by rw [mir_len]; exact hj), mir_get hj, mir_get (by rw [shutL_len]; exact hj), shutL_len, shutL_get (by omega)]
theorem shut_both {ns x : List Int} (h : 1 ≤ ns.length) (hx : x ∈ bothL ns) : shutL x ∈ bothL (shutL ns) := by
  obtain ⟨t, e⟩ := (mem_both h).mp hx
  refine (mem_both (by rw [shutL_len]; exact h)).mpr ⟨t, ?_⟩
  rcases e with rfl | rfl
  · exact .inl (shut_rot ns t)
  · exact .inr (by rw [shut_rot, shut_mir])
theorem shut_sum : ∀ ns : List Int, (shutL ns).sum = ns.length - ns.sum
  | [] => rfl
  | x :: ns => by
    show ((1 - x) :: shutL ns).sum = _
    rw [List.sum_cons, List.sum_cons, shut_sum ns, List.length_cons]
    omega
theorem prods_shut : ∀ {p q : List Int}, p.length = q.length → (prods (shutL p) (shutL q)).sum = p.length - p.sum - q.sum + (prods p q).sum
  | [], [], _ => rfl
  | [], _ :: _, e => by cases e
  | _ :: _, [], e => by cases e
  | a :: p, b :: q, e => by
    have ih := prods_shut (p := p) (q := q) (Nat.succ.inj e)
    show (((1 - a) * (1 - b)) :: prods (shutL p) (shutL q)).sum = _
    have e2 : (prods (a :: p) (b :: q)).sum = a * b + (prods p q).sum := List.sum_cons
    rw [List.sum_cons, ih, e2, List.sum_cons, List.sum_cons, List.length_cons]
    have e3 : (1 - a) * (1 - b) = 1 - a - b + a * b := by
      rw [Int.sub_mul, Int.one_mul, Int.mul_sub, Int.mul_one]
      omega
    rw [e3]
    omega
theorem lights_shut (f : List Int) : lightsV (shutL f) (shutL f) = (lightsV f f).map fun x => (f.length : Int) - f.sum - f.sum + x := by
  unfold lightsV
  rw [shutL_len, List.map_map]
  refine List.map_congr_left fun i _ => ?_
  show lightV (shutL f) (shutL f) (i : Int) = (f.length : Int) - f.sum - f.sum + lightV f f (i : Int)
  unfold lightV
  rw [← shut_rot, prods_shut (by rw [rot_len]), sum_rot]
theorem row_shut {n : Nat} {d : List Int} (h : Row01 n d) : Row01 n (shutL d) := ⟨by rw [shutL_len]; exact h.1, fun m hm => by
  obtain ⟨x, hx, rfl⟩ := List.mem_map.mp hm
  rcases h.2 x hx with e | e <;> rw [e] <;> decide⟩
/-- what the least of all forms keeps -/
theorem least_form {n : Nat} {d m : List Int} (h1 : 1 ≤ n) (hd : Row01 n d) (hm : LeastI (bothL d) m) : Row01 n m ∧ m.sum = d.sum ∧ lightsV m m = lightsV d d ∧ formB m = true := by
  have h1' : 1 ≤ d.length := by rw [hd.1]; exact h1
  exact ⟨row_both hd h1 hm.1, sum_both h1 hd hm.1, own_both h1' hm.1, decide_eq_true fun y hy => hm.2 y (both_sub h1' hm.1 hy)⟩
theorem least_ex {n : Nat} {d : List Int} (h1 : 1 ≤ n) (hd : Row01 n d) : ∃ f, LeastI (bothL d) f := by
  have h1' : 1 ≤ d.length := by rw [hd.1]; exact h1
  cases e : bothL d with
  | nil => exact absurd (self_both h1') (by rw [e]; exact List.not_mem_nil)
  | cons x xs =>
    obtain ⟨m, _, hm⟩ := minD_least x xs
    exact ⟨m, hm⟩
/-- the flat forms with k shut slots are those of the flat forms with k open ones, shut -/
theorem len_sub {α : Type} [DecidableEq α] : ∀ {l l' : List α}, l.Nodup → (∀ x ∈ l, x ∈ l') → l.length ≤ l'.length
  | [], _, _, _ => Nat.zero_le _
  | x :: l, l', hn, h => by
    have hn2 := List.pairwise_cons.mp hn
    have hx := h x List.mem_cons_self
    have := len_sub (l := l) (l' := l'.erase x) hn2.2 fun y hy => (List.mem_erase_of_ne fun e => hn2.1 y hy e.symm).mpr (h y (List.mem_cons_of_mem _ hy))
    rw [List.length_erase_of_mem hx] at this
    have hp := List.length_pos_of_mem hx
    rw [List.length_cons]
    omega

/-! ### how many forms there are: counted by rows of numbers -/
def rowsN : Nat → Nat → List (List Nat)
  | 0, 0 => [[]]
  | 0, _ + 1 => []
  | n + 1, 0 => (rowsN n 0).map (0 :: ·)
  | n + 1, c + 1 => (rowsN n (c + 1)).map (0 :: ·) ++ (rowsN n c).map (1 :: ·)
def ltN : List Nat → List Nat → Bool
  | [], [] => false
  | [], _ :: _ => true
  | _ :: _, [] => false
  | x :: a, y :: b => Nat.blt x y || (Nat.beq x y && ltN a b)
def rotR (d : List Nat) : List Nat := d.drop (d.length - 1) ++ d.take (d.length - 1)
def turnsN : Nat → List Nat → List (List Nat)
  | 0, _ => []
  | k + 1, d => d :: turnsN k (rotR d)
def canonN (n : Nat) (d : List Nat) : Bool := (turnsN n d).all (fun y => !ltN y d) && (turnsN n d.reverse).all (fun y => !ltN y d)
def formsN (n c : Nat) : List (List Nat) := (rowsN n c).filter (canonN n)
def dotN : List Nat → List Nat → Nat
  | x :: a, y :: b => x * y + dotN a b
  | _, _ => 0
def ownN (n : Nat) (d : List Nat) : List Nat := (turnsN n d).map (dotN d)
def nubN : List (List Nat) → List (List Nat)
  | [] => []
  | x :: l => if x ∈ l then nubN l else x :: nubN l
/-- how many own lights there are -/
def tN (n c : Nat) : Nat := (nubN ((formsN n c).map (ownN n))).length
abbrev toI (d : List Nat) : List Int := d.map Int.ofNat
theorem rowsN_iff : ∀ (n c : Nat) (d : List Nat), d ∈ rowsN n c ↔ d.length = n ∧ (∀ b ∈ d, b = 0 ∨ b = 1) ∧ d.sum = c
  | 0, 0, d => by
    show d ∈ [[]] ↔ _
    rw [List.mem_singleton]
    constructor
    · rintro rfl
      exact ⟨rfl, fun _ h => (List.not_mem_nil h).elim, rfl⟩
    · intro h
      exact List.eq_nil_of_length_eq_zero h.1
  | 0, c + 1, d => by
    show d ∈ [] ↔ _
    refine ⟨fun h => (List.not_mem_nil h).elim, fun h => ?_⟩
    rw [List.eq_nil_of_length_eq_zero h.1] at h
    exact absurd h.2.2 (by simp)
  | n + 1, 0, d => by
    show d ∈ (rowsN n 0).map (0 :: ·) ↔ _
    rw [List.mem_map]
    constructor
    · rintro ⟨e, he, rfl⟩
      obtain ⟨h1, h2, h3⟩ := (rowsN_iff n 0 e).mp he
      exact ⟨by rw [List.length_cons, h1], fun b hb => (List.mem_cons.mp hb).elim .inl (h2 b), by rw [List.sum_cons, h3]⟩
    · rintro ⟨h1, h2, h3⟩
      cases d with
      | nil => cases h1
      | cons x e =>
        rw [List.sum_cons] at h3
        obtain rfl : x = 0 := by omega
        exact ⟨e, (rowsN_iff n 0 e).mpr ⟨Nat.succ.inj h1, fun b hb => h2 b (List.mem_cons_of_mem _ hb), by omega⟩, rfl⟩
  | n + 1, c + 1, d => by
    show d ∈ (rowsN n (c + 1)).map (0 :: ·) ++ (rowsN n c).map (1 :: ·) ↔ _
    rw [List.mem_append, List.mem_map, List.mem_map]
    constructor
    · rintro (⟨e, he, rfl⟩ | ⟨e, he, rfl⟩)
      · obtain ⟨h1, h2, h3⟩ := (rowsN_iff n (c + 1) e).mp he
        exact ⟨by rw [List.length_cons, h1], fun b hb => (List.mem_cons.mp hb).elim .inl (h2 b), by rw [List.sum_cons, h3]; omega⟩
      · obtain ⟨h1, h2, h3⟩ := (rowsN_iff n c e).mp he
        exact ⟨by rw [List.length_cons, h1], fun b hb => (List.mem_cons.mp hb).elim .inr (h2 b), by rw [List.sum_cons, h3]; omega⟩
    · rintro ⟨h1, h2, h3⟩
      cases d with
      | nil => cases h1
      | cons x e =>
        rw [List.sum_cons] at h3
        have h4 : ∀ b ∈ e, b = 0 ∨ b = 1 := fun b hb => h2 b (List.mem_cons_of_mem _ hb)
        rcases h2 x List.mem_cons_self with rfl | rfl
        · exact .inl ⟨e, (rowsN_iff n (c + 1) e).mpr ⟨Nat.succ.inj h1, h4, by omega⟩, rfl⟩
        · exact .inr ⟨e, (rowsN_iff n c e).mpr ⟨Nat.succ.inj h1, h4, by omega⟩, rfl⟩
theorem rowsN_nodup : ∀ n c : Nat, (rowsN n c).Nodup
  | 0, 0 => List.pairwise_singleton _ _
  | 0, _ + 1 => List.Pairwise.nil
  | n + 1, 0 => List.Pairwise.map _ (fun a b h e => h (List.cons.inj e).2) (rowsN_nodup n 0)
  | n + 1, c + 1 => by
    refine List.nodup_append.mpr ⟨List.Pairwise.map _ (fun a b h e => h (List.cons.inj e).2) (rowsN_nodup n (c + 1)), List.Pairwise.map _ (fun a b h e => h (List.cons.inj e).2) (rowsN_nodup n c), fun a ha b hb e => ?_⟩
    obtain ⟨x, _, rfl⟩ := List.mem_map.mp ha
    obtain ⟨y, _, rfl⟩ := List.mem_map.mp hb
    cases (List.cons.inj e).1
theorem toI_inj : ∀ {a b : List Nat}, toI a = toI b → a = b
  | [], [], _ => rfl
  | [], _ :: _, h => by cases h
  | _ :: _, [], h => by cases h
  | x :: a, y :: b, h => by
    obtain ⟨h1, h2⟩ := List.cons.inj h
    rw [toI_inj h2, Int.ofNat.inj h1]
theorem toI_sum : ∀ d : List Nat, (toI d).sum = ((d.sum : Nat) : Int)
  | [] => rfl
  | x :: d => by
    rw [toI, List.map_cons, List.sum_cons, List.sum_cons, toI_sum d]
    show Int.ofNat x + _ = _
    rw [Int.ofNat_eq_natCast]
    omega
theorem rowsN_row {n c : Nat} {d : List Nat} (h : d ∈ rowsN n c) : Row01 n (toI d) ∧ (toI d).sum = (c : Int) := by
  obtain ⟨h1, h2, h3⟩ := (rowsN_iff n c d).mp h
  refine ⟨⟨by rw [List.length_map, h1], fun m hm => ?_⟩, by rw [toI_sum, h3]⟩
  obtain ⟨b, hb, rfl⟩ := List.mem_map.mp hm
  rcases h2 b hb with rfl | rfl
  · exact .inl rfl
  · exact .inr rfl
theorem row_N {n c : Nat} {e : List Int} (h : Row01 n e) (hs : e.sum = (c : Int)) : ∃ d ∈ rowsN n c, e = toI d := by
  have key : e = toI (e.map Int.toNat) := by
    rw [toI, List.map_map]
    have : ∀ l : List Int, (∀ m ∈ l, m = 0 ∨ m = 1) → l = l.map (Int.ofNat ∘ Int.toNat) := fun l => by
      induction l with
      | nil => exact fun _ => rfl
      | cons x l ih =>
        intro h
        rw [List.map_cons, ← ih fun m hm => h m (List.mem_cons_of_mem _ hm)]
        rcases h x List.mem_cons_self with rfl | rfl <;> rfl
    exact this e h.2
  refine ⟨e.map Int.toNat, (rowsN_iff n c _).mpr ⟨by rw [List.length_map, h.1], fun b hb => ?_, ?_⟩, key⟩
  · obtain ⟨m, hm, rfl⟩ := List.mem_map.mp hb
    rcases h.2 m hm with rfl | rfl
    · exact .inl rfl
    · exact .inr rfl
  · have := toI_sum (e.map Int.toNat)
    rw [← key, hs] at this
    omega
theorem ltN_I : ∀ a b : List Nat, LtI (toI a) (toI b) = ltN a b
  | [], [] => by rw [ltI_lt]; rfl
  | [], _ :: _ => by
    rw [ltI_lt]
    exact decide_eq_true (List.nil_lt_cons _ _)
  | _ :: _, [] => by
    rw [ltI_lt]
    exact decide_eq_false (List.not_lt_nil _)
  | x :: a, y :: b => by
    have ih := ltN_I a b
    rw [ltI_lt] at ih ⊢
    show decide (Int.ofNat x :: toI a < Int.ofNat y :: toI b) = (Nat.blt x y || (Nat.beq x y && ltN a b))
    rw [← ih, Bool.eq_iff_iff, decide_eq_true_iff, List.cons_lt_cons_iff, Bool.or_eq_true, Bool.and_eq_true, Nat.blt_eq, Nat.beq_eq, decide_eq_true_iff]
    rw [Int.ofNat_eq_natCast, Int.ofNat_eq_natCast]
    constructor
    · rintro (h | ⟨h1, h2⟩)
      · exact .inl (by omega)
      · exact .inr ⟨by omega, h2⟩
    · rintro (h | ⟨h1, h2⟩)
      · exact .inl (by omega)
      · exact .inr ⟨by omega, h2⟩
theorem rotR_len (d : List Nat) : (rotR d).length = d.length := by
  unfold rotR
  rw [List.length_append, List.length_drop, List.length_take]
  omega
theorem rotR_I {d : List Nat} (h : 1 ≤ d.length) : toI (rotR d) = rot (toI d) 1 := by
  refine ext_getD (by rw [rot_len, List.length_map, List.length_map, rotR_len]) fun j hj => ?_
  rw [List.length_map, rotR_len] at hj
  rw [rot_get (by rw [List.length_map]; exact hj), List.length_map]
  have e1 : (toI (rotR d)).getD j 0 = Int.ofNat ((rotR d).getD j 0) := by
    rw [List.getD_eq_getElem?_getD, List.getD_eq_getElem?_getD, List.getElem?_map, List.getElem?_eq_getElem (by rw [rotR_len]; exact hj)]
    rfl
  have e2 : ∀ i, i < d.length → (toI d).getD i 0 = Int.ofNat (d.getD i 0) := fun i hi => by
    rw [List.getD_eq_getElem?_getD, List.getD_eq_getElem?_getD, List.getElem?_map, List.getElem?_eq_getElem hi]
    rfl
  rw [e1]
  unfold rotR
  by_cases c : j = 0
  · subst c
    have e3 : (((0 : Nat) : Int) - 1) % (d.length : Int) = ((d.length - 1 : Nat) : Int) := by
      rw [← Int.add_emod_right]
      rw [Int.emod_eq_of_lt (by omega) (by omega)]
      omega
    rw [e3, Int.toNat_natCast, e2 _ (by omega)]
    congr 1
    rw [List.getD_eq_getElem?_getD, List.getD_eq_getElem?_getD, List.getElem?_append_left (by rw [List.length_drop]; omega), List.getElem?_drop]
    rfl
  · have e3 : ((j : Nat) : Int) - 1 = ((j - 1 : Nat) : Int) := by omega
    rw [e3, Int.emod_eq_of_lt (by omega) (by omega), Int.toNat_natCast, e2 _ (by omega)]
    congr 1
    rw [List.getD_eq_getElem?_getD, List.getD_eq_getElem?_getD, List.getElem?_append_right (by rw [List.length_drop]; omega), List.length_drop, List.getElem?_take, if_pos (by omega)]
    congr 2
    omega
theorem turnsN_I : ∀ (k : Nat) {d : List Nat} (h : 1 ≤ d.length), (turnsN k d).map toI = (List.range k).map fun (t : Nat) => rot (toI d) (t : Int)
  | 0, _, _ => rfl
  | k + 1, d, h => by
    rw [turnsN, List.map_cons, turnsN_I k (by rw [rotR_len]; exact h), List.range_succ_eq_map, List.map_cons, List.map_map]
    congr 1
    · exact (rot_zero _).symm
    · refine List.map_congr_left fun t _ => ?_
      rw [rotR_I h, rot_add]
      show rot (toI d) (1 + (t : Int)) = rot (toI d) ((t + 1 : Nat) : Int)
      congr 1
      omega
theorem rev_I {d : List Nat} (h : 1 ≤ d.length) : toI d.reverse = rot (mir (toI d)) (-1) := by
  refine ext_getD (by rw [rot_len, mir_len, List.length_map, List.length_map, List.length_reverse]) fun j hj => ?_
  rw [List.length_map, List.length_reverse] at hj
  have hm := Int.emod_lt_of_pos ((j : Int) - -1) (show (0 : Int) < d.length by omega)
  have hp := Int.emod_nonneg ((j : Int) - -1) (show (d.length : Int) ≠ 0 by omega)
  rw [rot_get (by rw [mir_len, List.length_map]; exact hj), mir_len, List.length_map, mir_get (by rw [List.length_map]; omega), List.length_map, Int.toNat_of_nonneg hp]
  have e2 : ∀ i, i < d.length → (toI d).getD i 0 = Int.ofNat (d.getD i 0) := fun i hi => by
    rw [List.getD_eq_getElem?_getD, List.getD_eq_getElem?_getD, List.getElem?_map, List.getElem?_eq_getElem hi]
    rfl
  have e3 : (-(((j : Int) - -1) % (d.length : Int))) % (d.length : Int) = ((d.length - 1 - j : Nat) : Int) := by
    by_cases c : j + 1 = d.length
    · have : ((j : Int) - -1) % (d.length : Int) = 0 := by
        rw [show (j : Int) - -1 = (d.length : Int) by omega, Int.emod_self]
      rw [this, show d.length - 1 - j = 0 by omega]
      simp
    · have : ((j : Int) - -1) % (d.length : Int) = (j : Int) + 1 := by
        rw [show (j : Int) - -1 = (j : Int) + 1 by omega, Int.emod_eq_of_lt (by omega) (by omega)]
      rw [this, ← Int.add_emod_right, Int.emod_eq_of_lt (by omega) (by omega)]
      omega
  rw [e3, Int.toNat_natCast, e2 _ (by omega), List.getD_eq_getElem?_getD, List.getElem?_map, List.getElem?_reverse hj, List.getElem?_eq_getElem (by omega)]
  rw [List.getD_eq_getElem?_getD, List.getElem?_eq_getElem (by omega)]
  rfl
theorem rot_dom (e : List Int) (h : 1 ≤ e.length) (t : Int) : ∃ k : Nat, k < e.length ∧ rot e t = rot e (k : Int) := by
  have hm := Int.emod_lt_of_pos t (show (0 : Int) < e.length by omega)
  have hp := Int.emod_nonneg t (show (e.length : Int) ≠ 0 by omega)
  exact ⟨(t % (e.length : Int)).toNat, by omega, by rw [Int.toNat_of_nonneg hp, rot_mod]⟩
theorem all_turns {n : Nat} {d x : List Nat} (h : 1 ≤ d.length) (hd : d.length = n) : (turnsN n d).all (fun y => !ltN y x) = true ↔ ∀ t : Int, LtI (rot (toI d) t) (toI x) = false := by
  have hI := turnsN_I n h
  rw [List.all_eq_true]
  constructor
  · intro a t
    obtain ⟨k, hk, e⟩ := rot_dom (toI d) (by rw [List.length_map]; exact h) t
    rw [List.length_map, hd] at hk
    have hm : rot (toI d) (k : Int) ∈ (turnsN n d).map toI := by
      rw [hI]
      exact List.mem_map.mpr ⟨k, List.mem_range.mpr hk, rfl⟩
    obtain ⟨y, hy, e2⟩ := List.mem_map.mp hm
    have := a y hy
    rw [e, ← e2, ltN_I]
    simpa using this
  · intro a y hy
    have hm : toI y ∈ (turnsN n d).map toI := List.mem_map.mpr ⟨y, hy, rfl⟩
    rw [hI] at hm
    obtain ⟨t, _, e⟩ := List.mem_map.mp hm
    have := a (t : Int)
    have e' : rot (toI d) (t : Int) = toI y := e
    rw [e', ltN_I] at this
    rw [this]
    rfl
theorem canon_form {n : Nat} {d : List Nat} (h1 : 1 ≤ n) (hd : d.length = n) : canonN n d = formB (toI d) := by
  have h1' : 1 ≤ d.length := by omega
  have h1i : 1 ≤ (toI d).length := by rw [List.length_map]; exact h1'
  rw [Bool.eq_iff_iff]
  unfold canonN formB
  rw [Bool.and_eq_true, all_turns h1' hd, all_turns (by rw [List.length_reverse]; exact h1') (by rw [List.length_reverse]; exact hd), decide_eq_true_iff, rev_I h1']
  constructor
  · rintro ⟨a, b⟩ y hy
    obtain ⟨t, e⟩ := (mem_both h1i).mp hy
    rcases e with rfl | rfl
    · exact a t
    · have := b (t + 1)
      rw [rot_add] at this
      rwa [show (-1 : Int) + (t + 1) = t by omega] at this
  · intro a
    refine ⟨fun t => a _ ((mem_both h1i).mpr ⟨t, .inl rfl⟩), fun t => ?_⟩
    rw [rot_add]
    exact a _ ((mem_both h1i).mpr ⟨-1 + t, .inr rfl⟩)
theorem dotN_I : ∀ a b : List Nat, (prods (toI a) (toI b)).sum = ((dotN a b : Nat) : Int)
  | [], _ => rfl
  | _ :: _, [] => rfl
  | x :: a, y :: b => by
    show ((Int.ofNat x * Int.ofNat y) :: prods (toI a) (toI b)).sum = ((x * y + dotN a b : Nat) : Int)
    rw [List.sum_cons, dotN_I a b, Int.ofNat_eq_natCast, Int.ofNat_eq_natCast, Int.natCast_add, Int.natCast_mul]
theorem ownN_I {n : Nat} {d : List Nat} (h1 : 1 ≤ n) (hd : d.length = n) : toI (ownN n d) = lightsV (toI d) (toI d) := by
  have hI := turnsN_I n (d := d) (by omega)
  have e : toI (ownN n d) = ((turnsN n d).map toI).map fun y => (prods (toI d) y).sum := by
    unfold ownN
    rw [toI, List.map_map, List.map_map]
    refine List.map_congr_left fun y _ => ?_
    exact (dotN_I d y).symm
  rw [e, hI, List.map_map]
  unfold lightsV
  rw [List.length_map, hd]
  rfl
theorem formsN_iff {n c : Nat} (h1 : 1 ≤ n) (e : List Int) : e ∈ (formsN n c).map toI ↔ Row01 n e ∧ e.sum = (c : Int) ∧ formB e = true := by
  rw [List.mem_map]
  constructor
  · rintro ⟨d, hd, rfl⟩
    obtain ⟨a, b⟩ := List.mem_filter.mp hd
    obtain ⟨r1, r2⟩ := rowsN_row a
    exact ⟨r1, r2, by rw [← canon_form h1 ((rowsN_iff n c d).mp a).1]; exact b⟩
  · rintro ⟨h, hs, hb⟩
    obtain ⟨d, hd, rfl⟩ := row_N h hs
    exact ⟨d, List.mem_filter.mpr ⟨hd, by rw [canon_form h1 ((rowsN_iff n c d).mp hd).1]; exact hb⟩, rfl⟩
theorem formsN_nodup (n c : Nat) : ((formsN n c).map toI).Nodup :=
  List.Pairwise.map _ (fun _ _ h e => h (toI_inj e)) (List.Pairwise.filter _ (rowsN_nodup n c))
theorem mem_nub {x : List Nat} : ∀ {l : List (List Nat)}, x ∈ nubN l ↔ x ∈ l
  | [] => Iff.rfl
  | y :: l => by
    unfold nubN
    by_cases c : y ∈ l
    · rw [if_pos c, mem_nub, List.mem_cons]
      exact ⟨.inr, fun h => h.elim (fun e => e ▸ c) id⟩
    · rw [if_neg c, List.mem_cons, List.mem_cons, mem_nub]
theorem nub_nodup : ∀ l : List (List Nat), (nubN l).Nodup
  | [] => List.Pairwise.nil
  | y :: l => by
    unfold nubN
    by_cases c : y ∈ l
    · rw [if_pos c]
      exact nub_nodup l
    · rw [if_neg c]
      exact List.nodup_cons.mpr ⟨fun h => c (mem_nub.mp h), nub_nodup l⟩
theorem nub_len : ∀ l : List (List Nat), (nubN l).length ≤ l.length
  | [] => Nat.le_refl _
  | y :: l => by
    unfold nubN
    have := nub_len l
    by_cases c : y ∈ l
    · rw [if_pos c, List.length_cons]
      omega
    · rw [if_neg c, List.length_cons, List.length_cons]
      omega
theorem tN_le (n c : Nat) : tN n c ≤ (formsN n c).length := by
  have := nub_len ((formsN n c).map (ownN n))
  rw [List.length_map] at this
  exact this
/-- o are the own lights of some row with c open slots -/
def OwnOf (n : Nat) (c : Int) (o : List Int) : Prop := ∃ r, Row01 n r ∧ r.sum = c ∧ o = lightsV r r
theorem nub_own {n c : Nat} (h1 : 1 ≤ n) (o : List Int) : o ∈ (nubN ((formsN n c).map (ownN n))).map toI ↔ OwnOf n c o := by
  rw [List.mem_map]
  constructor
  · rintro ⟨x, hx, rfl⟩
    obtain ⟨d, hd, rfl⟩ := List.mem_map.mp (mem_nub.mp hx)
    obtain ⟨a, _⟩ := List.mem_filter.mp hd
    obtain ⟨r1, r2⟩ := rowsN_row a
    exact ⟨toI d, r1, r2, ownN_I h1 ((rowsN_iff n c d).mp a).1⟩
  · rintro ⟨r, hr, hs, rfl⟩
    obtain ⟨f, hf⟩ := least_ex h1 hr
    obtain ⟨q1, q2, q3, q4⟩ := least_form h1 hr hf
    obtain ⟨d, hd, e⟩ := List.mem_map.mp ((formsN_iff (c := c) h1 f).mpr ⟨q1, by rw [q2, hs], q4⟩)
    refine ⟨ownN n d, mem_nub.mpr (List.mem_map.mpr ⟨d, hd, rfl⟩), ?_⟩
    rw [ownN_I h1 ((rowsN_iff n c d).mp (List.mem_filter.mp hd).1).1, e, q3]
/-- any list of the own lights, each once, has as many -/
theorem tN_of {n c : Nat} (h1 : 1 ≤ n) {T : List (List Int)} (nd : T.Nodup) (hT : ∀ o, o ∈ T ↔ OwnOf n c o) : T.length = tN n c := by
  have h : T.Perm ((nubN ((formsN n c).map (ownN n))).map toI) := (List.perm_ext_iff_of_nodup nd (List.Pairwise.map _ (fun _ _ h e => h (toI_inj e)) (nub_nodup _))).mpr fun o => by rw [hT, nub_own h1]
  rw [h.length_eq, List.length_map]
  rfl
theorem tN_up {n c : Nat} (h1 : 1 ≤ n) {T : List (List Int)} (nd : T.Nodup) (hT : ∀ o ∈ T, OwnOf n c o) : T.length ≤ tN n c := by
  have := len_sub nd (l' := (nubN ((formsN n c).map (ownN n))).map toI) fun o ho => (nub_own h1 o).mpr (hT o ho)
  rwa [List.length_map] at this
theorem fN_of {n c : Nat} (h1 : 1 ≤ n) {T : List (List Int)} (nd : T.Nodup) (hT : ∀ o, o ∈ T ↔ Row01 n o ∧ o.sum = (c : Int) ∧ formB o = true) : T.length = (formsN n c).length := by
  have h : T.Perm ((formsN n c).map toI) := (List.perm_ext_iff_of_nodup nd (formsN_nodup n c)).mpr fun o => by rw [hT, formsN_iff h1]
  rw [h.length_eq, List.length_map]
theorem own_shut {n : Nat} {c k : Int} {r : List Int} (hr : Row01 n r) (hs : r.sum = c) (hk : k = n - c) : Row01 n (shutL r) ∧ (shutL r).sum = k ∧ lightsV (shutL r) (shutL r) = (lightsV r r).map fun x => (n : Int) - c - c + x := by
  refine ⟨row_shut hr, by rw [shut_sum, hr.1, hs, hk], ?_⟩
  rw [lights_shut, hr.1, hs]
theorem tN_shut {n c : Nat} (h1 : 1 ≤ n) (hc : c ≤ n) : tN n (n - c) = tN n c := by
  obtain ⟨T, hTe⟩ : ∃ T, T = (nubN ((formsN n c).map (ownN n))).map toI := ⟨_, rfl⟩
  have nd : T.Nodup := by rw [hTe]; exact List.Pairwise.map _ (fun _ _ h e => h (toI_inj e)) (nub_nodup _)
  have hT : ∀ o, o ∈ T ↔ OwnOf n c o := fun o => by rw [hTe]; exact nub_own h1 o
  rw [← tN_of h1 nd hT]
  have hinj : ∀ a b : List Int, (a.map fun x => (n : Int) - c - c + x) = (b.map fun x => (n : Int) - c - c + x) → a = b := fun a => by
    induction a with
    | nil =>
      intro b h
      cases b with
      | nil => rfl
      | cons y b => cases h
    | cons x a ih =>
      intro b h
      cases b with
      | nil => cases h
      | cons y b =>
        obtain ⟨e1, e2⟩ := List.cons.inj h
        have e1 : (n : Int) - c - c + x = (n : Int) - c - c + y := e1
        rw [ih b e2, show x = y by omega]
  have := tN_of (n := n) (c := n - c) h1 (T := T.map fun a => a.map fun x => (n : Int) - c - c + x) (List.Pairwise.map _ (fun _ _ h e => h (hinj _ _ e)) nd) fun o => ?_
  · rw [List.length_map] at this
    exact this.symm
  · rw [List.mem_map]
    constructor
    · rintro ⟨a, ha, rfl⟩
      obtain ⟨r, hr, hs, rfl⟩ := (hT a).mp ha
      obtain ⟨q1, q2, q3⟩ := own_shut (k := ((n - c : Nat) : Int)) hr hs (by omega)
      exact ⟨shutL r, q1, q2, q3.symm⟩
    · rintro ⟨r, hr, hs, rfl⟩
      obtain ⟨q1, q2, q3⟩ := own_shut (k := (c : Int)) hr hs (by omega)
      refine ⟨_, (hT _).mpr ⟨shutL r, q1, q2, rfl⟩, ?_⟩
      rw [q3, List.map_map]
      conv => rhs; rw [← List.map_id (lightsV r r)]
      refine List.map_congr_left fun x _ => ?_
      show (n : Int) - c - c + ((n : Int) - ((n - c : Nat) : Int) - ((n - c : Nat) : Int) + x) = x
      omega
theorem sum_rep (x : Nat) : ∀ k : Nat, (List.replicate k x).sum = k * x
  | 0 => by rw [Nat.zero_mul]; rfl
  | k + 1 => by
    rw [List.replicate_succ, List.sum_cons, sum_rep x k, Nat.succ_mul]
    omega
theorem tN_pos {n c : Nat} (h1 : 1 ≤ n) (hc : c ≤ n) : 0 < tN n c := by
  have key : ∃ d, d ∈ rowsN n c := by
    refine ⟨List.replicate (n - c) 0 ++ List.replicate c 1, (rowsN_iff n c _).mpr ⟨by rw [List.length_append, List.length_replicate, List.length_replicate]; omega, fun b hb => ?_, ?_⟩⟩
    · rcases List.mem_append.mp hb with h | h
      · exact .inl (List.eq_of_mem_replicate h)
      · exact .inr (List.eq_of_mem_replicate h)
    · rw [List.sum_append, sum_rep, sum_rep]
      omega
  obtain ⟨d, hd⟩ := key
  obtain ⟨r1, r2⟩ := rowsN_row hd
  have := tN_up (n := n) (c := c) h1 (T := [lightsV (toI d) (toI d)]) (List.pairwise_singleton _ _) fun o ho => by
    rw [List.mem_singleton.mp ho]
    exact ⟨toI d, r1, r2, rfl⟩
  exact this

/-! ### the numbers of forms, said in three ways -/
def chP (size : Int) (k : Nat) : Int := (List.range k).foldl (fun f (s : Nat) => f * (size - (s : Int)) / ((s : Int) + 1)) 1
def chL (size count : Int) : Int := if count < 0 ∨ size < count then 0 else chP size count.toNat
def fixL (n c t : Nat) : Int := if c % (n / Nat.gcd t n) = 0 then chL ((Nat.gcd t n : Nat) : Int) ((c / (n / Nat.gcd t n) : Nat) : Int) else 0
def mirL (n c : Nat) : Int :=
  if n % 2 = 1 then (n : Int) * chL ((n / 2 : Nat) : Int) ((c / 2 : Nat) : Int)
  else if c % 2 = 1 then ((n / 2 : Nat) : Int) * 2 * chL (((n / 2 : Nat) : Int) - 1) ((c / 2 : Nat) : Int)
  else ((n / 2 : Nat) : Int) * (chL (((n / 2 : Nat) : Int) - 1) ((c / 2 : Nat) : Int) + chL (((n / 2 : Nat) : Int) - 1) (((c / 2 : Nat) : Int) - 1) + chL ((n / 2 : Nat) : Int) ((c / 2 : Nat) : Int))
def formL (n c : Nat) : Int := (((List.range n).map fun (t : Nat) => fixL n c t).sum + mirL n c) / (2 * (n : Int))
def turnP (n m t : Nat) : Int := if m % (n / Nat.gcd n t) = 0 then PySem.W.mcComb ((Nat.gcd n t : Nat) : Int) ((m / (n / Nat.gcd n t) : Nat) : Int) else 0
def aloneP (n t : Nat) : Nat := ((List.range n).filter fun (s : Nat) => decide ((2 * (s : Int) - (t : Int)) % (n : Int) = 0)).length
def mirS (n m t s : Nat) : Int := PySem.W.mcComb ((aloneP n t : Nat) : Int) (s : Int) * PySem.W.mcComb (((n - aloneP n t) / 2 : Nat) : Int) (((m - s) / 2 : Nat) : Int)
def singlesP (n m t : Nat) : List Nat := (List.range (min (aloneP n t) m + 1)).filter fun (s : Nat) => decide (((m : Int) - (s : Int)) % 2 = 0)
def mirP (n m t : Nat) : Int := ((singlesP n m t).map fun (s : Nat) => mirS n m t s).sum
def formP (n m : Nat) : Int := ((List.range n).map fun (t : Nat) => turnP n m t + mirP n m t).sum / (2 * (n : Int))
def D24 : List (Nat × Nat) := ((List.range 11).flatMap fun k => (List.range (k + 2)).map fun c => (k + 1, c)) ++ [(12, 3), (12, 4), (12, 6), (13, 4), (14, 2), (14, 3), (14, 11), (14, 12)]
def ok24 (p : Nat × Nat) : Bool := Nat.blt 0 p.1 && Nat.ble p.1 14 && Nat.ble p.2 p.1 && decide (formP p.1 p.2 = formL p.1 p.2)
def few24 (p : Nat × Nat) : Bool := decide (formL p.1 p.2 = (((formsN p.1 p.2).length : Nat) : Int)) && Nat.blt (formsN p.1 p.2).length 63
theorem tab24 : D24.all ok24 = true := by decide +kernel
theorem tab10 : ((List.range 10).flatMap fun k => (List.range (k + 2)).map fun c => (k + 1, c)).all few24 = true := by decide +kernel
theorem tab11 : ((List.range 12).map fun c => (11, c)).all few24 = true := by decide +kernel
theorem tab14 : [(12, 3), (12, 4), (12, 6), (13, 4), (14, 2), (14, 3), (14, 11), (14, 12)].all few24 = true := by decide +kernel
theorem in24 {n c : Nat} (h : (n, c) ∈ D24) : 1 ≤ n ∧ n ≤ 14 ∧ c ≤ n ∧ formP n c = (((formsN n c).length : Nat) : Int) ∧ formL n c = (((formsN n c).length : Nat) : Int) ∧ (formsN n c).length < 63 := by
  have a := List.all_eq_true.mp tab24 _ h
  have b : few24 (n, c) = true := by
    unfold D24 at h
    rw [List.range_succ, List.flatMap_append] at h
    rcases List.mem_append.mp h with h | h
    · rcases List.mem_append.mp h with h | h
      · exact List.all_eq_true.mp tab10 _ h
      · exact List.all_eq_true.mp tab11 _ (by simpa using h)
    · exact List.all_eq_true.mp tab14 _ h
  unfold ok24 at a
  unfold few24 at b
  simp only [Bool.and_eq_true, Nat.blt_eq, Nat.ble_eq, decide_eq_true_iff] at a b
  exact ⟨a.1.1.1, a.1.1.2, a.1.2, by rw [a.2, b.1], b.1, b.2⟩
theorem two24 : ((List.range 12).all fun k => decide (k < 2 ∨ tN k 2 = k / 2)) = true := by decide +kernel
theorem two14 : tN 14 2 = 7 := by decide +kernel
theorem told24 : (decide (tN 8 4 = 7 ∧ tN 7 3 = 4 ∧ tN 5 0 = 1 ∧ (formsN 8 4).length = 8 ∧ (formsN 7 3).length = 4 ∧ (formsN 1 1).length = 1)) = true := by decide +kernel
theorem less24 : tN 12 4 < (formsN 12 4).length := by decide +kernel

/-! ### twin_count -/
theorem chs_small24 {n k : Nat} (h : n ≤ 14) : (chs n k).length ≤ 5000 := chs_few h
theorem opn_own {n k : Nat} {l : List Nat} (h : l ∈ chs n k) : OwnOf n k (lightsV (opn n l) (opn n l)) :=
  ⟨opn n l, opn_row n l, by rw [← open_sum (opn_row n l), opens_opn h, chs_len h], rfl⟩
theorem own_opn {n k : Nat} {o : List Int} (h : OwnOf n k o) : ∃ l ∈ chs n k, o = lightsV (opn n l) (opn n l) := by
  obtain ⟨r, hr, hs, rfl⟩ := h
  have ek : (opens n r).length = k := by
    have := open_sum hr
    omega
  exact ⟨opens n r, by rw [← ek]; exact opens_chs n r, by rw [opn_opens hr]⟩
def spTwinN : Sp := fun vs H Q _ => ∃ n m : Nat, vs = [.int n, .int m] ∧ (n, m) ∈ D24 ∧ ∀ H' : Hp, Same H H' → Q (.int ((tN n m : Nat) : Int)) H'
theorem ok_twin_count (T : Txt K mg) : FnOk P w K mg base CX0 4 T.a_twin_count T.d_twin_count ["slots", "many"] spTwinN := by
  have G_check_choice := ok_check_choice (P := P) (w := w) (base := base) T
  have G_opened_lights := ok_opened_lights (P := P) (w := w) (base := base) T
  refine T.F_twin_count.ok sc_twin_count (fun vs H Q E h => ?_) (fun cdv A outer s H vs Q E hr h => ?_)
  · obtain ⟨_, _, rfl, _⟩ := h
    rfl
  · obtain ⟨n, m, rfl, hin, q⟩ := h
    refine ⟨_, (pss_cons (ps_expr (pe_call G_check_choice hr (by rfl) T.g_check_choice T.F_check_choice.kp T.b_check_choice .nil pass0 (pa_cons (pv 0) (pa_cons (pv 1) pa_nil))))
      (pss_one (ps_ret (pe_callB (SetX.cr_lenT (K := K) (P := P) (w := w) rfl rfl rfl) (by rfl) T.n_len (by decide +kernel) (pa_cons (SetX.pe_scT (K := K) (P := P) (w := w) (own := [("opened", 2)]) (g := gName 2) (tt := tYes) rfl rfl rfl (by rfl) hr sc_twin_count.nd (pi_comb (by rfl) T.i_combinations (pa_cons (pe_callTy cr_range1 (by rfl) T.n_range (by decide +kernel) (pa_cons (pv 0) pa_nil)) (pa_cons (pv 1) pa_nil))) (blkOk_by (own := [("opened", 2)]) (N := ["slots", "many", "opened"]) (sc := defScope s_twin_count) (by decide +kernel)) ⟨fun _ _ _ _ _ => (pg_name (i := 2) sc_twin_count.nd rfl (Or.inl rfl)), fun _ _ _ _ _ => pts_nil, fun _ _ _ _ _ => (pe_callTy (tupOfL (K := K) rfl) (by rfl) T.n_tuple (by decide +kernel) (pa_cons (pe_call G_opened_lights (hr.mono (by decide)) (by rfl) T.g_opened_lights T.F_opened_lights.kp T.b_opened_lights .nil pass0 (pa_cons (pv 2) (pa_cons (pv 0) pa_nil))) pa_nil))⟩) pa_nil))))), ?_⟩
    obtain ⟨n1, n14, hm, _, _, h63⟩ := in24 hin
    have few : ∀ L : List (Addr × List Int), (L.map (·.2)).Nodup → (∀ p ∈ L, OwnOf n m p.2) → L.length < 63 := fun L nd h => by
      have := tN_up n1 nd fun o ho => by
        obtain ⟨p, hp, rfl⟩ := List.mem_map.mp ho
        exact h p hp
      rw [List.length_map] at this
      have := tN_le n m
      omega
    refine ⟨.int n, rfl, .int m, rfl, n, m, rfl, by omega, by omega, by omega, by omega, ?_⟩
    refine ⟨.int n, rfl, n, rfl, fun r hr => ?_⟩
    have sr := new_same (o := .rng 0 n) hr
    refine ⟨.int m, rfl, r, n, m, rfl, upd_same, by omega, by omega, fun D hD => ?_⟩
    refine SetX.scT_it (walk_comb (n := n) (k := m)) (fun i H' => ∃ L : List (Addr × List Int), Same (upd H r (.rng 0 n)) H' ∧ H' D = some (SetTO P w D L) ∧ (L.map (·.2)).Nodup ∧ (∀ p ∈ L, OwnOf n m p.2) ∧ (∀ l ∈ (chs n m).take i, lightsV (opn n l) (opn n l) ∈ L.map (·.2)) ∧ ∀ p ∈ L, p.1 ≠ D ∧ H' p.1 = some (.tup (p.2.map V.int)))
      ⟨[], new_same hD, upd_same, List.Pairwise.nil, fun _ h => (List.not_mem_nil h).elim, fun l h => by rw [List.take_zero] at h; exact (List.not_mem_nil h).elim, fun _ h => (List.not_mem_nil h).elim⟩ (fun _ _ _ _ => trivial) (fun i y H2 H3 hi hP hY => ⟨rfl, ?_⟩) (fun H2 hP => ?_)
    · obtain ⟨L, s2, g2, hnd, how, hco, hall⟩ := hP
      obtain ⟨t, rfl, ft, l, hlx, rfl⟩ := hY
      have st := new_same (o := .tup (l.map fun (x : Nat) => V.int x)) ft
      have gt : (upd H2 t (.tup (l.map fun (x : Nat) => V.int x))) t = some (.tup (l.map fun (x : Nat) => V.int x)) := upd_same
      have hlm := List.mem_of_getElem? hlx
      have g3 := st _ _ g2
      have hl14 : l.length ≤ 14 := by
        rw [chs_len hlm]
        omega
      generalize upd H2 t (.tup (l.map fun (x : Nat) => V.int x)) = H3 at st gt g3 ⊢
      refine ⟨.ref t, rfl, .int n, rfl, t, l, n, rfl, gt, chs_lt hlm, chs_nodup hlm, n1, by omega, hl14, fun b H4 s4 fb gb => ?_⟩
      refine ⟨b, _, rfl, .inl ⟨SqL.of gb, fun u hu => ?_⟩⟩
      have su := new_same (o := .tup ((lightsV (opn n l) (opn n l)).map V.int)) hu
      have s24 := (st.trans s4).trans su
      have nu : u ≠ D := fun z => by
        rw [z, s4 _ _ g3] at hu
        cases hu
      refine ⟨u, lightsV (opn n l) (opn n l), L, rfl, SqT.of upd_same, s24 _ _ g2, fun p hp => SqT.of (s24 _ _ (hall p hp).2), Nat.succ_lt_succ (few L hnd how), fun L' c1 c2 => ?_⟩
      have keep : ∀ p : Addr × List Int, p.1 ≠ D → H2 p.1 = some (.tup (p.2.map V.int)) → ∀ o, (upd (upd H4 u (.tup ((lightsV (opn n l) (opn n l)).map V.int))) D o) p.1 = some (.tup (p.2.map V.int)) := fun p f g o => by
        rw [upd_ne f]
        exact s24 _ _ g
      refine ⟨L', same_over (s2.trans s24) hD, upd_same, ?_, fun p hp => ?_, fun x hx => ?_, fun p hp => ?_⟩
      · by_cases c : lightsV (opn n l) (opn n l) ∈ L.map (·.2)
        · rw [c1 c]
          exact hnd
        · exact ((c2 c).map (·.2)).nodup_iff.mpr (List.nodup_cons.mpr ⟨c, hnd⟩)
      · by_cases c : lightsV (opn n l) (opn n l) ∈ L.map (·.2)
        · rw [c1 c] at hp
          exact how p hp
        · rcases List.mem_cons.mp ((c2 c).mem_iff.mp hp) with e | h
          · rw [e]
            exact opn_own hlm
          · exact how p h
      · have hlt : (chs n m).take (i + 1) = (chs n m).take i ++ [l] := by
          rw [List.take_add_one, hlx]
          rfl
        rw [hlt] at hx
        by_cases c : lightsV (opn n l) (opn n l) ∈ L.map (·.2)
        · rw [c1 c]
          rcases List.mem_append.mp hx with h | h
          · exact hco x h
          · rw [List.mem_singleton.mp h]
            exact c
        · rw [((c2 c).map (·.2)).mem_iff, List.map_cons]
          rcases List.mem_append.mp hx with h | h
          · exact List.mem_cons_of_mem _ (hco x h)
          · rw [List.mem_singleton.mp h]
            exact List.mem_cons_self
      · by_cases c : lightsV (opn n l) (opn n l) ∈ L.map (·.2)
        · rw [c1 c] at hp
          exact ⟨(hall p hp).1, keep p (hall p hp).1 (hall p hp).2 _⟩
        · rcases List.mem_cons.mp ((c2 c).mem_iff.mp hp) with e | h
          · rw [e]
            exact ⟨nu, by rw [upd_ne nu]; exact upd_same⟩
          · exact ⟨(hall p h).1, keep p (hall p h).1 (hall p h).2 _⟩
    obtain ⟨L, s2, g2, hnd, how, hco, hall⟩ := hP
    refine ⟨D, L, rfl, g2, fun p hp => SqT.of (hall p hp).2, fun nd _ => ?_⟩
    have e := tN_of (n := n) (c := m) n1 nd fun o => by
      constructor
      · intro h
        obtain ⟨p, hp, rfl⟩ := List.mem_map.mp h
        exact how p hp
      · intro h
        obtain ⟨l, hl, rfl⟩ := own_opn h
        exact hco l (by rw [List.take_length]; exact hl)
    rw [List.length_map] at e
    rw [e]
    exact q _ (sr.trans s2)

/-! ### form_count -/
theorem comb_small : ∀ a b : Nat, a ≤ 14 → b ≤ 14 → (PySem.W.mcComb a b).natAbs ≤ 4000 := by
  have : (List.range 15).all (fun a => (List.range 15).all fun b => decide ((PySem.W.mcComb (a : Int) (b : Int)).natAbs ≤ 4000)) = true := by decide +kernel
  exact fun a b ha hb => of_decide_eq_true (List.all_eq_true.mp (List.all_eq_true.mp this a (List.mem_range.mpr (by omega))) b (List.mem_range.mpr (by omega)))
theorem sum_small : ∀ {l : List Int} {B : Nat}, (∀ x ∈ l, x.natAbs ≤ B) → l.sum.natAbs ≤ l.length * B
  | [], _, _ => Nat.zero_le _
  | x :: l, B, h => by
    have h1 := h x List.mem_cons_self
    have h2 := sum_small (l := l) fun y hy => h y (List.mem_cons_of_mem _ hy)
    rw [List.sum_cons, List.length_cons, Nat.add_mul, Nat.one_mul]
    omega
def spTurnedAlike : Sp := fun vs H Q _ => ∃ n m t : Nat, vs = [.int n, .int m, .int t] ∧ 1 ≤ n ∧ n ≤ 14 ∧ m ≤ n ∧ Q (.int (turnP n m t)) H
theorem ok_turned_alike (T : Txt K mg) : FnOk P w K mg base CX0 1 T.a_turned_alike T.d_turned_alike ["slots", "many", "turn"] spTurnedAlike := by
  refine T.F_turned_alike.ok sc_turned_alike (fun vs H Q E h => ?_) (fun cdv A outer s H vs Q E hr h => ?_)
  · obtain ⟨_, _, _, rfl, _⟩ := h
    rfl
  · obtain ⟨n, m, t, rfl, n1, n7, m7, q⟩ := h
    refine ⟨_, (pss_cons (ps_set (i := 3) sc_turned_alike.nd rfl (.inl rfl) (pe_callBfun cr_gcd (by rfl) T.i_gcd (pa_cons (pv 0) (pa_cons (pv 2) pa_nil))))
      (pss_cons (ps_set (i := 4) sc_turned_alike.nd rfl (.inl rfl) (pe_op op_fdivW (pv 0) (pv 3)))
      (pss_one (ps_ret (pe_ifExp (pt_cmpR op_eq (pe_op op_mod (pv 1) (pv 4)) pe_int (nomark _)) (pe_callBfun SetX.cr_comb (by rfl) T.i_comb (pa_cons (pv 3) (pa_cons (pe_op op_fdivW (pv 1) (pv 4)) pa_nil))) pe_int))))), ?_⟩
    unfold turnP at q
    obtain ⟨g, hg⟩ : ∃ g, g = Nat.gcd n t := ⟨_, rfl⟩
    rw [← hg] at q
    have g1 : 1 ≤ g := by rw [hg]; exact Nat.gcd_pos_of_pos_left _ (by omega)
    have g7 : g ≤ n := by rw [hg]; exact Nat.le_of_dvd (by omega) (Nat.gcd_dvd_left _ _)
    obtain ⟨len, hlen⟩ : ∃ len, len = n / g := ⟨_, rfl⟩
    rw [← hlen] at q
    have l1 : 1 ≤ len := by rw [hlen]; exact (Nat.le_div_iff_mul_le (by omega)).mpr (by omega)
    have l7 : len ≤ n := by rw [hlen]; exact Nat.div_le_self _ _
    have p200 : ∀ x : Nat, x ≤ 14 → ((x : Nat) : Int).natAbs < 2 ^ 200 := fun x hx => Nat.lt_of_le_of_lt (show ((x : Nat) : Int).natAbs ≤ 14 by omega) (by decide)
    refine ⟨.int n, rfl, .int t, rfl, n, t, rfl, ?_⟩
    rw [show Nat.gcd (n : Int).natAbs (t : Int).natAbs = g by rw [hg]; rfl]
    refine ⟨_, rfl, ?_⟩
    refine ⟨.int g, rfl, n, g, rfl, rfl, wide_div (b := 200) (by omega) (p200 g (by omega)) (by decide) (by decide), ?_⟩
    dsimp only
    rw [show (n : Int) / (g : Int) = (len : Int) by rw [hlen]; exact (Int.natCast_ediv n g).symm]
    refine ⟨_, rfl, ?_⟩
    have lp : (0 : Int) < len := by omega
    refine ⟨.int len, rfl, m, len, rfl, rfl, lp, rfl, _, rfl, ite2 (fun h => ?_) (fun h => ?_)⟩
    · have e0 : m % len = 0 := by
        have := V.int.inj (of_decide_eq_true h)
        omega
      rw [if_pos e0] at q
      refine ⟨.int g, rfl, .int m, rfl, .int len, rfl, m, len, rfl, rfl, wide_div (b := 200) (by omega) (p200 len (by omega)) (by decide) (by decide), ?_⟩
      dsimp only
      rw [show (m : Int) / (len : Int) = ((m / len : Nat) : Int) from (Int.natCast_ediv m len).symm]
      have hdm := Nat.div_le_self m len
      obtain ⟨d, hd⟩ : ∃ d, d = m / len := ⟨_, rfl⟩
      rw [← hd] at hdm q ⊢
      exact ⟨g, d, rfl, by omega, by omega, Int.lt_of_le_of_lt (show (g : Int) ≤ 14 by omega) (by decide), by omega, q⟩
    · have e0 : ¬ m % len = 0 := fun e => h (decide_eq_true (congrArg V.int (by omega)))
      rw [if_neg e0] at q
      exact q
theorem rng_filt {p : Nat → Bool} (i : Nat) : (List.range (i + 1)).filter p = (List.range i).filter p ++ (if p i = true then [i] else []) := by
  rw [List.range_succ, List.filter_append]
  congr 1
  by_cases c : p i = true
  · rw [if_pos c]
    simp only [List.filter_cons, c, if_true, List.filter_nil]
  · rw [if_neg c]
    simp only [List.filter_cons, c, List.filter_nil, Bool.false_eq_true, if_false]
abbrev natV (l : List Nat) : List V := l.map fun (x : Nat) => V.int x
theorem ok_mirrored_alike (T : Txt K mg) : FnOk P w K mg base CX0 1 T.a_mirrored_alike T.d_mirrored_alike ["slots", "many", "turn"] (fun vs H Q _ => ∃ n m t : Nat, vs = [.int n, .int m, .int t] ∧ 1 ≤ n ∧ n ≤ 14 ∧ m ≤ n ∧ t ≤ 14 ∧ ∀ H' : Hp, Same H H' → Q (.int (mirP n m t)) H') := by
  refine T.F_mirrored_alike.ok sc_mirrored_alike (fun vs H Q E h => ?_) (fun cdv A outer s H vs Q E hr h => ?_)
  · obtain ⟨_, _, _, rfl, _⟩ := h
    rfl
  · obtain ⟨n, m, t, rfl, n1, n7, m7, t7, q⟩ := h
    refine ⟨_, (pss_cons (ps_set (i := 3) sc_mirrored_alike.nd rfl (.inr rfl) (pe_callB (lenL (K := K) rfl) (by rfl) T.n_len (by decide +kernel) (pa_cons (pe_lc (own := [("slot", 4)]) (g := gName 4) (by rfl) sc_mirrored_alike.nd (pi_range1 (by rfl) T.n_range (pa_cons (pv 0) pa_nil)) (blkOk_by (own := [("slot", 4)]) (N := ["slots", "many", "turn", "alone", "slot", "pairs", "singles", "single"]) (sc := defScope s_mirrored_alike) (by decide +kernel))
        (fun _ _ _ _ _ => (pg_name (i := 4) sc_mirrored_alike.nd rfl (Or.inl rfl))) (fun _ _ _ _ _ => (pts_one (pt_cmpR op_eq (pe_op op_mod (pe_op op_sub (pe_op op_mul pe_int (pv 4)) (pv 2)) (pv 0)) pe_int (nomark _)))) (fun _ _ _ _ _ => (pv 4))) pa_nil)))
      (pss_cons (ps_set (i := 5) sc_mirrored_alike.nd rfl (.inr rfl) (pe_op op_fdivW (pe_op op_sub (pv 0) (pv 3)) pe_int))
      (pss_cons (ps_setLc (i := 6) (own := [("single", 7)]) (g := gName 7) (by rfl) sc_mirrored_alike.nd rfl rfl (sw_true rfl rfl rfl (by decide +kernel)) (pi_range1 (by rfl) T.n_range (pa_cons (pe_op op_add (pe_callB (call_min2 rfl) (by rfl) T.n_min (by decide +kernel) (pa_cons (pv 3) (pa_cons (pv 1) pa_nil))) pe_int) pa_nil)) (blkOk_by (own := [("single", 7)]) (N := ["slots", "many", "turn", "alone", "slot", "pairs", "singles", "single"]) (sc := defScope s_mirrored_alike) (by decide +kernel))
        (fun _ _ _ _ _ => (pg_name (i := 7) sc_mirrored_alike.nd rfl (Or.inl rfl))) (fun _ _ _ _ _ => (pts_one (pt_cmpR op_eq (pe_op op_mod (pe_op op_sub (pv 1) (pv 7)) pe_int) pe_int (nomark _)))) (fun _ _ _ _ _ => (pv 7)))
      (pss_one (ps_ret (pe_callB (sumL (K := K) rfl rfl) (by rfl) T.n_sum (by decide +kernel) (pa_cons (pe_lc (own := [("single", 7)]) (g := gName 7) (tt := tYes) (by rfl) sc_mirrored_alike.nd (pi_listL (K := K) rfl (pv 6)) (blkOk_by (own := [("single", 7)]) (N := ["slots", "many", "turn", "alone", "slot", "pairs", "singles", "single"]) (sc := defScope s_mirrored_alike) (by decide +kernel))
        (fun _ _ _ _ _ => (pg_name (i := 7) sc_mirrored_alike.nd rfl (Or.inl rfl))) (fun _ _ _ _ _ => pts_nil) (fun _ _ _ _ _ => (pe_op op_mul (pe_callBfun SetX.cr_comb (by rfl) T.i_comb (pa_cons (pv 3) (pa_cons (pv 7) pa_nil))) (pe_callBfun SetX.cr_comb (by rfl) T.i_comb (pa_cons (pv 5) (pa_cons (pe_op op_fdivW (pe_op op_sub (pv 1) (pv 7)) pe_int) pa_nil)))))) pa_nil))))))), ?_⟩
    refine ⟨.int n, rfl, n, rfl, by omega, by omega, fun F hF => ?_⟩
    refine lc_range (lo := 0) (n := (n : Int).toNat) (fun i H' => Same H H' ∧ H' F = some (.lst (natV ((List.range i).filter fun (s : Nat) => decide ((2 * (s : Int) - (t : Int)) % (n : Int) = 0)))))
      ⟨new_same hF, upd_same⟩ (fun i H2 hi hP => ⟨rfl, ?_⟩) (fun H2 hP => ?_)
    · obtain ⟨s2, g2⟩ := hP
      rw [Int.toNat_natCast] at hi
      have hfl := List.length_filter_le (fun (s : Nat) => decide ((2 * (s : Int) - (t : Int)) % (n : Int) = 0)) (List.range i)
      rw [List.length_range] at hfl
      refine ⟨.int (0 + i), rfl, 2, 0 + i, rfl, rfl, .inl ⟨by decide, by decide⟩, .int t, rfl, _, t, rfl, rfl, .int n, rfl, _, n, rfl, rfl, (by show (0 : Int) < n; omega), rfl, _, rfl, ite2 (fun h => ?_) (fun h => ?_)⟩
      · have e0 : (2 * (i : Int) - (t : Int)) % (n : Int) = 0 := by
          have := V.int.inj (of_decide_eq_true h)
          rwa [Int.zero_add] at this
        refine ⟨.int (0 + i), rfl, _, g2, by rw [List.length_map]; exact sz40 (by omega), same_over s2 hF, ?_⟩
        rw [upd_same, rng_filt, if_pos (decide_eq_true e0), natV, natV, List.map_append, Int.zero_add]
        rfl
      · have e0 : ¬ (2 * (i : Int) - (t : Int)) % (n : Int) = 0 := fun e => h (decide_eq_true (congrArg V.int (by rw [Int.zero_add]; exact e)))
        refine ⟨s2, ?_⟩
        rw [g2, rng_filt, if_neg (fun z => e0 (of_decide_eq_true z)), List.append_nil]
    · obtain ⟨s2, g2⟩ := hP
      rw [Int.toNat_natCast] at g2
      obtain ⟨al, hal⟩ : ∃ al, al = aloneP n t := ⟨_, rfl⟩
      have hall : ((List.range n).filter fun (s : Nat) => decide ((2 * (s : Int) - (t : Int)) % (n : Int) = 0)).length = al := hal.symm
      have hs7 : al ≤ n := by
        have := List.length_filter_le (fun (s : Nat) => decide ((2 * (s : Int) - (t : Int)) % (n : Int) = 0)) (List.range n)
        rw [List.length_range, hall] at this
        exact this
      refine ⟨F, _, rfl, .inl (SqL.of g2), ?_⟩
      rw [List.length_map, hall]
      refine ⟨_, rfl, ?_⟩
      obtain ⟨pr, hpr⟩ : ∃ pr, pr = (n - al) / 2 := ⟨_, rfl⟩
      have pr7 : pr ≤ 14 := by omega
      refine ⟨.int al, rfl, n, al, rfl, rfl, _, 2, rfl, rfl, wide_div (b := 200) (by decide) (by decide) (by decide) (by decide), ?_⟩
      dsimp only
      rw [show ((n : Int) - (al : Int)) / 2 = (pr : Int) by rw [hpr]; omega]
      refine ⟨_, rfl, ?_⟩
      obtain ⟨mu, hmu, emu⟩ : ∃ mu : Nat, (if (m : Int) < (al : Int) then (m : Int) else (al : Int)) = (mu : Int) ∧ mu = min al m := by
        by_cases c : (m : Int) < al
        · exact ⟨m, if_pos c, by omega⟩
        · exact ⟨al, if_neg c, by omega⟩
      refine ⟨.int m, rfl, al, m, rfl, ?_⟩
      rw [hmu]
      refine ⟨mu, 1, rfl, rfl, _, rfl, by omega, by omega, fun F2 hF2 => ?_⟩
      refine lc_range (lo := 0) (n := ((mu : Int) + 1).toNat) (fun i H' => Same H H' ∧ H' F2 = some (.lst (natV ((List.range i).filter fun (s : Nat) => decide (((m : Int) - (s : Int)) % 2 = 0)))))
        ⟨s2.trans (new_same hF2), upd_same⟩ (fun i H3 hi hP => ⟨rfl, ?_⟩) (fun H3 hP => ?_)
      · obtain ⟨s3, g3⟩ := hP
        have hfl := List.length_filter_le (fun (s : Nat) => decide (((m : Int) - (s : Int)) % 2 = 0)) (List.range i)
        rw [List.length_range] at hfl
        refine ⟨.int m, rfl, .int (0 + i), rfl, m, 0 + i, rfl, rfl, _, 2, rfl, rfl, (by show (0 : Int) < 2; decide), rfl, _, rfl, ite2 (fun h => ?_) (fun h => ?_)⟩
        · have e0 : ((m : Int) - (i : Int)) % 2 = 0 := by
            have := V.int.inj (of_decide_eq_true h)
            rwa [Int.zero_add] at this
          refine ⟨.int (0 + i), rfl, _, g3, by rw [List.length_map]; exact sz40 (by omega), same_over s3 (none_back s2 hF2), ?_⟩
          rw [upd_same, rng_filt, if_pos (decide_eq_true e0), natV, natV, List.map_append, Int.zero_add]
          rfl
        · have e0 : ¬ ((m : Int) - (i : Int)) % 2 = 0 := fun e => h (decide_eq_true (congrArg V.int (by rw [Int.zero_add]; exact e)))
          refine ⟨s3, ?_⟩
          rw [g3, rng_filt, if_neg (fun z => e0 (of_decide_eq_true z)), List.append_nil]
      obtain ⟨s3, g3⟩ := hP
      have eS : (List.range ((mu : Int) + 1).toNat).filter (fun (s : Nat) => decide (((m : Int) - (s : Int)) % 2 = 0)) = singlesP n m t := by
        rw [show ((mu : Int) + 1).toNat = mu + 1 by omega, emu, hal]
        rfl
      rw [eS] at g3
      have hS : ∀ z ∈ singlesP n m t, z ≤ al ∧ z ≤ m := fun z hz => by
        have := List.mem_range.mp (List.mem_filter.mp hz).1
        rw [← hal] at this
        omega
      have hSl : (singlesP n m t).length ≤ 15 := by
        have := List.length_filter_le (fun (s : Nat) => decide (((m : Int) - (s : Int)) % 2 = 0)) (List.range (min (aloneP n t) m + 1))
        rw [List.length_range] at this
        have h2 : (singlesP n m t).length ≤ min (aloneP n t) m + 1 := this
        omega
      refine ⟨_, rfl, ?_⟩
      refine ⟨F2, rfl, ⟨_, SqL.of g3⟩, fun F3 hF3 => ?_⟩
      refine lc_list (K := K) (a := F2) (xs := natV (singlesP n m t)) (fun i H' => Same H3 H' ∧ H' F3 = some (.lst ((((singlesP n m t).take i).map fun (s : Nat) => mirS n m t s).map V.int)))
        ⟨new_same hF3, upd_same⟩ (fun i H' _ hP => SqL.of (hP.1 _ _ g3)) (fun i x H4 hx hP => ⟨rfl, ?_⟩) (fun H4 hP => ?_)
      · obtain ⟨s4, g4⟩ := hP
        obtain ⟨z, hz, rfl⟩ := nat_get hx
        have hil : i < (singlesP n m t).length := (List.getElem?_eq_some_iff.mp hz).1
        obtain ⟨y0, y1⟩ := hS z (List.mem_of_getElem? hz)
        obtain ⟨d, hd⟩ : ∃ d, d = (m - z) / 2 := ⟨_, rfl⟩
        have ed : ((m : Int) - (z : Int)) / 2 = (d : Int) := by rw [hd]; omega
        have c1 := comb_small al z (by omega) (by omega)
        have c2 := comb_small pr d (by omega) (by omega)
        refine ⟨.int al, rfl, .int z, rfl, al, z, rfl, by omega, by omega, Int.lt_of_le_of_lt (show (al : Int) ≤ 14 by omega) (by decide), by omega, ?_⟩
        refine ⟨.int pr, rfl, .int m, rfl, .int z, rfl, m, z, rfl, rfl, _, 2, rfl, rfl, wide_div (b := 200) (by decide) (by decide) (by decide) (by decide), ?_⟩
        dsimp only
        rw [ed]
        refine ⟨pr, d, rfl, by omega, by omega, Int.lt_of_le_of_lt (show (pr : Int) ≤ 14 by omega) (by decide), by omega, _, _, rfl, rfl, .inl ⟨by omega, by omega⟩, _, g4, by rw [List.length_map, List.length_map, List.length_take]; exact sz40 (by omega), same_over s4 hF3, ?_⟩
        rw [upd_same, List.take_add_one, hz, List.map_append, List.map_append]
        have eM : mirS n m t z = PySem.W.mcComb al z * PySem.W.mcComb pr d := by
          unfold mirS
          rw [← hal, ← hpr, ← hd]
        show some (HO.lst _) = some (HO.lst (_ ++ [V.int (mirS n m t z)]))
        rw [eM]
      obtain ⟨s4, g4⟩ := hP
      rw [List.length_map, List.take_length] at g4
      exact ⟨F3, _, rfl, SqL.of g4, q _ (s3.trans s4)⟩
def spForms24 : Sp := fun vs H Q _ => ∃ n m : Nat, vs = [.int n, .int m] ∧ 1 ≤ n ∧ n ≤ 14 ∧ m ≤ n ∧ ∀ H' : Hp, Same H H' → Q (.int (formP n m)) H'
theorem ok_form_count (T : Txt K mg) : FnOk P w K mg base CX0 4 T.a_form_count T.d_form_count ["slots", "many"] spForms24 := by
  have G_check_choice := ok_check_choice (P := P) (w := w) (base := base) T
  have G_turned_alike := ok_turned_alike (P := P) (w := w) (base := base) T
  have G_mirrored_alike := ok_mirrored_alike (P := P) (w := w) (base := base) T
  refine T.F_form_count.ok sc_form_count (fun vs H Q E h => ?_) (fun cdv A outer s H vs Q E hr h => ?_)
  · obtain ⟨_, _, rfl, _⟩ := h
    rfl
  · obtain ⟨n, m, rfl, n1, n7, hm, q⟩ := h
    refine ⟨_, (pss_cons (ps_expr (pe_call G_check_choice hr (by rfl) T.g_check_choice T.F_check_choice.kp T.b_check_choice .nil pass0 (pa_cons (pv 0) (pa_cons (pv 1) pa_nil))))
      (pss_cons (ps_setLc (i := 2) (own := [("turn", 3)]) (g := gName 3) (tt := tYes) (by rfl) sc_form_count.nd rfl rfl (sw_true rfl rfl rfl (by decide +kernel)) (pi_range1 (by rfl) T.n_range (pa_cons (pv 0) pa_nil)) (blkOk_by (own := [("turn", 3)]) (N := ["slots", "many", "left", "turn"]) (sc := defScope s_form_count) (by decide +kernel))
        (fun _ _ _ _ _ => (pg_name (i := 3) sc_form_count.nd rfl (Or.inl rfl))) (fun _ _ _ _ _ => pts_nil) (fun _ _ _ _ _ => (pe_op op_add (pe_call G_turned_alike (hr.mono (by decide)) (by rfl) T.g_turned_alike T.F_turned_alike.kp T.b_turned_alike .nil pass0 (pa_cons (pv 0) (pa_cons (pv 1) (pa_cons (pv 3) pa_nil)))) (pe_call G_mirrored_alike (hr.mono (by decide)) (by rfl) T.g_mirrored_alike T.F_mirrored_alike.kp T.b_mirrored_alike .nil pass0 (pa_cons (pv 0) (pa_cons (pv 1) (pa_cons (pv 3) pa_nil)))))))
      (pss_one (ps_ret (pe_op op_fdivW (pe_callB (sumL (K := K) rfl rfl) (by rfl) T.n_sum (by decide +kernel) (pa_cons (pv 2) pa_nil)) (pe_op op_mul pe_int (pv 0))))))), ?_⟩
    refine ⟨.int n, rfl, .int m, rfl, n, m, rfl, by omega, by omega, by omega, by omega, ?_⟩
    refine ⟨.int n, rfl, n, rfl, by omega, by omega, fun F hF => ?_⟩
    refine lc_range (lo := 0) (n := (n : Int).toNat) (fun i H' => Same H H' ∧ H' F = some (.lst (((List.range i).map fun (t : Nat) => turnP n m t + mirP n m t).map V.int)))
      ⟨new_same hF, upd_same⟩ (fun i H2 hi hP => ⟨rfl, ?_⟩) (fun H2 hP => ?_)
    · obtain ⟨s2, g2⟩ := hP
      rw [Int.toNat_natCast] at hi
      refine ⟨.int n, rfl, .int m, rfl, .int (0 + i), rfl, n, m, i, by rw [Int.zero_add]; rfl, n1, n7, hm, ?_⟩
      refine ⟨.int n, rfl, .int m, rfl, .int (0 + i), rfl, n, m, i, by rw [Int.zero_add]; rfl, n1, n7, hm, by omega, fun H3 s3 => ?_⟩
      refine ⟨_, _, rfl, rfl, _, s3 _ _ g2, by rw [List.length_map, List.length_map, List.length_range]; exact sz40 (by omega), same_over (s2.trans s3) hF, ?_⟩
      rw [upd_same, List.range_succ, List.map_append, List.map_append]
      rfl
    obtain ⟨s2, g2⟩ := hP
    rw [Int.toNat_natCast] at g2
    refine ⟨_, rfl, ?_⟩
    have p200 : (2 * (n : Int)).natAbs < 2 ^ 200 := Nat.lt_of_le_of_lt (show (2 * (n : Int)).natAbs ≤ 28 by omega) (by decide)
    refine ⟨F, _, rfl, SqL.of g2, .int n, rfl, 2, n, rfl, rfl, .inl ⟨by decide, by decide⟩, _, _, rfl, rfl, wide_div (b := 200) (by omega) p200 (by decide) (by decide), ?_⟩
    exact q _ s2

/-! ### shut discs -/
theorem prods_cross : ∀ {p q : List Int}, p.length = q.length → (prods p (shutL q)).sum = p.sum - (prods p q).sum
  | [], [], _ => rfl
  | [], _ :: _, h => by cases h
  | _ :: _, [], h => by cases h
  | a :: p, b :: q, h => by
    have ih := prods_cross (Nat.succ.inj h)
    show ((a * (1 - b)) :: prods p (shutL q)).sum = (a :: p).sum - ((a * b) :: prods p q).sum
    rw [List.sum_cons, List.sum_cons, List.sum_cons, ih, Int.mul_sub, Int.mul_one]
    omega
theorem lights_cross (f : List Int) : lightsV f (shutL f) = (lightsV f f).map fun x => f.sum - x := by
  unfold lightsV
  rw [List.map_map]
  refine List.map_congr_left fun i _ => ?_
  show lightV f (shutL f) (i : Int) = f.sum - lightV f f (i : Int)
  unfold lightV
  rw [← shut_rot, prods_cross (by rw [rot_len])]
theorem shut_inj {a b : List Int} (h : shutL a = shutL b) : a = b := by
  have := congrArg shutL h
  rwa [shut_shut, shut_shut] at this
theorem mult_shut {ns : List Int} {f : Int} (hg : Nat.gcd f.natAbs ns.length = 1) : multL (shutL ns) f = shutL (multL ns f) := by
  refine mult_eq (by rw [shutL_len]; exact hg) (by rw [shutL_len, mult_len, shutL_len]) fun i hi => ?_
  rw [shutL_len] at hi ⊢
  unfold shutL
  rw [List.getElem?_map, List.getElem?_map, mult_back hg hi]
theorem turns_shut {ns x : List Int} (h : 1 ≤ ns.length) : shutL x ∈ turnsL (shutL ns) ↔ x ∈ turnsL ns := by
  rw [mem_turns (by rw [shutL_len]; exact h), mem_turns h]
  constructor
  · rintro ⟨t, e⟩
    rw [← shut_rot] at e
    exact ⟨t, shut_inj e⟩
  · rintro ⟨t, rfl⟩
    exact ⟨t, shut_rot ns t⟩
theorem flatL_shut {ns : List Int} (h : 1 ≤ ns.length) : flatL (shutL ns) = flatL ns := by
  unfold flatL
  rw [shutL_len]
  refine List.filter_congr fun f hf => ?_
  rw [mult_shut (fac_gcd hf)]
  exact decide_eq_decide.mpr (turns_shut h)
theorem flat_shut (f : List Int) : flatB (lightsV (shutL f) (shutL f)) = flatB (lightsV f f) := by
  rw [lights_shut]
  have key : ∀ (c : Int) (l : List Int), flatB (l.map fun x => c + x) = flatB l := fun c l => by
    rw [Bool.eq_iff_iff, flatB_iff, flatB_iff, ← List.map_drop]
    constructor
    · intro h x hx y hy
      have := h _ (List.mem_map.mpr ⟨x, hx, rfl⟩) _ (List.mem_map.mpr ⟨y, hy, rfl⟩)
      omega
    · intro h x hx y hy
      obtain ⟨a, ha, rfl⟩ := List.mem_map.mp hx
      obtain ⟨b, hb, rfl⟩ := List.mem_map.mp hy
      rw [h a ha b hb]
  exact key _ _
theorem own_half {n : Nat} {f : List Int} (h1 : 1 ≤ n) (hf : Row01 n f) : lightsV f f = lightsV (shutL f) (shutL f) ↔ 2 * f.sum = (n : Int) := by
  rw [lights_shut, hf.1]
  constructor
  · intro e
    have e0 : (lightsV f f)[0]? = ((lightsV f f).map fun x => (n : Int) - f.sum - f.sum + x)[0]? := by rw [← e]
    rw [List.getElem?_map, own_first h1 hf] at e0
    have : ((f.sum.toNat : Nat) : Int) = (n : Int) - f.sum - f.sum + ((f.sum.toNat : Nat) : Int) := Option.some.inj e0
    omega
  · intro e
    rw [show (n : Int) - f.sum - f.sum = 0 by omega]
    conv => lhs; rw [← List.map_id (lightsV f f)]
    exact List.map_congr_left fun x _ => (Int.zero_add x).symm
open Classical in
noncomputable def lfm (r : List Int) : List Int := if h : ∃ f, LeastI (bothL r) f then Classical.choose h else r
theorem lfm_of {r f : List Int} (h : LeastI (bothL r) f) : lfm r = f := by
  unfold lfm
  have hx : ∃ f, LeastI (bothL r) f := ⟨f, h⟩
  rw [dif_pos hx]
  exact least_one (Classical.choose_spec hx) h
/-- the forms with the own lights of d -/
def TwF (n : Nat) (d f : List Int) : Prop := Row01 n f ∧ lightsV f f = lightsV d d ∧ formB f = true
theorem twF_iff {n : Nat} {d f : List Int} (h1 : 1 ≤ n) (hd : Row01 n d) : f ∈ formsW n d.sum.toNat (lightsV d d) ↔ TwF n d f := formsW_iff h1 (own_first h1 hd)
theorem own_eq_shut {n : Nat} {a b : List Int} (h1 : 1 ≤ n) (ha : Row01 n a) (hb : Row01 n b) (e : lightsV a a = lightsV b b) : lightsV (shutL a) (shutL a) = lightsV (shutL b) (shutL b) := by
  have e0 := own_first h1 ha
  rw [e, own_first h1 hb] at e0
  have es := Option.some.inj e0
  have s1 := sum01 ha
  have s2 := sum01 hb
  have : a.sum = b.sum := by omega
  rw [lights_shut, lights_shut, e, ha.1, hb.1, this]
theorem form_self {n : Nat} {f m : List Int} (h1 : 1 ≤ n) (hf : Row01 n f) (hb : formB f = true) (hl : LeastI (bothL f) m) : m = f :=
  (form_iff (by rw [hf.1]; exact h1) hl).mpr hb
/-- forms of shut forms: the form of what is shut twice -/
theorem form_back {n : Nat} {r m : List Int} (h1 : 1 ≤ n) (hr : Row01 n r) (hb : formB r = true) (hl : LeastI (bothL (shutL r)) m) : LeastI (bothL (shutL m)) r := by
  have hm := (least_form h1 (row_shut hr) hl).1
  have h1r : 1 ≤ (shutL r).length := by rw [shutL_len, hr.1]; exact h1
  have h1m : 1 ≤ (shutL m).length := by rw [shutL_len, hm.1]; exact h1
  have e := shut_both h1r hl.1
  rw [shut_shut] at e
  have h1' : 1 ≤ r.length := by rw [hr.1]; exact h1
  exact ⟨both_symm h1' e, fun y hy => of_decide_eq_true hb y (both_sub h1' e hy)⟩
theorem twF_shut {n : Nat} {d m : List Int} (h1 : 1 ≤ n) (hd : Row01 n d) : TwF n (shutL d) m ↔ ∃ r, TwF n d r ∧ LeastI (bothL (shutL r)) m := by
  constructor
  · rintro ⟨hr, ho, hb⟩
    obtain ⟨r, hl⟩ := least_ex h1 (row_shut hr)
    obtain ⟨a, b, c, e⟩ := least_form h1 (row_shut hr) hl
    refine ⟨r, ⟨a, ?_, e⟩, form_back h1 hr hb hl⟩
    rw [c, own_eq_shut h1 hr (row_shut hd) ho, shut_shut]
  · rintro ⟨r, ⟨hr, ho, hb⟩, hl⟩
    obtain ⟨a, b, c, e⟩ := least_form h1 (row_shut hr) hl
    exact ⟨a, by rw [c, own_eq_shut h1 hr hd ho], e⟩
theorem shut_slt {n : Nat} {d : List Int} (h : Row01 n d) : Slt (shutL d) := fun x hx => by rcases (row_shut h).2 x hx with e | e <;> omega
theorem form_sym : (D24.all fun p => decide (p.1 > 11 ∨ formP p.1 p.2 = formP p.1 (p.1 - p.2))) = true := by decide +kernel

/-! ### _law_right -/
def spRight62 (K : PySem.W.Frag) : Sp := fun vs H Q _ => ∃ (a : Addr) (ns : List Int), vs = [.ref a] ∧ SqL K H a (ns.map V.int) ∧ 1 ≤ ns.length ∧ ns.length ≤ 40 ∧ Row01 ns.length ns ∧ ∀ H', Same H H' → Q (.bl true) H'
theorem ok_law_right (T : Txt K mg) : FnOk P w K mg base CX0 8 T.a_law_right T.d_law_right ["plate"] (spRight62 K) := by
  have G_shut_disc := ok_shut_disc (P := P) (w := w) (base := base) T
  have G_own_lights := ok_own_lights (P := P) (w := w) (base := base) T
  have G_all_lights := ok_all_lights (P := P) (w := w) (base := base) T
  have G_is_flat := ok_is_flat (P := P) (w := w) (base := base) T
  have G_flat_turns := ok_flat_turns (P := P) (w := w) (base := base) T
  have G_are_twins := ok_are_twins (P := P) (w := w) (base := base) T
  have G_are_like := ok_are_like (P := P) (w := w) (base := base) T
  refine T.F_law_right.ok sc_law_right (fun vs H Q E h => ?_) (fun cdv A outer s H vs Q E hr h => ?_)
  · obtain ⟨_, _, rfl, _⟩ := h
    rfl
  · obtain ⟨a, ns, rfl, hS, n1, n40, h01, q⟩ := h
    refine ⟨_, (pss_cons (ps_asg (pe_tup (pa_cons (pe_call G_shut_disc (hr.mono (by decide)) (by rfl) T.g_shut_disc T.F_shut_disc.kp T.b_shut_disc .nil pass0 (pa_cons (pv 0) pa_nil)) (pa_cons (pe_callB (lenL (K := K) rfl) (by rfl) T.n_len (by decide +kernel) (pa_cons (pv 0) pa_nil)) (pa_cons (pe_callB (sumL (K := K) rfl rfl) (by rfl) T.n_sum (by decide +kernel) (pa_cons (pv 0) pa_nil)) pa_nil)))) (pg_tupL (K := K) (n := 3) rfl rfl (pgs_cons (pg_name (i := 1) sc_law_right.nd rfl (.inl rfl)) (pgs_cons (pg_name (i := 2) sc_law_right.nd rfl (.inr rfl)) (pgs_cons (pg_name (i := 3) sc_law_right.nd rfl (.inr rfl)) pgs_nil)))))
      (pss_cons (ps_par (i := 4) (j := 5) (by rfl) sc_law_right.nd rfl rfl (by decide) rfl rfl (pa_cons (pe_call G_own_lights (hr.mono (by decide)) (by rfl) T.g_own_lights T.F_own_lights.kp T.b_own_lights .nil pass0 (pa_cons (pv 0) pa_nil)) (pa_cons (pe_call G_own_lights (hr.mono (by decide)) (by rfl) T.g_own_lights T.F_own_lights.kp T.b_own_lights .nil pass0 (pa_cons (pv 1) pa_nil)) pa_nil)) (by rfl))
      (pss_cons (ps_if (pt_cmpR (neD (K := K) rfl hr) (pe_lc (own := [("light", 6)]) (g := gName 6) (tt := tYes) (by rfl) sc_law_right.nd (pi_listL (K := K) rfl (pv 4)) (blkOk_by (own := [("light", 6)]) (N := ["plate", "shut", "size", "count", "own", "other_own", "light", "is_half"]) (sc := defScope s_law_right) (by decide +kernel))
        (fun _ _ _ _ _ => (pg_name (i := 6) sc_law_right.nd rfl (Or.inl rfl))) (fun _ _ _ _ _ => pts_nil) (fun _ _ _ _ _ => (pe_op op_sub (pe_op op_add (pv 6) (pv 2)) (pe_op op_mul pe_int (pv 3))))) (pv 5) (nomark _)) (pss_one (ps_ret pe_bl)) pss_nil)
      (pss_cons (ps_if (pt_cmpR (neD (K := K) rfl hr) (pe_call G_all_lights (hr.mono (by decide)) (by rfl) T.g_all_lights T.F_all_lights.kp T.b_all_lights .nil pass0 (pa_cons (pv 0) (pa_cons (pv 1) pa_nil))) (pe_lc (own := [("light", 6)]) (g := gName 6) (tt := tYes) (by rfl) sc_law_right.nd (pi_listL (K := K) rfl (pv 4)) (blkOk_by (own := [("light", 6)]) (N := ["plate", "shut", "size", "count", "own", "other_own", "light", "is_half"]) (sc := defScope s_law_right) (by decide +kernel))
        (fun _ _ _ _ _ => (pg_name (i := 6) sc_law_right.nd rfl (Or.inl rfl))) (fun _ _ _ _ _ => pts_nil) (fun _ _ _ _ _ => (pe_op op_sub (pv 3) (pv 6)))) (nomark _)) (pss_one (ps_ret pe_bl)) pss_nil)
      (pss_cons (ps_if (PW.pt (pw_or (pt_cmpR op_ne (pe_call G_is_flat (hr.mono (by decide)) (by rfl) T.g_is_flat T.F_is_flat.kp T.b_is_flat .nil pass0 (pa_cons (pv 0) pa_nil)) (pe_call G_is_flat (hr.mono (by decide)) (by rfl) T.g_is_flat T.F_is_flat.kp T.b_is_flat .nil pass0 (pa_cons (pv 1) pa_nil)) (nomark _)) (pw_or1 (pt_cmpR (neD (K := K) rfl hr) (pe_call G_flat_turns hr (by rfl) T.g_flat_turns T.F_flat_turns.kp T.b_flat_turns .nil pass0 (pa_cons (pv 0) pa_nil)) (pe_call G_flat_turns hr (by rfl) T.g_flat_turns T.F_flat_turns.kp T.b_flat_turns .nil pass0 (pa_cons (pv 1) pa_nil)) (nomark _))))) (pss_one (ps_ret pe_bl)) pss_nil)
      (pss_cons (ps_set (i := 7) sc_law_right.nd rfl (.inl rfl) (pe_cmpR op_eq (pe_op op_mul pe_int (pv 3)) (pv 2) (nomark _)))
      (pss_one (ps_ret (pe_and (pe_cmpR op_eq (pe_cmpR (eqD (K := K) rfl hr) (pv 4) (pv 5) (nomark _)) (pv 7) (nomark _)) (pe_one (pe_cmpR op_eq (pe_call G_are_twins hr (by rfl) T.g_are_twins T.F_are_twins.kp T.b_are_twins .nil pass0 (pa_cons (pv 0) (pa_cons (pv 1) pa_nil))) (pe_and (pv 7) (pe_one (pe_not (pe_call G_are_like (hr.mono (by decide)) (by rfl) T.g_are_like T.F_are_like.kp T.b_are_like .nil pass0 (pa_cons (pv 0) (pa_cons (pv 1) pa_nil)))))) (nomark _)))))))))))), ?_⟩
    have hR := h01.rim n1 n40
    have hsl : Slt ns := fun x hx => by rcases h01.2 x hx with e | e <;> omega
    have h01s := row_shut h01
    have hl2 : (shutL ns).length = ns.length := shutL_len ns
    have hRs : Rim (shutL ns) := (show Row01 (shutL ns).length (shutL ns) from ⟨rfl, h01s.2⟩).rim (by omega) (by omega)
    refine ⟨.ref a, rfl, a, ns, rfl, hS, n1, n40, hsl, fun b H1 s1 fb gb => ?_⟩
    obtain ⟨n, hn⟩ : ∃ n, n = ns.length := ⟨_, rfl⟩
    obtain ⟨c, hc⟩ : ∃ c, c = ns.sum := ⟨_, rfl⟩
    have c0 : 0 ≤ c := by rw [hc]; exact sum01 h01
    have cn : c ≤ n := by rw [hc, hn]; exact sum_le01 h01
    have hS1 := s1.seq hS
    refine ⟨.ref a, rfl, a, _, rfl, .inl hS1, .ref a, rfl, a, ns, rfl, hS1, (by show 3 ≤ sizeLine; decide), fun tp htp => ⟨tp, _, rfl, SqT.of upd_same, rfl, _, _, rfl, _, _, rfl, _, _, rfl, rfl, ?_⟩⟩
    rw [List.length_map, ← hn, ← hc]
    have d1 := new_same (o := .tup [.ref b, .int n, .int c]) htp
    have s2 := s1.trans d1
    have gb2 := d1 _ _ gb
    generalize upd H1 tp (.tup [.ref b, .int n, .int c]) = H2 at s2 gb2 ⊢
    clear d1
    refine ⟨.ref a, rfl, a, ns, rfl, s2.seq hS, hR, fun o H3 s3 fo go => ?_⟩
    have gb3 := s3 _ _ gb2
    refine ⟨.ref b, rfl, b, shutL ns, rfl, SqL.of gb3, hRs, fun o2 H4 s4 fo2 go2 => ⟨_, _, rfl, ?_⟩⟩
    have go4 := s4 _ _ go
    have gb4 := s4 _ _ gb3
    have s24 := (s2.trans s3).trans s4
    have hol : (lightsV ns ns).length = n := by rw [lightsV_len, hn]
    have hol2 : (lightsV (shutL ns) (shutL ns)).length = n := by rw [lightsV_len, hl2, hn]
    have eW : ∀ (i : Nat) (x : Int), (lightsV ns ns)[i]? = some x → (lightsV (shutL ns) (shutL ns))[i]? = some (n - c - c + x) := fun i x h => by
      rw [lights_shut, List.getElem?_map, h, hn, hc]
      rfl
    refine ⟨_, rfl, o, rfl, ⟨_, SqL.of go4⟩, fun D hD => ?_⟩
    refine lc_list (K := K) (a := o) (xs := (lightsV ns ns).map V.int) (fun i H' => Same H4 H' ∧ H' D = some (.lst (((lightsV (shutL ns) (shutL ns)).take i).map V.int)))
      ⟨new_same hD, upd_same⟩ (fun i H' _ hP => SqL.of (hP.1 _ _ go4)) (fun i x H' hx hP => ⟨rfl, ?_⟩) (fun H5 hP => ?_)
    · obtain ⟨s5, g5⟩ := hP
      obtain ⟨z, hz, rfl⟩ := int_at hx
      have hi := (List.getElem?_eq_some_iff.mp hz).1
      refine ⟨.int z, rfl, .int n, rfl, z, n, rfl, rfl, .int c, rfl, 2, c, rfl, rfl, .inl ⟨by decide, by omega⟩, _, _, rfl, rfl, _, g5, by rw [List.length_map, List.length_take]; exact sz40 (by omega), same_over s5 hD, ?_⟩
      rw [upd_same, List.take_add_one, eW i z hz, List.map_append]
      show some (HO.lst (_ ++ [V.int (z + (n : Int) - 2 * c)])) = some (HO.lst (_ ++ [V.int (n - c - c + z)]))
      rw [show z + (n : Int) - 2 * c = n - c - c + z by omega]
    obtain ⟨s5, g5⟩ := hP
    rw [List.length_map, List.take_of_length_le (by omega)] at g5
    refine ⟨.ref o2, rfl, dI (lightsV (shutL ns) (shutL ns)), dI (lightsV (shutL ns) (shutL ns)), dp_ints (SqL.of g5), dp_ints (SqL.of (s5 _ _ go2)), PySem.W.ke_shaped_ints _, PySem.W.ke_shaped_ints _, ?_⟩
    rw [eqv_dI]
    refine ⟨_, rfl, ite2 (fun h => absurd h (by rw [decide_eq_true rfl]; decide)) (fun _ => ?_)⟩
    have s25 := s24.trans s5
    have gb5 := s5 _ _ gb4
    have go5 := s5 _ _ go4
    have go25 := s5 _ _ go2
    have eX : ∀ (i : Nat) (x : Int), (lightsV ns ns)[i]? = some x → (lightsV ns (shutL ns))[i]? = some (c - x) := fun i x h => by
      rw [lights_cross, List.getElem?_map, h, hc]
      rfl
    have hol3 : (lightsV ns (shutL ns)).length = n := by rw [lightsV_len, hn]
    refine ⟨.ref a, rfl, .ref b, rfl, a, b, ns, shutL ns, rfl, s25.seq hS, SqL.of gb5, hR, hRs, hl2.symm, fun l H6 s6 fl gl => ?_⟩
    have go6 := s6 _ _ go5
    refine ⟨.ref o, rfl, o, rfl, ⟨_, SqL.of go6⟩, fun E hE => ?_⟩
    refine lc_list (K := K) (a := o) (xs := (lightsV ns ns).map V.int) (fun i H' => Same H6 H' ∧ H' E = some (.lst (((lightsV ns (shutL ns)).take i).map V.int)))
      ⟨new_same hE, upd_same⟩ (fun i H' _ hP => SqL.of (hP.1 _ _ go6)) (fun i x H' hx hP => ⟨rfl, ?_⟩) (fun H7 hP => ?_)
    · obtain ⟨s7, g7⟩ := hP
      obtain ⟨z, hz, rfl⟩ := int_at hx
      have hi := (List.getElem?_eq_some_iff.mp hz).1
      refine ⟨.int c, rfl, .int z, rfl, c, z, rfl, rfl, _, g7, by rw [List.length_map, List.length_take]; exact sz40 (by omega), same_over s7 hE, ?_⟩
      rw [upd_same, List.take_add_one, eX i z hz, List.map_append]
      rfl
    obtain ⟨s7, g7⟩ := hP
    rw [List.length_map, List.take_of_length_le (by omega)] at g7
    refine ⟨dI (lightsV ns (shutL ns)), dI (lightsV ns (shutL ns)), dp_ints (SqL.of (s7 _ _ gl)), dp_ints (SqL.of g7), PySem.W.ke_shaped_ints _, PySem.W.ke_shaped_ints _, ?_⟩
    rw [eqv_dI]
    refine ⟨_, rfl, ite2 (fun h => absurd h (by rw [decide_eq_true rfl]; decide)) (fun _ => ?_)⟩
    have s27 := (s25.trans s6).trans s7
    have gb7 := s7 _ _ (s6 _ _ gb5)
    have go7 := s7 _ _ go6
    have go27 := s7 _ _ (s6 _ _ go25)
    refine ⟨.ref a, rfl, a, ns, rfl, s27.seq hS, hR, fun H8 s8 => ?_⟩
    refine ⟨.ref b, rfl, b, shutL ns, rfl, SqL.of (s8 _ _ gb7), hRs, fun H9 s9 => ?_⟩
    rw [flat_shut]
    refine ⟨rfl, _, rfl, ite2 (fun h => absurd h (by rw [decide_eq_true rfl]; decide)) (fun _ => ?_)⟩
    have s29 := (s27.trans s8).trans s9
    have gb9 := s9 _ _ (s8 _ _ gb7)
    refine ⟨.ref a, rfl, a, ns, rfl, s29.seq hS, hR, fun l1 H10 s10 fl1 gl1 => ?_⟩
    refine ⟨.ref b, rfl, b, shutL ns, rfl, SqL.of (s10 _ _ gb9), hRs, fun l2 H11 s11 fl2 gl2 => ?_⟩
    rw [flatL_shut n1] at gl2
    refine ⟨dI (flatL ns), dI (flatL ns), dp_ints (SqL.of (s11 _ _ gl1)), dp_ints (SqL.of gl2), PySem.W.ke_shaped_ints _, PySem.W.ke_shaped_ints _, ?_⟩
    rw [eqv_dI]
    refine ⟨_, rfl, ite2 (fun h => absurd h (by rw [decide_eq_true rfl]; decide)) (fun _ => ?_)⟩
    have s211 := (s29.trans s10).trans s11
    have gb11 := s11 _ _ (s10 _ _ gb9)
    have go11 := s11 _ _ (s10 _ _ (s9 _ _ (s8 _ _ go7)))
    have go211 := s11 _ _ (s10 _ _ (s9 _ _ (s8 _ _ go27)))
    refine ⟨.int c, rfl, 2, c, rfl, rfl, .inl ⟨by decide, by omega⟩, .int n, rfl, rfl, ?_⟩
    refine ⟨.ref o, rfl, .ref o2, rfl, dI (lightsV ns ns), dI (lightsV (shutL ns) (shutL ns)), dp_ints (SqL.of go11), dp_ints (SqL.of go211), PySem.W.ke_shaped_ints _, PySem.W.ke_shaped_ints _, ?_⟩
    rw [eqv_dI]
    have ehalf := own_half n1 h01
    have eh : decide (V.int (2 * c) = V.int (n : Int)) = decide (2 * c = (n : Int)) := decide_eq_decide.mpr ⟨V.int.inj, congrArg V.int⟩
    have eo : decide (lightsV ns ns = lightsV (shutL ns) (shutL ns)) = decide (2 * c = (n : Int)) := decide_eq_decide.mpr (by rw [hc, hn]; exact ehalf)
    rw [eo]
    show tVar 7 [some (.ref a), some (.ref b), some (.int n), some (.int c), some (.ref o), some (.ref o2), none, some (.bl (decide (V.int (2 * c) = V.int (n : Int))))] H11 _
    rw [eh]
    refine ⟨_, rfl, rfl, _, rfl, ?_⟩
    rw [decide_eq_true rfl, if_pos rfl]
    refine ⟨.ref a, rfl, .ref b, rfl, a, b, ns, shutL ns, rfl, s211.seq hS, SqL.of gb11, hR, hRs, hl2.symm, fun H12 s12 => ?_⟩
    have s212 := s211.trans s12
    have gb12 := s12 _ _ gb11
    unfold twB
    rw [eo]
    refine ⟨_, rfl, ?_⟩
    refine ⟨_, rfl, ite2 (fun h => ?_) (fun h => ?_)⟩
    · refine ⟨.ref a, rfl, .ref b, rfl, a, b, ns, shutL ns, rfl, s212.seq hS, SqL.of gb12, hR, hRs, hl2.symm, fun H13 s13 => ?_⟩
      refine ⟨_, rfl, rfl, ?_⟩
      rw [h, Bool.true_and, decide_eq_true rfl]
      exact q _ (s212.trans s13)
    · have h2 : decide (2 * c = (n : Int)) = false := by
        cases e : decide (2 * c = (n : Int)) with
        | false => rfl
        | true => exact absurd e h
      refine ⟨rfl, ?_⟩
      rw [h2, Bool.false_and, decide_eq_true rfl]
      exact q _ s212

/-- rows of one list, strictly ascending, with one membership: one list -/
theorem asc_one : ∀ {R S : List (List Int)}, R.Pairwise (fun a b => LtI a b = true) → S.Pairwise (fun a b => LtI a b = true) → (∀ x, x ∈ R ↔ x ∈ S) → R = S
  | [], [], _, _, _ => rfl
  | [], s :: S, _, _, h => absurd ((h s).mpr List.mem_cons_self) List.not_mem_nil
  | r :: R, [], _, _, h => absurd ((h r).mp List.mem_cons_self) List.not_mem_nil
  | r :: R, s :: S, hr, hs, h => by
    have hr' := List.pairwise_cons.mp hr
    have hs' := List.pairwise_cons.mp hs
    have e : r = s := by
      rcases List.mem_cons.mp ((h r).mp List.mem_cons_self) with e | m
      · exact e
      · rcases List.mem_cons.mp ((h s).mpr List.mem_cons_self) with e | m2
        · exact e.symm
        · have a := hr'.1 s m2
          have b := hs'.1 r m
          have := ltI_trans a b
          rw [ltI_irr] at this
          cases this
    subst e
    rw [asc_one hr'.2 hs'.2 fun x => ⟨fun m => ?_, fun m => ?_⟩]
    · rcases List.mem_cons.mp ((h x).mp (List.mem_cons_of_mem _ m)) with e | m2
      · have := hr'.1 x m
        rw [e, ltI_irr] at this
        cases this
      · exact m2
    · rcases List.mem_cons.mp ((h x).mpr (List.mem_cons_of_mem _ m)) with e | m2
      · have := hs'.1 x m
        rw [e, ltI_irr] at this
        cases this
      · exact m2

/-! ### _law_small_right -/
def spSmall62 (K : PySem.W.Frag) : Sp := fun vs H Q _ => ∃ (a : Addr) (ns : List Int), vs = [.ref a] ∧ H a = some (.lst (ns.map V.int)) ∧ 1 ≤ ns.length ∧ ns.length ≤ 11 ∧ Row01 ns.length ns ∧ ∀ H', Same H H' → Q (.bl true) H'
theorem few_forms {n c : Nat} (hin : (n, c) ∈ D24) {R : List (List Int)} (nd : R.Nodup) (h : ∀ x ∈ R, Row01 n x ∧ x.sum = (c : Int) ∧ formB x = true) : R.length < 63 := by
  obtain ⟨n1, _, _, _, _, h63⟩ := in24 hin
  have := len_sub nd (l' := (formsN n c).map toI) fun o ho => (formsN_iff n1 o).mpr (h o ho)
  rw [List.length_map] at this
  omega
theorem d24_in {n c : Nat} (h1 : 1 ≤ n) (h : n ≤ 11) (hc : c ≤ n) : (n, c) ∈ D24 := by
  unfold D24
  refine List.mem_append_left _ (List.mem_flatMap.mpr ⟨n - 1, List.mem_range.mpr (by omega), List.mem_map.mpr ⟨c, List.mem_range.mpr (by omega), ?_⟩⟩)
  rw [show n - 1 + 1 = n by omega]
theorem twF_sum {n : Nat} {d f : List Int} (h1 : 1 ≤ n) (hd : Row01 n d) (h : TwF n d f) : f.sum = d.sum := by
  have e := own_first h1 hd
  rw [← h.2.1, own_first h1 h.1] at e
  have := Option.some.inj e
  have s1 := sum01 hd
  have s2 := sum01 h.1
  omega
/-- what twin_discs tells, in order -/
theorem told_forms {n : Nat} {d : List Int} {p : Addr} {H' : Hp} {zs : List (V × List Int)} (h1 : 1 ≤ n) (h11 : n ≤ 11) (hd : Row01 n d) (gp : H' p = some (.lst ((zs.mergeSort leL).map (·.1)))) (hz : ∀ z ∈ zs, PrL p H' z) (ez : zs.map (·.2) = formsW n d.sum.toNat (lightsV d d)) :
    ∃ (us : List V) (R : List (List Int)), H' p = some (.lst us) ∧ LL H' us R ∧ R.Nodup ∧ R.Pairwise (fun a b => LtI a b = true) ∧ (∀ x, x ∈ R ↔ TwF n d x) ∧ us.length < 63 := by
  have ll := prl_ll (F := p) (H := H') (zs := zs.mergeSort leL) fun z hm => hz z ((List.mergeSort_perm zs leL).mem_iff.mp hm)
  have hasc := sorted_asc (zs := zs) (by rw [ez]; exact formsW_nodup _ _ _)
  have hnd : ((zs.mergeSort leL).map (·.2)).Nodup := hasc.imp fun {a b} h e => by
    rw [e, ltI_irr] at h
    cases h
  have hm : ∀ x, x ∈ (zs.mergeSort leL).map (·.2) ↔ TwF n d x := fun x => by rw [((List.mergeSort_perm zs leL).map Prod.snd).mem_iff, ez, twF_iff h1 hd]
  refine ⟨_, _, gp, ll, hnd, hasc, hm, ?_⟩
  have hs := sum_le01 hd
  have hs0 := sum01 hd
  rw [ll_len ll]
  exact few_forms (d24_in (c := d.sum.toNat) h1 h11 (by omega)) hnd fun x hx => by
    have h := (hm x).mp hx
    exact ⟨h.1, by rw [twF_sum h1 hd h]; omega, h.2.2⟩
theorem rowsF_prl {F : Addr} {H : Hp} {us : List V} {S : List (List Int)} (h : RowsF F H us S) : ∀ z ∈ us.zip S, PrL F H z := by
  induction h with
  | nil => exact fun _ h => (List.not_mem_nil h).elim
  | cons f h _ ih =>
    intro z hz
    rcases List.mem_cons.mp hz with e | m
    · rw [e]
      exact ⟨_, rfl, f, h⟩
    · exact ih z m
theorem ok_law_small_right (T : Txt K mg) : FnOk P w K mg base CX0 9 T.a_law_small_right T.d_law_small_right ["plate"] (spSmall62 K) := by
  have G_shut_disc := ok_shut_disc (P := P) (w := w) (base := base) T
  have G_twin_discs := ok_twin_discs (P := P) (w := w) (base := base) T
  have G_like_form := ok_like_form (P := P) (w := w) (base := base) T
  have G_are_twins := ok_are_twins (P := P) (w := w) (base := base) T
  refine T.F_law_small_right.ok sc_law_small_right (fun vs H Q E h => ?_) (fun cdv A outer s H vs Q E hr h => ?_)
  · obtain ⟨_, _, rfl, _⟩ := h
    rfl
  · obtain ⟨a, ns, rfl, ha, n1, n11, h01, q⟩ := h
    refine ⟨_, (pss_cons (ps_par (i := 1) (j := 2) (by rfl) sc_law_small_right.nd rfl rfl (by decide) rfl rfl (pa_cons (pe_call G_shut_disc (hr.mono (by decide)) (by rfl) T.g_shut_disc T.F_shut_disc.kp T.b_shut_disc .nil pass0 (pa_cons (pv 0) pa_nil)) (pa_cons (pe_call G_twin_discs hr (by rfl) T.g_twin_discs T.F_twin_discs.kp T.b_twin_discs .nil pass0 (pa_cons (pv 0) pa_nil)) pa_nil)) (by rfl))
      (pss_mid (ps_if (PW.pt (pw_and (pt_cmpR op_eq (pe_op op_mul pe_int (pe_callB (sumL (K := K) rfl rfl) (by rfl) T.n_sum (by decide +kernel) (pa_cons (pv 0) pa_nil))) (pe_callB (lenL (K := K) rfl) (by rfl) T.n_len (by decide +kernel) (pa_cons (pv 0) pa_nil)) (nomark _)) (pw_and1 (pt_cmpR (notInD (K := K) rfl hr) (pe_call G_like_form (hr.mono (by decide)) (by rfl) T.g_like_form T.F_like_form.kp T.b_like_form .nil pass0 (pa_cons (pv 1) pa_nil)) (pv 2) (by with_unfolding_all rfl))))) (pss_one (ps_ret pe_bl)) pss_nil)
      (pss_cons (ps_set (i := 3) sc_law_small_right.nd rfl (.inl rfl) (pe_callB (cr_sortL (K := K) rfl hr) (by rfl) T.n_sorted (by decide +kernel) (pa_cons (pe_lc (own := [("one", 4)]) (g := gName 4) (tt := tYes) (by rfl) sc_law_small_right.nd (pi_listL (K := K) rfl (pv 2)) (blkOk_by (own := [("one", 4)]) (N := ["plate", "shut", "some", "again", "one"]) (sc := defScope s_law_small_right) (by decide +kernel))
        (fun _ _ _ _ _ => (pg_name (i := 4) sc_law_small_right.nd rfl (Or.inl rfl))) (fun _ _ _ _ _ => pts_nil) (fun _ _ _ _ _ => (pe_call G_like_form (hr.mono (by decide)) (by rfl) T.g_like_form T.F_like_form.kp T.b_like_form .nil pass0 (pa_cons (pe_call G_shut_disc (hr.mono (by decide)) (by rfl) T.g_shut_disc T.F_shut_disc.kp T.b_shut_disc .nil pass0 (pa_cons (pv 4) pa_nil)) pa_nil)))) pa_nil)))
      (pss_cons (ps_if (PW.pt (pw_or (pt_cmpR (neD (K := K) rfl hr) (pv 3) (pe_call G_twin_discs hr (by rfl) T.g_twin_discs T.F_twin_discs.kp T.b_twin_discs .nil pass0 (pa_cons (pv 1) pa_nil)) (nomark _)) (pw_or1 (pt_cmpR (notInD (K := K) rfl hr) (pe_call G_like_form (hr.mono (by decide)) (by rfl) T.g_like_form T.F_like_form.kp T.b_like_form .nil pass0 (pa_cons (pv 0) pa_nil)) (pv 2) (by with_unfolding_all rfl))))) (pss_one (ps_ret pe_bl)) pss_nil)
      (pss_one (ps_ret (pe_cmpR (eqD (K := K) rfl hr) (pe_lc (own := [("one", 4)]) (g := gName 4) (by rfl) sc_law_small_right.nd (pi_listL (K := K) rfl (pv 2)) (blkOk_by (own := [("one", 4)]) (N := ["plate", "shut", "some", "again", "one"]) (sc := defScope s_law_small_right) (by decide +kernel))
        (fun _ _ _ _ _ => (pg_name (i := 4) sc_law_small_right.nd rfl (Or.inl rfl))) (fun _ _ _ _ _ => (pts_one (PW.pt (pw_and (pt_cmpR (neD (K := K) rfl hr) (pv 4) (pe_call G_like_form (hr.mono (by decide)) (by rfl) T.g_like_form T.F_like_form.kp T.b_like_form .nil pass0 (pa_cons (pv 0) pa_nil)) (nomark _)) (pw_and1 (pt_not (pt_val (pe_call G_are_twins (hr.mono (by decide)) (by rfl) T.g_are_twins T.F_are_twins.kp T.b_are_twins .nil pass0 (pa_cons (pv 4) (pa_cons (pv 0) pa_nil)))))))))) (fun _ _ _ _ _ => (pv 4))) (pe_lst pa_nil) (nomark _)))))))), ?_⟩
    have hR := h01.rim n1 (by omega)
    have hsl : Slt ns := slt01 h01
    have h01s := row_shut h01
    have hl2 : (shutL ns).length = ns.length := shutL_len ns
    have h01s2 : Row01 (shutL ns).length (shutL ns) := ⟨rfl, h01s.2⟩
    have hRs : Rim (shutL ns) := h01s2.rim (by omega) (by omega)
    refine ⟨.ref a, rfl, a, ns, rfl, SqL.of ha, n1, by omega, hsl, fun b H1 s1 fb gb => ?_⟩
    have ha1 := s1 _ _ ha
    refine ⟨.ref a, rfl, a, ns, rfl, ha1, h01, n1, by omega, fun p zs H2 s2 fp gp hz hfz ez => ⟨_, _, rfl, ?_⟩⟩
    obtain ⟨us, R, gp, hLL, hnd, hasc, hmem, hul⟩ := told_forms n1 n11 h01 gp hz ez
    have ha2 := s2 _ _ ha1
    have gb2 := s2 _ _ gb
    have s12 := s1.trans s2
    clear hz hfz ez
    have hRl : R.length < 63 := by rw [← ll_len hLL]; exact hul
    have hRr : ∀ r ∈ R, Row01 ns.length r := fun r hr => ((hmem r).mp hr).1
    have dR := dat_rows hRr (by omega) (by omega)
    refine ⟨fun σ' H' => σ' = [some (.ref a), some (.ref b), some (.ref p), none, none] ∧ Same H2 H', ?_, fun σ' H3 hM => ?_⟩
    · refine ⟨.ref a, rfl, a, ns, rfl, SqL.of ha2, 2, _, rfl, rfl, .inl ⟨by decide, by have := sum_le01 h01; have := sum01 h01; omega⟩, .ref a, rfl, a, _, rfl, .inl (SqL.of ha2), rfl, _, rfl, ite2 (fun h => ?_) (fun _ => ⟨rfl, Same.refl _⟩)⟩
      have eh : 2 * ns.sum = (ns.length : Int) := by
        have := V.int.inj (of_decide_eq_true h)
        rwa [List.length_map] at this
      refine ⟨.ref b, rfl, b, shutL ns, rfl, SqL.of gb2, hRs, fun f m H3 s3 ff gf lf => ?_⟩
      have hm : m ∈ R := by
        obtain ⟨q1, q2, q3, q4⟩ := least_form n1 h01s lf
        exact (hmem m).mpr ⟨q1, by rw [q3, (own_half n1 h01).mpr eh], q4⟩
      refine ⟨.ref p, rfl, dI m, R.map dI, dp_ints (SqL.of gf), .lst (SqL.of (s3 _ _ gp)) (ll_dp (ll_up hLL s3)), PySem.W.ke_shaped_ints _, dR.rp.shaped, ?_⟩
      rw [any_dI, decide_eq_true hm]
      exact ⟨_, rfl, iteF ⟨rfl, s3⟩⟩
    obtain ⟨rfl, s3⟩ := hM
    have gp3 := s3 _ _ gp
    have hLL3 := ll_up hLL s3
    have ha3 := s3 _ _ ha2
    have gb3 := s3 _ _ gb2
    have s13 := s12.trans s3
    refine ⟨.ref p, rfl, p, rfl, ⟨_, SqL.of gp3⟩, fun D hD => ?_⟩
    have hul3 := ll_len hLL3
    refine lc_list (K := K) (a := p) (xs := us) (fun k H' => ∃ vs : List V, Same H3 H' ∧ H' D = some (.lst vs) ∧ vs.length ≤ k ∧ RowsF D H' vs ((R.take k).map fun r => lfm (shutL r)))
      ⟨[], new_same hD, upd_same, Nat.le_refl _, .nil⟩ (fun k H' _ hP => SqL.of (hP.choose_spec.1 _ _ gp3)) (fun k x H' hx hP => ⟨rfl, ?_⟩) (fun H4 hP => ?_)
    · obtain ⟨vs, s4, g4, hvl, r4⟩ := hP
      obtain ⟨sr, row, rfl, hrow, gr⟩ := ll_at (ll_up hLL3 s4) hx
      have hk : k < us.length := (List.getElem?_eq_some_iff.mp hx).1
      have rw1 := hRr row (List.mem_of_getElem? hrow)
      have hrl : row.length = ns.length := rw1.1
      have rs1 := row_shut rw1
      refine ⟨.ref sr, rfl, sr, row, rfl, SqL.of gr, by omega, by omega, slt01 (n := ns.length) rw1, fun t H5 s5 ft gt => ?_⟩
      refine ⟨t, shutL row, rfl, SqL.of gt, rs1.rim n1 (by omega), fun o m H6 s6 fo go lm => ?_⟩
      have no : o ≠ D := fun z => by
        rw [z, s5 _ _ g4] at fo
        cases fo
      have s56 := s5.trans s6
      refine ⟨vs, s56 _ _ g4, sz40 (by omega), vs ++ [.ref o], same_over (s4.trans s56) hD, upd_same, by rw [List.length_append]; exact Nat.succ_le_succ hvl, ?_⟩
      rw [List.take_add_one, hrow, List.map_append]
      refine (r4.up fun b2 y e2 f => by rw [upd_ne f]; exact s56 _ _ e2).snoc no ?_
      rw [upd_ne no]
      show H6 o = some (.lst ((lfm (shutL row)).map V.int))
      rw [lfm_of lm]
      exact go
    obtain ⟨vs, s4, g4, hvl, r4⟩ := hP
    rw [hul3, List.take_length] at r4
    obtain ⟨M, hM⟩ : ∃ M, M = R.map fun r => lfm (shutL r) := ⟨_, rfl⟩
    rw [← hM] at r4
    have lfmL : ∀ r ∈ R, LeastI (bothL (shutL r)) (lfm (shutL r)) := fun r hr => by
      obtain ⟨f, hf⟩ := least_ex n1 (row_shut (hRr r hr))
      rw [lfm_of hf]
      exact hf
    have hMm : ∀ m, m ∈ M ↔ TwF ns.length (shutL ns) m := fun m => by
      rw [hM, List.mem_map, twF_shut n1 h01]
      constructor
      · rintro ⟨r, hr, rfl⟩
        exact ⟨r, (hmem r).mp hr, lfmL r hr⟩
      · rintro ⟨r, hr, hl⟩
        exact ⟨r, (hmem r).mpr hr, lfm_of hl⟩
    have hMn : M.Nodup := by
      rw [hM]
      refine List.pairwise_map.mpr (hnd.imp_of_mem fun {x y} hx hy ne e => ne ?_)
      have h1 := form_back n1 (hRr x hx) ((hmem x).mp hx).2.2 (lfmL x hx)
      have h2 := form_back n1 (hRr y hy) ((hmem y).mp hy).2.2 (lfmL y hy)
      rw [e] at h1
      exact least_one h1 h2
    have hvm := ll_len r4.ll
    refine ⟨D, vs, M, rfl, SqL.of g4, ll_dp r4.ll, fun p2 hp2 => ?_⟩
    obtain ⟨zs2, hzs2⟩ : ∃ zs2, zs2 = vs.zip M := ⟨_, rfl⟩
    have eM2 : zs2.map (·.2) = M := by rw [hzs2]; exact zip_snd hvm
    have hprl := rowsF_prl r4
    rw [← hzs2] at hprl
    have d4 := new_same (o := .lst ((sortL vs M).map (·.1))) hp2
    have gp2 : (upd H4 p2 (.lst ((sortL vs M).map (·.1)))) p2 = some (.lst ((zs2.mergeSort leL).map (·.1))) := by rw [upd_same, hzs2]; rfl
    have hz2 : ∀ z ∈ zs2, PrL p2 (upd H4 p2 (.lst ((sortL vs M).map (·.1)))) z := fun z hz => ((hprl z hz).off hp2).up fun c y e f => by rw [upd_ne f]; exact e
    have s14 := (s13.trans s4).trans d4
    have ha5 := d4 _ _ (s4 _ _ ha3)
    have gb5 := d4 _ _ (s4 _ _ gb3)
    have gp5 := d4 _ _ (s4 _ _ gp3)
    have hLL5 := ll_up (ll_up hLL3 s4) d4
    generalize upd H4 p2 (.lst ((sortL vs M).map (·.1))) = H5 at gp2 hz2 s14 ha5 gb5 gp5 hLL5 ⊢
    clear d4
    have ll2 := prl_ll (F := p2) (H := H5) (zs := zs2.mergeSort leL) fun z hm => hz2 z ((List.mergeSort_perm zs2 leL).mem_iff.mp hm)
    have asc2 := sorted_asc (zs := zs2) (by rw [eM2]; exact hMn)
    have mem2 : ∀ x, x ∈ (zs2.mergeSort leL).map (·.2) ↔ TwF ns.length (shutL ns) x := fun x => by rw [((List.mergeSort_perm zs2 leL).map Prod.snd).mem_iff, eM2, hMm]
    generalize (zs2.mergeSort leL).map (·.2) = A at ll2 asc2 mem2
    generalize (zs2.mergeSort leL).map (·.1) = usA at ll2 gp2
    refine ⟨_, rfl, .ref b, rfl, b, shutL ns, rfl, gb5, h01s2, by omega, by omega, fun p3 zs3 H6 s6 fp3 gp3' hz3 hfz3 ez3 => ?_⟩
    obtain ⟨us3, R3, gp3', hLL3', hnd3, hasc3, hmem3, hul3'⟩ := told_forms (by omega) (by omega) h01s2 gp3' hz3 ez3
    have eA : A = R3 := asc_one asc2 hasc3 fun x => by rw [mem2, hmem3, hl2]
    rw [eA] at ll2
    have dR3 := dat_rows (n := ns.length) (R := R3) (fun r hr => by have := ((hmem3 r).mp hr).1; rwa [hl2] at this) (by omega) (by rw [← ll_len hLL3']; omega)
    refine ⟨dLs R3, dLs R3, .lst (SqL.of (s6 _ _ gp2)) (ll_dp (ll_up ll2 s6)), .lst (SqL.of gp3') (ll_dp hLL3'), dR3.rp.shaped, dR3.rp.shaped, _, rfl, ite2 (fun h => absurd h (by rw [dR3.rp.refl]; decide)) (fun _ => ?_)⟩
    have ha6 := s6 _ _ ha5
    refine ⟨.ref a, rfl, a, ns, rfl, SqL.of ha6, hR, fun f m H7 s7 ff gf lf => ?_⟩
    have hm0 : m ∈ R := by
      obtain ⟨q1, q2, q3, q4⟩ := least_form n1 h01 lf
      exact (hmem m).mpr ⟨q1, q3, q4⟩
    have gp7 := s7 _ _ (s6 _ _ gp5)
    have hLL7 := ll_up (ll_up hLL5 s6) s7
    refine ⟨.ref p, rfl, dI m, R.map dI, dp_ints (SqL.of gf), .lst (SqL.of gp7) (ll_dp hLL7), PySem.W.ke_shaped_ints _, dR.rp.shaped, ?_⟩
    rw [any_dI, decide_eq_true hm0]
    refine ⟨_, rfl, iteF ?_⟩
    have s17 := (s14.trans s6).trans s7
    have ha7 := s7 _ _ ha6
    refine ⟨.ref p, rfl, p, rfl, ⟨_, SqL.of gp7⟩, fun F hF => ?_⟩
    refine lc_list (K := K) (a := p) (xs := us) (fun k H' => Same H7 H' ∧ H' F = some (.lst []))
      ⟨new_same hF, upd_same⟩ (fun k H' _ hP => SqL.of (hP.1 _ _ gp7)) (fun k x H' hx hP => ⟨rfl, ?_⟩) (fun H8 hP => ?_)
    · obtain ⟨s8, g8⟩ := hP
      obtain ⟨sr, row, rfl, hrow, gr⟩ := ll_at (ll_up hLL7 s8) hx
      have hrR := List.mem_of_getElem? hrow
      have rw1 := hRr row hrR
      have hRr1 : Rim row := rw1.rim n1 (by omega)
      refine ⟨.ref sr, rfl, .ref a, rfl, a, ns, rfl, SqL.of (s8 _ _ ha7), hR, fun f2 m2 H9 s9 ff2 gf2 lf2 => ?_⟩
      obtain rfl := least_one lf2 lf
      refine ⟨dI row, dI m2, dp_ints (SqL.of (s9 _ _ gr)), dp_ints (SqL.of gf2), PySem.W.ke_shaped_ints _, PySem.W.ke_shaped_ints _, ?_⟩
      rw [eqv_dI]
      refine ⟨_, rfl, ite2 (fun h => ?_) (fun _ => ⟨s8.trans s9, s9 _ _ g8⟩)⟩
      have hne : row ≠ m2 := fun e => by
        rw [decide_eq_true e] at h
        cases h
      refine ⟨.ref sr, rfl, .ref a, rfl, sr, a, row, ns, rfl, SqL.of (s9 _ _ gr), SqL.of (s9 _ _ (s8 _ _ ha7)), hRr1, hR, rw1.1, fun H10 s10 => ?_⟩
      have htw : twB row ns = true := by
        unfold twB
        rw [decide_eq_true ((hmem row).mp hrR).2.1, Bool.true_and]
        have : ¬ ns ∈ bothL row := fun z => hne (form_self n1 rw1 ((hmem row).mp hrR).2.2 (least_set lf2 fun x => ⟨both_sub hRr1.pos z, both_sub hR.pos (both_symm hRr1.pos z)⟩)).symm
        rw [decide_eq_false this]
        rfl
      rw [htw]
      exact ⟨true, rfl, iteF ⟨(s8.trans s9).trans s10, s10 _ _ (s9 _ _ g8)⟩⟩
    obtain ⟨s8, g8⟩ := hP
    refine ⟨(by show 0 ≤ sizeLine; decide), fun e0 he0 => ?_⟩
    have d8 := new_same (o := .lst []) he0
    refine ⟨dI [], dI [], dp_ints (ns := []) (SqL.of (d8 _ _ g8)), dp_ints (ns := []) (SqL.of upd_same), PySem.W.ke_shaped_ints _, PySem.W.ke_shaped_ints _, ?_⟩
    rw [eqv_dI, decide_eq_true rfl]
    exact q _ ((s17.trans s8).trans d8)

def spLaw (K : PySem.W.Frag) : Sp := fun vs H Q _ => ∃ (a : Addr) (ns : List Int), vs = [.ref a] ∧ SqL K H a (ns.map V.int) ∧ ns.length ≤ 63 ∧ ∀ H', Q (.bl true) H'

/-! ### the law -/
theorem row_slt {n : Nat} {d : List Int} (h : Slt d) (hn : d.length = n) : Row01 n d := ⟨hn, fun m hm => by have := h m hm; omega⟩
theorem form_shut {n c : Nat} (h1 : 1 ≤ n) (h : n ≤ 11) (hc : c ≤ n) : formP n (n - c) = formP n c := by
  have := of_decide_eq_true (List.all_eq_true.mp form_sym _ (d24_in h1 h hc))
  rcases this with h2 | h2
  · exact absurd h2 (by show ¬ n > 11; omega)
  · exact h2.symm
theorem ok_law (T : Txt K mg) : FnG P w K mg base CX0 10 T.a_law T.d_law ["script"] (spLaw K) := by
  have G_law_pool := ok_law_pool (P := P) (w := w) (base := base) T
  have G_law_draw := ok_law_draw (P := P) (w := w) (base := base) T
  have G_law_slits := ok_law_slits (P := P) (w := w) (base := base) T
  have G_law_right := ok_law_right (P := P) (w := w) (base := base) T
  have G_law_small_right := ok_law_small_right (P := P) (w := w) (base := base) T
  have G_twin_count := ok_twin_count (P := P) (w := w) (base := base) T
  have G_form_count := ok_form_count (P := P) (w := w) (base := base) T
  refine okG T.F_law sc_law (fun vs H Q E h => ?_) (fun cdv A outer s H vs Q E hg hr h => ?_)
  · obtain ⟨_, _, rfl, _⟩ := h
    rfl
  · obtain ⟨a, ns, rfl, hS, hlen, q⟩ := h
    refine ⟨_, (pss_cons (ps_for PassesOwn.never rfl (pi_range1 (by rfl) T.n_range (pa_cons (pe_callB (call_max2 rfl) (by rfl) T.n_max (by decide +kernel) (pa_cons pe_int (pa_cons (pe_callB (call_min2 rfl) (by rfl) T.n_min (by decide +kernel) (pa_cons pe_int (pa_cons (pe_callB (lenL (K := K) rfl) (by rfl) T.n_len (by decide +kernel) (pa_cons (pv 0) pa_nil)) pa_nil))) pa_nil))) pa_nil)) (pg_name (i := 1) sc_law.nd rfl (.inl rfl)) (pss_cons (ps_set (i := 2) sc_law.nd rfl (.inl rfl) (pe_call G_law_pool (hr.mono (by decide)) (by rfl) T.g_law_pool T.F_law_pool.kp T.b_law_pool .nil pass0 (pa_cons (pv 0) (pa_cons (pv 1) pa_nil))))
      (pss_cons (ps_for PassesOwn.never rfl (pi_tupL (K := K) rfl (pe_tup (pa_cons pe_int (pa_cons pe_int (pa_cons pe_int pa_nil))))) (pg_name (i := 3) sc_law.nd rfl (.inl rfl)) (pss_one (ps_if (pt_not (pt_val (pe_call G_law_right (hr.mono (by decide)) (by rfl) T.g_law_right T.F_law_right.kp T.b_law_right .nil pass0 (pa_cons (pe_call G_law_slits (hr.mono (by decide)) (by rfl) T.g_law_slits T.F_law_slits.kp T.b_law_slits .nil pass0 (pa_cons (pv 2) (pa_cons (pe_op op_add pe_int (pe_call G_law_draw (hr.mono (by decide)) (by rfl) T.g_law_draw T.F_law_draw.kp T.b_law_draw .nil pass0 (pa_cons (pv 2) (pa_cons (pv 3) pa_nil)))) pa_nil))) pa_nil)))) (pss_one (ps_ret pe_bl)) pss_nil)))
      (pss_cons (ps_for PassesOwn.never rfl (pi_tupL (K := K) rfl (pe_tup (pa_cons (pe_op op_add pe_int (pe_op op_mul pe_int (pe_call G_law_draw (hr.mono (by decide)) (by rfl) T.g_law_draw T.F_law_draw.kp T.b_law_draw .nil pass0 (pa_cons (pv 2) (pa_cons pe_int pa_nil))))) (pa_cons (pe_op op_add pe_int (pe_call G_law_draw (hr.mono (by decide)) (by rfl) T.g_law_draw T.F_law_draw.kp T.b_law_draw .nil pass0 (pa_cons (pv 2) (pa_cons pe_int pa_nil)))) pa_nil)))) (pg_name (i := 4) sc_law.nd rfl (.inl rfl)) (pss_one (ps_if (pt_not (pt_val (pe_call G_law_small_right hr (by rfl) T.g_law_small_right T.F_law_small_right.kp T.b_law_small_right .nil pass0 (pa_cons (pe_call G_law_slits (hr.mono (by decide)) (by rfl) T.g_law_slits T.F_law_slits.kp T.b_law_slits .nil pass0 (pa_cons (pv 2) (pa_cons (pv 4) pa_nil))) pa_nil)))) (pss_one (ps_ret pe_bl)) pss_nil)))
      (pss_cons (ps_set (i := 4) sc_law.nd rfl (.inl rfl) (pe_op op_add pe_int (pe_call G_law_draw (hr.mono (by decide)) (by rfl) T.g_law_draw T.F_law_draw.kp T.b_law_draw .nil pass0 (pa_cons (pv 2) (pa_cons pe_int pa_nil)))))
      (pss_cons (ps_set (i := 5) sc_law.nd rfl (.inl rfl) (pe_call G_law_draw (hr.mono (by decide)) (by rfl) T.g_law_draw T.F_law_draw.kp T.b_law_draw .nil pass0 (pa_cons (pv 2) (pa_cons (pe_op op_add (pv 4) pe_int) pa_nil))))
      (pss_cons (ps_set (i := 6) sc_law.nd rfl (.inl rfl) (pe_lst (pa_cons (pe_call G_twin_count (hr.mono (by decide)) (by rfl) T.g_twin_count T.F_twin_count.kp T.b_twin_count .nil pass0 (pa_cons (pv 4) (pa_cons (pv 5) pa_nil))) (pa_cons (pe_call G_form_count (hr.mono (by decide)) (by rfl) T.g_form_count T.F_form_count.kp T.b_form_count .nil pass0 (pa_cons (pv 4) (pa_cons (pv 5) pa_nil))) pa_nil))))
      (pss_one (ps_if (pt_cmpR (neD (K := K) rfl hr) (pv 6) (pe_lst (pa_cons (pe_call G_twin_count (hr.mono (by decide)) (by rfl) T.g_twin_count T.F_twin_count.kp T.b_twin_count .nil pass0 (pa_cons (pv 4) (pa_cons (pe_op op_sub (pv 4) (pv 5)) pa_nil))) (pa_cons (pe_call G_form_count (hr.mono (by decide)) (by rfl) T.g_form_count T.F_form_count.kp T.b_form_count .nil pass0 (pa_cons (pv 4) (pa_cons (pe_op op_sub (pv 4) (pv 5)) pa_nil))) pa_nil))) (nomark _)) (pss_one (ps_ret pe_bl)) pss_nil)))))))))
      (pss_one (ps_ret pe_bl))), ?_⟩
    refine ⟨.ref a, rfl, a, _, rfl, .inl hS, 3, _, rfl, 1, _, rfl, _, rfl, ?_, ?_, for_range (lo := 0)
      (fun i σ H' => ∃ y1 y2 y3 y4 y5 y6 : Option V, σ = [some (.ref a), y1, y2, y3, y4, y5, y6] ∧ Same H H' ∧ i ≤ 3) ⟨none, none, none, none, none, none, rfl, Same.refl H, by omega⟩ (fun i σ H1 hi hP => ?_) (fun σ H1 hP => q _)⟩
    · split <;> split <;> omega
    · split <;> split <;> omega
    · obtain ⟨y1, y2, y3, y4, y5, y6, rfl, s1, _⟩ := hP
      have hi3 : i < 3 := by
        revert hi
        split <;> split <;> omega
      refine ⟨.ref a, rfl, .int (0 + i), rfl, a, ns, 0 + i, rfl, s1.seq hS, by omega, by omega, fun t H2 s2 ht k2 => ?_⟩
      refine ⟨(by show 3 ≤ sizeLine; decide), fun p hp => ?_⟩
      have npt : p ≠ t := k2.ne hp
      have sp := new_same (H := H2) (o := .tup (([3, 12, 40] : List Int).map V.int)) hp
      refine ⟨p, rfl, ⟨_, SqT.of upd_same⟩, for_tup (K := K) (a := p) (xs := ([3, 12, 40] : List Int).map V.int)
        (fun j σ H' => ∃ z3 : Option V, σ = [some (.ref a), some (.int (0 + i)), some (.ref t), z3, y4, y5, y6] ∧ But t (upd H2 p (.tup (([3, 12, 40] : List Int).map V.int))) H' ∧ Tank H' t (100 + 200 * j))
        ⟨_, rfl, But.refl t _, (k2.up hp).mono (by omega)⟩ (fun j σ H' _ ⟨_, _, u, _⟩ => SqT.of (u _ _ upd_same npt)) (fun j x σ H5 hx hP => ?_) (fun σ H5 hP => ?_)⟩
      · obtain ⟨z3, rfl, u5, k5⟩ := hP
        have hj3 : j < 3 := (List.getElem?_eq_some_iff.mp hx).1
        obtain ⟨m, hm, rfl⟩ := int_at hx
        have hm1 : 1 ≤ m ∧ m ≤ 40 := by
          have := List.mem_of_getElem? hm
          simp only [List.mem_cons, List.not_mem_nil, or_false] at this
          omega
        refine ⟨.ref t, rfl, .ref t, rfl, .int m, rfl, t, m, 100 + 200 * j, rfl, by omega, by omega, k5, by omega, fun r H6 r0 r1 k6 u6 => ?_⟩
        refine ⟨1, r, rfl, rfl, t, 1 + r, 100 + 200 * j + 1, rfl, by omega, by omega, k6, by omega, by omega, fun l ms H7 hsl hml u7 fl gl k7 => ?_⟩
        have hr1 : Row01 ms.length ms := row_slt hsl rfl
        refine ⟨l, ms, rfl, SqL.of gl, by omega, by omega, hr1, fun H8 s8 => ⟨true, rfl, iteF ?_⟩⟩
        exact ⟨_, rfl, ((u5.trans u6).trans u7).trans (But.of s8), (k7.same s8).mono (by omega)⟩
      · obtain ⟨z3, rfl, u5, k5⟩ := hP
        have k5 : Tank H5 t 700 := k5.mono (by show 100 + 200 * ((3 : Nat) : Int) ≤ 700; decide)
        have uu : But t H1 H5 := ((But.of s2).trans (But.of sp)).trans u5
        refine ⟨.ref t, rfl, t, 4, 700, rfl, by decide, by decide, k5, by decide, fun r1 H6 r10 r11 k6 u6 => ?_⟩
        refine ⟨2, r1, rfl, rfl, .inl ⟨by decide, by omega⟩, 2, _, rfl, rfl, .ref t, rfl, t, 9, 701, rfl, by decide, by decide, k6, by decide, fun r2 H7 r20 r21 k7 u7 => ?_⟩
        refine ⟨1, r2, rfl, rfl, (by show 2 ≤ sizeLine; decide), fun p2 hp2 => ?_⟩
        have npt2 : p2 ≠ t := k7.ne hp2
        have sp2 := new_same (H := H7) (o := .tup (([2 + 2 * r1, 1 + r2] : List Int).map V.int)) hp2
        refine ⟨p2, rfl, ⟨_, SqT.of upd_same⟩, for_tup (K := K) (a := p2) (xs := ([2 + 2 * r1, 1 + r2] : List Int).map V.int)
          (fun j σ H' => ∃ z4 : Option V, σ = [some (.ref a), some (.int (0 + i)), some (.ref t), z3, z4, y5, y6] ∧ But t (upd H7 p2 (.tup (([2 + 2 * r1, 1 + r2] : List Int).map V.int))) H' ∧ Tank H' t (800 + 200 * j))
          ⟨_, rfl, But.refl t _, (k7.up hp2).mono (by omega)⟩ (fun j σ H' _ ⟨_, _, u, _⟩ => SqT.of (u _ _ upd_same npt2)) (fun j x σ H8 hx hP => ?_) (fun σ H8 hP => ?_)⟩
        · obtain ⟨z4, rfl, u8, k8⟩ := hP
          have hj3 : j < 2 := (List.getElem?_eq_some_iff.mp hx).1
          obtain ⟨m, hm, rfl⟩ := int_at hx
          have hm1 : 1 ≤ m ∧ m ≤ 9 := by
            have := List.mem_of_getElem? hm
            simp only [List.mem_cons, List.not_mem_nil, or_false] at this
            omega
          refine ⟨.ref t, rfl, .int m, rfl, t, m, 800 + 200 * j, rfl, by omega, by omega, k8, by omega, by omega, fun l ms H9 hsl hml u9 fl gl k9 => ?_⟩
          have hr1 : Row01 ms.length ms := row_slt hsl rfl
          refine ⟨l, ms, rfl, gl, by omega, by omega, hr1, fun H10 s10 => ⟨true, rfl, iteF ?_⟩⟩
          exact ⟨_, rfl, (u8.trans u9).trans (But.of s10), (k9.same s10).mono (by omega)⟩
        obtain ⟨z4, rfl, u8, k8⟩ := hP
        have k8 : Tank H8 t 1200 := k8.mono (by show 800 + 200 * ((2 : Nat) : Int) ≤ 1200; decide)
        have u18 : But t H1 H8 := (((uu.trans u6).trans u7).trans (But.of sp2)).trans u8
        refine ⟨.ref t, rfl, t, 9, 1200, rfl, by decide, by decide, k8, by decide, fun r H9 r0 r1' k9 u9 => ⟨1, r, rfl, rfl, ?_⟩⟩
        obtain ⟨n, hn⟩ : ∃ n : Nat, 1 + r = (n : Int) := ⟨(1 + r).toNat, by omega⟩
        dsimp only
        rw [hn]
        refine ⟨_, rfl, .int n, rfl, n, 1, rfl, rfl, t, (n : Int) + 1, 1201, rfl, by omega, by omega, k9, by omega, fun c H10 c0 c1 k10 u10 => ?_⟩
        obtain ⟨c, rfl⟩ : ∃ k : Nat, c = k := ⟨c.toNat, by omega⟩
        have hin := d24_in (n := n) (c := c) (by omega) (by omega) (by omega)
        have hin2 := d24_in (n := n) (c := n - c) (by omega) (by omega) (by omega)
        have enc : (n : Int) - (c : Int) = ((n - c : Nat) : Int) := by omega
        refine ⟨_, rfl, .int c, rfl, n, c, rfl, hin, fun H11 s11 => ?_⟩
        refine ⟨.int n, rfl, .int c, rfl, n, c, rfl, by omega, by omega, by omega, fun H12 s12 => ?_⟩
        refine ⟨(by show 2 ≤ sizeLine; decide), fun tl htl => ?_⟩
        have gtl : (upd H12 tl (.lst [.int ((tN n c : Nat) : Int), .int (formP n c)])) tl = some (.lst (([((tN n c : Nat) : Int), formP n c] : List Int).map V.int)) := upd_same
        have dt := new_same (o := .lst [.int ((tN n c : Nat) : Int), .int (formP n c)]) htl
        have u12 := (((((u18.trans u9).trans u10).trans (But.of s11)).trans (But.of s12)).trans (But.of dt))
        generalize upd H12 tl (.lst [.int ((tN n c : Nat) : Int), .int (formP n c)]) = H13 at gtl u12 ⊢
        refine ⟨_, rfl, .int n, rfl, .int n, rfl, .int c, rfl, n, c, rfl, rfl, n, n - c, by rw [← enc]; rfl, hin2, fun H14 s14 => ?_⟩
        refine ⟨.int n, rfl, .int n, rfl, .int c, rfl, n, c, rfl, rfl, n, n - c, by rw [← enc]; rfl, by omega, by omega, by omega, fun H15 s15 => ?_⟩
        rw [tN_shut (by omega) (by omega), form_shut (by omega) (by omega) (by omega)]
        refine ⟨(by show 2 ≤ sizeLine; decide), fun ul hul => ?_⟩
        have du := new_same (o := .lst [.int ((tN n c : Nat) : Int), .int (formP n c)]) hul
        refine ⟨dI [((tN n c : Nat) : Int), formP n c], dI [((tN n c : Nat) : Int), formP n c], dp_ints (ns := [((tN n c : Nat) : Int), formP n c]) (SqL.of (du _ _ (s15 _ _ (s14 _ _ gtl)))), dp_ints (ns := [((tN n c : Nat) : Int), formP n c]) (SqL.of upd_same), PySem.W.ke_shaped_ints _, PySem.W.ke_shaped_ints _, ?_⟩
        rw [eqv_dI]
        refine ⟨_, rfl, ite2 (fun h => absurd h (by rw [decide_eq_true rfl]; decide)) (fun _ => ?_)⟩
        have u16 := ((u12.trans (But.of s14)).trans (But.of s15)).trans (But.of du)
        refine ⟨_, _, _, _, _, _, rfl, fun b o e => u16 _ _ (s1 _ _ e) (fun z => ?_), by omega⟩
        have e1 := s1 _ _ e
        rw [z, ht] at e1
        cases e1

end
/-! ### what the top has written, and the end -/
theorem all_mk {l : PySem.W.OpenLaw} {w : World} {K : PySem.W.Frag} {h : Heap} {mg : Str → Option Value} {fa : Addr} (X : K.In h) (G : h.Ns mainGlobals mg) (hfa : mg "law" = some (.ref fa))
    {f0 : Addr} {od0 an0 : Option Addr} {sl0 : Array (Option Value)} {oc0 kV0 dc0 pm0 cd0 ct0 : Value}
    (a0 : PySem.W.nsIn K mainGlobals "turned_list" = some (some (.ref f0))) (l0 : K.lookup f0 = some ⟨oc0, od0, .func (PySem.W.fnOf "turned_list" "turned_list" (defArgs s_turned_list) (defBody s_turned_list) (defScope s_turned_list) .none kV0 dc0 pm0 an0 cd0 ct0), sl0⟩) (c0 : PySem.W.codeIn K cd0 "turned_list" = true) (k0 : PySem.W.keepIn K (.ref f0) = true)
    {f1 : Addr} {od1 an1 : Option Addr} {sl1 : Array (Option Value)} {oc1 kV1 dc1 pm1 cd1 ct1 : Value}
    (a1 : PySem.W.nsIn K mainGlobals "mirrored_list" = some (some (.ref f1))) (l1 : K.lookup f1 = some ⟨oc1, od1, .func (PySem.W.fnOf "mirrored_list" "mirrored_list" (defArgs s_mirrored_list) (defBody s_mirrored_list) (defScope s_mirrored_list) .none kV1 dc1 pm1 an1 cd1 ct1), sl1⟩) (c1 : PySem.W.codeIn K cd1 "mirrored_list" = true) (k1 : PySem.W.keepIn K (.ref f1) = true)
    {f2 : Addr} {od2 an2 : Option Addr} {sl2 : Array (Option Value)} {oc2 kV2 dc2 pm2 cd2 ct2 : Value}
    (a2 : PySem.W.nsIn K mainGlobals "light_between" = some (some (.ref f2))) (l2 : K.lookup f2 = some ⟨oc2, od2, .func (PySem.W.fnOf "light_between" "light_between" (defArgs s_light_between) (defBody s_light_between) (defScope s_light_between) .none kV2 dc2 pm2 an2 cd2 ct2), sl2⟩) (c2 : PySem.W.codeIn K cd2 "light_between" = true) (k2 : PySem.W.keepIn K (.ref f2) = true)
    {f3 : Addr} {od3 an3 : Option Addr} {sl3 : Array (Option Value)} {oc3 kV3 dc3 pm3 cd3 ct3 : Value}
    (a3 : PySem.W.nsIn K mainGlobals "lights_between" = some (some (.ref f3))) (l3 : K.lookup f3 = some ⟨oc3, od3, .func (PySem.W.fnOf "lights_between" "lights_between" (defArgs s_lights_between) (defBody s_lights_between) (defScope s_lights_between) .none kV3 dc3 pm3 an3 cd3 ct3), sl3⟩) (c3 : PySem.W.codeIn K cd3 "lights_between" = true) (k3 : PySem.W.keepIn K (.ref f3) = true)
    {f4 : Addr} {od4 an4 : Option Addr} {sl4 : Array (Option Value)} {oc4 kV4 dc4 pm4 cd4 ct4 : Value}
    (a4 : PySem.W.nsIn K mainGlobals "multiplied_list" = some (some (.ref f4))) (l4 : K.lookup f4 = some ⟨oc4, od4, .func (PySem.W.fnOf "multiplied_list" "multiplied_list" (defArgs s_multiplied_list) (defBody s_multiplied_list) (defScope s_multiplied_list) .none kV4 dc4 pm4 an4 cd4 ct4), sl4⟩) (c4 : PySem.W.codeIn K cd4 "multiplied_list" = true) (k4 : PySem.W.keepIn K (.ref f4) = true)
    {f5 : Addr} {od5 an5 : Option Addr} {sl5 : Array (Option Value)} {oc5 kV5 dc5 pm5 cd5 ct5 : Value}
    (a5 : PySem.W.nsIn K mainGlobals "is_integer" = some (some (.ref f5))) (l5 : K.lookup f5 = some ⟨oc5, od5, .func (PySem.W.fnOf "is_integer" "is_integer" (defArgs s_is_integer) (defBody s_is_integer) (defScope s_is_integer) .none kV5 dc5 pm5 an5 cd5 ct5), sl5⟩) (c5 : PySem.W.codeIn K cd5 "is_integer" = true) (k5 : PySem.W.keepIn K (.ref f5) = true)
    {f6 : Addr} {od6 an6 : Option Addr} {sl6 : Array (Option Value)} {oc6 kV6 dc6 pm6 cd6 ct6 : Value}
    (a6 : PySem.W.nsIn K mainGlobals "has_slots" = some (some (.ref f6))) (l6 : K.lookup f6 = some ⟨oc6, od6, .func (PySem.W.fnOf "has_slots" "has_slots" (defArgs s_has_slots) (defBody s_has_slots) (defScope s_has_slots) .none kV6 dc6 pm6 an6 cd6 ct6), sl6⟩) (c6 : PySem.W.codeIn K cd6 "has_slots" = true) (k6 : PySem.W.keepIn K (.ref f6) = true)
    {f7 : Addr} {od7 an7 : Option Addr} {sl7 : Array (Option Value)} {oc7 kV7 dc7 pm7 cd7 ct7 : Value}
    (a7 : PySem.W.nsIn K mainGlobals "wrong_light" = some (some (.ref f7))) (l7 : K.lookup f7 = some ⟨oc7, od7, .func (PySem.W.fnOf "wrong_light" "wrong_light" (defArgs s_wrong_light) (defBody s_wrong_light) (defScope s_wrong_light) .none kV7 dc7 pm7 an7 cd7 ct7), sl7⟩) (c7 : PySem.W.codeIn K cd7 "wrong_light" = true) (k7 : PySem.W.keepIn K (.ref f7) = true)
    {f8 : Addr} {od8 an8 : Option Addr} {sl8 : Array (Option Value)} {oc8 kV8 dc8 pm8 cd8 ct8 : Value}
    (a8 : PySem.W.nsIn K mainGlobals "wrong_slot" = some (some (.ref f8))) (l8 : K.lookup f8 = some ⟨oc8, od8, .func (PySem.W.fnOf "wrong_slot" "wrong_slot" (defArgs s_wrong_slot) (defBody s_wrong_slot) (defScope s_wrong_slot) .none kV8 dc8 pm8 an8 cd8 ct8), sl8⟩) (c8 : PySem.W.codeIn K cd8 "wrong_slot" = true) (k8 : PySem.W.keepIn K (.ref f8) = true)
    {f9 : Addr} {od9 an9 : Option Addr} {sl9 : Array (Option Value)} {oc9 kV9 dc9 pm9 cd9 ct9 : Value}
    (a9 : PySem.W.nsIn K mainGlobals "check_disc" = some (some (.ref f9))) (l9 : K.lookup f9 = some ⟨oc9, od9, .func (PySem.W.fnOf "check_disc" "check_disc" (defArgs s_check_disc) (defBody s_check_disc) (defScope s_check_disc) .none kV9 dc9 pm9 an9 cd9 ct9), sl9⟩) (c9 : PySem.W.codeIn K cd9 "check_disc" = true) (k9 : PySem.W.keepIn K (.ref f9) = true)
    {f10 : Addr} {od10 an10 : Option Addr} {sl10 : Array (Option Value)} {oc10 kV10 dc10 pm10 cd10 ct10 : Value}
    (a10 : PySem.W.nsIn K mainGlobals "check_discs" = some (some (.ref f10))) (l10 : K.lookup f10 = some ⟨oc10, od10, .func (PySem.W.fnOf "check_discs" "check_discs" (defArgs s_check_discs) (defBody s_check_discs) (defScope s_check_discs) .none kV10 dc10 pm10 an10 cd10 ct10), sl10⟩) (c10 : PySem.W.codeIn K cd10 "check_discs" = true) (k10 : PySem.W.keepIn K (.ref f10) = true)
    {f11 : Addr} {od11 an11 : Option Addr} {sl11 : Array (Option Value)} {oc11 kV11 dc11 pm11 cd11 ct11 : Value}
    (a11 : PySem.W.nsIn K mainGlobals "check_slots_at_most" = some (some (.ref f11))) (l11 : K.lookup f11 = some ⟨oc11, od11, .func (PySem.W.fnOf "check_slots_at_most" "check_slots_at_most" (defArgs s_check_slots_at_most) (defBody s_check_slots_at_most) (defScope s_check_slots_at_most) .none kV11 dc11 pm11 an11 cd11 ct11), sl11⟩) (c11 : PySem.W.codeIn K cd11 "check_slots_at_most" = true) (k11 : PySem.W.keepIn K (.ref f11) = true)
    {f12 : Addr} {od12 an12 : Option Addr} {sl12 : Array (Option Value)} {oc12 kV12 dc12 pm12 cd12 ct12 : Value}
    (a12 : PySem.W.nsIn K mainGlobals "check_slotted" = some (some (.ref f12))) (l12 : K.lookup f12 = some ⟨oc12, od12, .func (PySem.W.fnOf "check_slotted" "check_slotted" (defArgs s_check_slotted) (defBody s_check_slotted) (defScope s_check_slotted) .none kV12 dc12 pm12 an12 cd12 ct12), sl12⟩) (c12 : PySem.W.codeIn K cd12 "check_slotted" = true) (k12 : PySem.W.keepIn K (.ref f12) = true)
    {f13 : Addr} {od13 an13 : Option Addr} {sl13 : Array (Option Value)} {oc13 kV13 dc13 pm13 cd13 ct13 : Value}
    (a13 : PySem.W.nsIn K mainGlobals "check_between" = some (some (.ref f13))) (l13 : K.lookup f13 = some ⟨oc13, od13, .func (PySem.W.fnOf "check_between" "check_between" (defArgs s_check_between) (defBody s_check_between) (defScope s_check_between) .none kV13 dc13 pm13 an13 cd13 ct13), sl13⟩) (c13 : PySem.W.codeIn K cd13 "check_between" = true) (k13 : PySem.W.keepIn K (.ref f13) = true)
    {f14 : Addr} {od14 an14 : Option Addr} {sl14 : Array (Option Value)} {oc14 kV14 dc14 pm14 cd14 ct14 : Value}
    (a14 : PySem.W.nsIn K mainGlobals "check_choice" = some (some (.ref f14))) (l14 : K.lookup f14 = some ⟨oc14, od14, .func (PySem.W.fnOf "check_choice" "check_choice" (defArgs s_check_choice) (defBody s_check_choice) (defScope s_check_choice) .none kV14 dc14 pm14 an14 cd14 ct14), sl14⟩) (c14 : PySem.W.codeIn K cd14 "check_choice" = true) (k14 : PySem.W.keepIn K (.ref f14) = true)
    {f15 : Addr} {od15 an15 : Option Addr} {sl15 : Array (Option Value)} {oc15 kV15 dc15 pm15 cd15 ct15 : Value}
    (a15 : PySem.W.nsIn K mainGlobals "shut_disc" = some (some (.ref f15))) (l15 : K.lookup f15 = some ⟨oc15, od15, .func (PySem.W.fnOf "shut_disc" "shut_disc" (defArgs s_shut_disc) (defBody s_shut_disc) (defScope s_shut_disc) .none kV15 dc15 pm15 an15 cd15 ct15), sl15⟩) (c15 : PySem.W.codeIn K cd15 "shut_disc" = true) (k15 : PySem.W.keepIn K (.ref f15) = true)
    {f16 : Addr} {od16 an16 : Option Addr} {sl16 : Array (Option Value)} {oc16 kV16 dc16 pm16 cd16 ct16 : Value}
    (a16 : PySem.W.nsIn K mainGlobals "turn_between" = some (some (.ref f16))) (l16 : K.lookup f16 = some ⟨oc16, od16, .func (PySem.W.fnOf "turn_between" "turn_between" (defArgs s_turn_between) (defBody s_turn_between) (defScope s_turn_between) .none kV16 dc16 pm16 an16 cd16 ct16), sl16⟩) (c16 : PySem.W.codeIn K cd16 "turn_between" = true) (k16 : PySem.W.keepIn K (.ref f16) = true)
    {f17 : Addr} {od17 an17 : Option Addr} {sl17 : Array (Option Value)} {oc17 kV17 dc17 pm17 cd17 ct17 : Value}
    (a17 : PySem.W.nsIn K mainGlobals "like_form" = some (some (.ref f17))) (l17 : K.lookup f17 = some ⟨oc17, od17, .func (PySem.W.fnOf "like_form" "like_form" (defArgs s_like_form) (defBody s_like_form) (defScope s_like_form) .none kV17 dc17 pm17 an17 cd17 ct17), sl17⟩) (c17 : PySem.W.codeIn K cd17 "like_form" = true) (k17 : PySem.W.keepIn K (.ref f17) = true)
    {f18 : Addr} {od18 an18 : Option Addr} {sl18 : Array (Option Value)} {oc18 kV18 dc18 pm18 cd18 ct18 : Value}
    (a18 : PySem.W.nsIn K mainGlobals "are_like" = some (some (.ref f18))) (l18 : K.lookup f18 = some ⟨oc18, od18, .func (PySem.W.fnOf "are_like" "are_like" (defArgs s_are_like) (defBody s_are_like) (defScope s_are_like) .none kV18 dc18 pm18 an18 cd18 ct18), sl18⟩) (c18 : PySem.W.codeIn K cd18 "are_like" = true) (k18 : PySem.W.keepIn K (.ref f18) = true)
    {f19 : Addr} {od19 an19 : Option Addr} {sl19 : Array (Option Value)} {oc19 kV19 dc19 pm19 cd19 ct19 : Value}
    (a19 : PySem.W.nsIn K mainGlobals "_first_turn" = some (some (.ref f19))) (l19 : K.lookup f19 = some ⟨oc19, od19, .func (PySem.W.fnOf "_first_turn" "_first_turn" (defArgs s_first_turn) (defBody s_first_turn) (defScope s_first_turn) .none kV19 dc19 pm19 an19 cd19 ct19), sl19⟩) (c19 : PySem.W.codeIn K cd19 "_first_turn" = true) (k19 : PySem.W.keepIn K (.ref f19) = true)
    {f20 : Addr} {od20 an20 : Option Addr} {sl20 : Array (Option Value)} {oc20 kV20 dc20 pm20 cd20 ct20 : Value}
    (a20 : PySem.W.nsIn K mainGlobals "_least_turned" = some (some (.ref f20))) (l20 : K.lookup f20 = some ⟨oc20, od20, .func (PySem.W.fnOf "_least_turned" "_least_turned" (defArgs s_least_turned) (defBody s_least_turned) (defScope s_least_turned) .none kV20 dc20 pm20 an20 cd20 ct20), sl20⟩) (c20 : PySem.W.codeIn K cd20 "_least_turned" = true) (k20 : PySem.W.keepIn K (.ref f20) = true)
    {f21 : Addr} {od21 an21 : Option Addr} {sl21 : Array (Option Value)} {oc21 kV21 dc21 pm21 cd21 ct21 : Value}
    (a21 : PySem.W.nsIn K mainGlobals "_least_like" = some (some (.ref f21))) (l21 : K.lookup f21 = some ⟨oc21, od21, .func (PySem.W.fnOf "_least_like" "_least_like" (defArgs s_least_like) (defBody s_least_like) (defScope s_least_like) .none kV21 dc21 pm21 an21 cd21 ct21), sl21⟩) (c21 : PySem.W.codeIn K cd21 "_least_like" = true) (k21 : PySem.W.keepIn K (.ref f21) = true)
    {f22 : Addr} {od22 an22 : Option Addr} {sl22 : Array (Option Value)} {oc22 kV22 dc22 pm22 cd22 ct22 : Value}
    (a22 : PySem.W.nsIn K mainGlobals "opened_lights" = some (some (.ref f22))) (l22 : K.lookup f22 = some ⟨oc22, od22, .func (PySem.W.fnOf "opened_lights" "opened_lights" (defArgs s_opened_lights) (defBody s_opened_lights) (defScope s_opened_lights) .none kV22 dc22 pm22 an22 cd22 ct22), sl22⟩) (c22 : PySem.W.codeIn K cd22 "opened_lights" = true) (k22 : PySem.W.keepIn K (.ref f22) = true)
    {f23 : Addr} {od23 an23 : Option Addr} {sl23 : Array (Option Value)} {oc23 kV23 dc23 pm23 cd23 ct23 : Value}
    (a23 : PySem.W.nsIn K mainGlobals "opened_forms" = some (some (.ref f23))) (l23 : K.lookup f23 = some ⟨oc23, od23, .func (PySem.W.fnOf "opened_forms" "opened_forms" (defArgs s_opened_forms) (defBody s_opened_forms) (defScope s_opened_forms) .none kV23 dc23 pm23 an23 cd23 ct23), sl23⟩) (c23 : PySem.W.codeIn K cd23 "opened_forms" = true) (k23 : PySem.W.keepIn K (.ref f23) = true)
    {f24 : Addr} {od24 an24 : Option Addr} {sl24 : Array (Option Value)} {oc24 kV24 dc24 pm24 cd24 ct24 : Value}
    (a24 : PySem.W.nsIn K mainGlobals "_opened_disc" = some (some (.ref f24))) (l24 : K.lookup f24 = some ⟨oc24, od24, .func (PySem.W.fnOf "_opened_disc" "_opened_disc" (defArgs s_opened_disc) (defBody s_opened_disc) (defScope s_opened_disc) .none kV24 dc24 pm24 an24 cd24 ct24), sl24⟩) (c24 : PySem.W.codeIn K cd24 "_opened_disc" = true) (k24 : PySem.W.keepIn K (.ref f24) = true)
    {f25 : Addr} {od25 an25 : Option Addr} {sl25 : Array (Option Value)} {oc25 kV25 dc25 pm25 cd25 ct25 : Value}
    (a25 : PySem.W.nsIn K mainGlobals "is_flat" = some (some (.ref f25))) (l25 : K.lookup f25 = some ⟨oc25, od25, .func (PySem.W.fnOf "is_flat" "is_flat" (defArgs s_is_flat) (defBody s_is_flat) (defScope s_is_flat) .none kV25 dc25 pm25 an25 cd25 ct25), sl25⟩) (c25 : PySem.W.codeIn K cd25 "is_flat" = true) (k25 : PySem.W.keepIn K (.ref f25) = true)
    {f26 : Addr} {od26 an26 : Option Addr} {sl26 : Array (Option Value)} {oc26 kV26 dc26 pm26 cd26 ct26 : Value}
    (a26 : PySem.W.nsIn K mainGlobals "flat_turns" = some (some (.ref f26))) (l26 : K.lookup f26 = some ⟨oc26, od26, .func (PySem.W.fnOf "flat_turns" "flat_turns" (defArgs s_flat_turns) (defBody s_flat_turns) (defScope s_flat_turns) .none kV26 dc26 pm26 an26 cd26 ct26), sl26⟩) (c26 : PySem.W.codeIn K cd26 "flat_turns" = true) (k26 : PySem.W.keepIn K (.ref f26) = true)
    {f27 : Addr} {od27 an27 : Option Addr} {sl27 : Array (Option Value)} {oc27 kV27 dc27 pm27 cd27 ct27 : Value}
    (a27 : PySem.W.nsIn K mainGlobals "_are_flat" = some (some (.ref f27))) (l27 : K.lookup f27 = some ⟨oc27, od27, .func (PySem.W.fnOf "_are_flat" "_are_flat" (defArgs s_are_flat) (defBody s_are_flat) (defScope s_are_flat) .none kV27 dc27 pm27 an27 cd27 ct27), sl27⟩) (c27 : PySem.W.codeIn K cd27 "_are_flat" = true) (k27 : PySem.W.keepIn K (.ref f27) = true)
    {f28 : Addr} {od28 an28 : Option Addr} {sl28 : Array (Option Value)} {oc28 kV28 dc28 pm28 cd28 ct28 : Value}
    (a28 : PySem.W.nsIn K mainGlobals "all_lights" = some (some (.ref f28))) (l28 : K.lookup f28 = some ⟨oc28, od28, .func (PySem.W.fnOf "all_lights" "all_lights" (defArgs s_all_lights) (defBody s_all_lights) (defScope s_all_lights) .none kV28 dc28 pm28 an28 cd28 ct28), sl28⟩) (c28 : PySem.W.codeIn K cd28 "all_lights" = true) (k28 : PySem.W.keepIn K (.ref f28) = true)
    {f29 : Addr} {od29 an29 : Option Addr} {sl29 : Array (Option Value)} {oc29 kV29 dc29 pm29 cd29 ct29 : Value}
    (a29 : PySem.W.nsIn K mainGlobals "own_lights" = some (some (.ref f29))) (l29 : K.lookup f29 = some ⟨oc29, od29, .func (PySem.W.fnOf "own_lights" "own_lights" (defArgs s_own_lights) (defBody s_own_lights) (defScope s_own_lights) .none kV29 dc29 pm29 an29 cd29 ct29), sl29⟩) (c29 : PySem.W.codeIn K cd29 "own_lights" = true) (k29 : PySem.W.keepIn K (.ref f29) = true)
    {f30 : Addr} {od30 an30 : Option Addr} {sl30 : Array (Option Value)} {oc30 kV30 dc30 pm30 cd30 ct30 : Value}
    (a30 : PySem.W.nsIn K mainGlobals "are_twins" = some (some (.ref f30))) (l30 : K.lookup f30 = some ⟨oc30, od30, .func (PySem.W.fnOf "are_twins" "are_twins" (defArgs s_are_twins) (defBody s_are_twins) (defScope s_are_twins) .none kV30 dc30 pm30 an30 cd30 ct30), sl30⟩) (c30 : PySem.W.codeIn K cd30 "are_twins" = true) (k30 : PySem.W.keepIn K (.ref f30) = true)
    {f31 : Addr} {od31 an31 : Option Addr} {sl31 : Array (Option Value)} {oc31 kV31 dc31 pm31 cd31 ct31 : Value}
    (a31 : PySem.W.nsIn K mainGlobals "twin_discs" = some (some (.ref f31))) (l31 : K.lookup f31 = some ⟨oc31, od31, .func (PySem.W.fnOf "twin_discs" "twin_discs" (defArgs s_twin_discs) (defBody s_twin_discs) (defScope s_twin_discs) .none kV31 dc31 pm31 an31 cd31 ct31), sl31⟩) (c31 : PySem.W.codeIn K cd31 "twin_discs" = true) (k31 : PySem.W.keepIn K (.ref f31) = true)
    {f32 : Addr} {od32 an32 : Option Addr} {sl32 : Array (Option Value)} {oc32 kV32 dc32 pm32 cd32 ct32 : Value}
    (a32 : PySem.W.nsIn K mainGlobals "twin_count" = some (some (.ref f32))) (l32 : K.lookup f32 = some ⟨oc32, od32, .func (PySem.W.fnOf "twin_count" "twin_count" (defArgs s_twin_count) (defBody s_twin_count) (defScope s_twin_count) .none kV32 dc32 pm32 an32 cd32 ct32), sl32⟩) (c32 : PySem.W.codeIn K cd32 "twin_count" = true) (k32 : PySem.W.keepIn K (.ref f32) = true)
    {f33 : Addr} {od33 an33 : Option Addr} {sl33 : Array (Option Value)} {oc33 kV33 dc33 pm33 cd33 ct33 : Value}
    (a33 : PySem.W.nsIn K mainGlobals "form_count" = some (some (.ref f33))) (l33 : K.lookup f33 = some ⟨oc33, od33, .func (PySem.W.fnOf "form_count" "form_count" (defArgs s_form_count) (defBody s_form_count) (defScope s_form_count) .none kV33 dc33 pm33 an33 cd33 ct33), sl33⟩) (c33 : PySem.W.codeIn K cd33 "form_count" = true) (k33 : PySem.W.keepIn K (.ref f33) = true)
    {f34 : Addr} {od34 an34 : Option Addr} {sl34 : Array (Option Value)} {oc34 kV34 dc34 pm34 cd34 ct34 : Value}
    (a34 : PySem.W.nsIn K mainGlobals "_forms_with" = some (some (.ref f34))) (l34 : K.lookup f34 = some ⟨oc34, od34, .func (PySem.W.fnOf "_forms_with" "_forms_with" (defArgs s_forms_with) (defBody s_forms_with) (defScope s_forms_with) .none kV34 dc34 pm34 an34 cd34 ct34), sl34⟩) (c34 : PySem.W.codeIn K cd34 "_forms_with" = true) (k34 : PySem.W.keepIn K (.ref f34) = true)
    {f35 : Addr} {od35 an35 : Option Addr} {sl35 : Array (Option Value)} {oc35 kV35 dc35 pm35 cd35 ct35 : Value}
    (a35 : PySem.W.nsIn K mainGlobals "_openings" = some (some (.ref f35))) (l35 : K.lookup f35 = some ⟨oc35, od35, .func (PySem.W.fnOf "_openings" "_openings" (defArgs s_openings) (defBody s_openings) (defScope s_openings) .none kV35 dc35 pm35 an35 cd35 ct35), sl35⟩) (c35 : PySem.W.codeIn K cd35 "_openings" = true) (k35 : PySem.W.keepIn K (.ref f35) = true)
    {f36 : Addr} {od36 an36 : Option Addr} {sl36 : Array (Option Value)} {oc36 kV36 dc36 pm36 cd36 ct36 : Value}
    (a36 : PySem.W.nsIn K mainGlobals "_turned_alike" = some (some (.ref f36))) (l36 : K.lookup f36 = some ⟨oc36, od36, .func (PySem.W.fnOf "_turned_alike" "_turned_alike" (defArgs s_turned_alike) (defBody s_turned_alike) (defScope s_turned_alike) .none kV36 dc36 pm36 an36 cd36 ct36), sl36⟩) (c36 : PySem.W.codeIn K cd36 "_turned_alike" = true) (k36 : PySem.W.keepIn K (.ref f36) = true)
    {f37 : Addr} {od37 an37 : Option Addr} {sl37 : Array (Option Value)} {oc37 kV37 dc37 pm37 cd37 ct37 : Value}
    (a37 : PySem.W.nsIn K mainGlobals "_mirrored_alike" = some (some (.ref f37))) (l37 : K.lookup f37 = some ⟨oc37, od37, .func (PySem.W.fnOf "_mirrored_alike" "_mirrored_alike" (defArgs s_mirrored_alike) (defBody s_mirrored_alike) (defScope s_mirrored_alike) .none kV37 dc37 pm37 an37 cd37 ct37), sl37⟩) (c37 : PySem.W.codeIn K cd37 "_mirrored_alike" = true) (k37 : PySem.W.keepIn K (.ref f37) = true)
    {f38 : Addr} {od38 an38 : Option Addr} {sl38 : Array (Option Value)} {oc38 kV38 dc38 pm38 cd38 ct38 : Value}
    (a38 : PySem.W.nsIn K mainGlobals "_law_pool" = some (some (.ref f38))) (l38 : K.lookup f38 = some ⟨oc38, od38, .func (PySem.W.fnOf "_law_pool" "_law_pool" (defArgs s_law_pool) (defBody s_law_pool) (defScope s_law_pool) .none kV38 dc38 pm38 an38 cd38 ct38), sl38⟩) (c38 : PySem.W.codeIn K cd38 "_law_pool" = true) (k38 : PySem.W.keepIn K (.ref f38) = true)
    {f39 : Addr} {od39 an39 : Option Addr} {sl39 : Array (Option Value)} {oc39 kV39 dc39 pm39 cd39 ct39 : Value}
    (a39 : PySem.W.nsIn K mainGlobals "_law_draw" = some (some (.ref f39))) (l39 : K.lookup f39 = some ⟨oc39, od39, .func (PySem.W.fnOf "_law_draw" "_law_draw" (defArgs s_law_draw) (defBody s_law_draw) (defScope s_law_draw) .none kV39 dc39 pm39 an39 cd39 ct39), sl39⟩) (c39 : PySem.W.codeIn K cd39 "_law_draw" = true) (k39 : PySem.W.keepIn K (.ref f39) = true)
    {f40 : Addr} {od40 an40 : Option Addr} {sl40 : Array (Option Value)} {oc40 kV40 dc40 pm40 cd40 ct40 : Value}
    (a40 : PySem.W.nsIn K mainGlobals "_law_slits" = some (some (.ref f40))) (l40 : K.lookup f40 = some ⟨oc40, od40, .func (PySem.W.fnOf "_law_slits" "_law_slits" (defArgs s_law_slits) (defBody s_law_slits) (defScope s_law_slits) .none kV40 dc40 pm40 an40 cd40 ct40), sl40⟩) (c40 : PySem.W.codeIn K cd40 "_law_slits" = true) (k40 : PySem.W.keepIn K (.ref f40) = true)
    {f41 : Addr} {od41 an41 : Option Addr} {sl41 : Array (Option Value)} {oc41 kV41 dc41 pm41 cd41 ct41 : Value}
    (a41 : PySem.W.nsIn K mainGlobals "_law_right" = some (some (.ref f41))) (l41 : K.lookup f41 = some ⟨oc41, od41, .func (PySem.W.fnOf "_law_right" "_law_right" (defArgs s_law_right) (defBody s_law_right) (defScope s_law_right) .none kV41 dc41 pm41 an41 cd41 ct41), sl41⟩) (c41 : PySem.W.codeIn K cd41 "_law_right" = true) (k41 : PySem.W.keepIn K (.ref f41) = true)
    {f42 : Addr} {od42 an42 : Option Addr} {sl42 : Array (Option Value)} {oc42 kV42 dc42 pm42 cd42 ct42 : Value}
    (a42 : PySem.W.nsIn K mainGlobals "_law_small_right" = some (some (.ref f42))) (l42 : K.lookup f42 = some ⟨oc42, od42, .func (PySem.W.fnOf "_law_small_right" "_law_small_right" (defArgs s_law_small_right) (defBody s_law_small_right) (defScope s_law_small_right) .none kV42 dc42 pm42 an42 cd42 ct42), sl42⟩) (c42 : PySem.W.codeIn K cd42 "_law_small_right" = true) (k42 : PySem.W.keepIn K (.ref f42) = true)
    {f43 : Addr} {od43 an43 : Option Addr} {sl43 : Array (Option Value)} {oc43 kV43 dc43 pm43 cd43 ct43 : Value}
    (a43 : PySem.W.nsIn K mainGlobals "law" = some (some (.ref f43))) (l43 : K.lookup f43 = some ⟨oc43, od43, .func (PySem.W.fnOf "law" "law" (defArgs s_law) (defBody s_law) (defScope s_law) .none kV43 dc43 pm43 an43 cd43 ct43), sl43⟩) (c43 : PySem.W.codeIn K cd43 "law" = true) (k43 : PySem.W.keepIn K (.ref f43) = true)
    {t_MOST_SLOTS : Tok} (m_MOST_SLOTS : PySem.W.nsIn K mainGlobals "MOST_SLOTS" = some (some (.int (40) t_MOST_SLOTS)))
    {t_MOST_LIGHT : Tok} (m_MOST_LIGHT : PySem.W.nsIn K mainGlobals "MOST_LIGHT" = some (some (.int (1000000000000000000000000000000) t_MOST_LIGHT)))
    {t_MOST_LISTED : Tok} (m_MOST_LISTED : PySem.W.nsIn K mainGlobals "MOST_LISTED" = some (some (.int (14) t_MOST_LISTED)))
    (i_comb : PySem.W.nsIn K mainGlobals "comb" = some (some (.builtin "math.comb")))
    (i_combinations : PySem.W.nsIn K mainGlobals "combinations" = some (some (.type "itertools.combinations")))
    (i_gcd : PySem.W.nsIn K mainGlobals "gcd" = some (some (.builtin "math.gcd")))
    (z_abs : PySem.W.nsIn K mainGlobals "abs" = some none)
    (z_bool : PySem.W.nsIn K mainGlobals "bool" = some none)
    (z_enumerate : PySem.W.nsIn K mainGlobals "enumerate" = some none)
    (z_int : PySem.W.nsIn K mainGlobals "int" = some none)
    (z_isinstance : PySem.W.nsIn K mainGlobals "isinstance" = some none)
    (z_len : PySem.W.nsIn K mainGlobals "len" = some none)
    (z_list : PySem.W.nsIn K mainGlobals "list" = some none)
    (z_max : PySem.W.nsIn K mainGlobals "max" = some none)
    (z_min : PySem.W.nsIn K mainGlobals "min" = some none)
    (z_range : PySem.W.nsIn K mainGlobals "range" = some none)
    (z_set : PySem.W.nsIn K mainGlobals "set" = some none)
    (z_sorted : PySem.W.nsIn K mainGlobals "sorted" = some none)
    (z_sum : PySem.W.nsIn K mainGlobals "sum" = some none)
    (z_tuple : PySem.W.nsIn K mainGlobals "tuple" = some none)
    (z_zip : PySem.W.nsIn K mainGlobals "zip" = some none)
    : ∃ fd : FuncData, (∀ (s : Shared) (u : Value), BindsTo s fd ⟨[u], []⟩ [("script", u)]) ∧ ∀ base : Heap, K.In base → base.Ns mainGlobals mg → FnG l.prog w K mg base CX0 10 fa fd ["script"] (spLaw K) := by
  have e := hfa.symm.trans (PySem.W.mg_of X G a43)
  cases e
  have F0 := fun_mk (st := s_turned_list) l0 c0 k0
  have b0 := F0.binds (ps := ["items", "turn"]) fun _ _ _ _ _ _ us hl => match us, hl with | [_, _], _ => rfl
  have F1 := fun_mk (st := s_mirrored_list) l1 c1 k1
  have b1 := F1.binds (ps := ["items"]) fun _ _ _ _ _ _ us hl => match us, hl with | [_], _ => rfl
  have F2 := fun_mk (st := s_light_between) l2 c2 k2
  have b2 := F2.binds (ps := ["disc", "row", "turn"]) fun _ _ _ _ _ _ us hl => match us, hl with | [_, _, _], _ => rfl
  have F3 := fun_mk (st := s_lights_between) l3 c3 k3
  have b3 := F3.binds (ps := ["disc", "row"]) fun _ _ _ _ _ _ us hl => match us, hl with | [_, _], _ => rfl
  have F4 := fun_mk (st := s_multiplied_list) l4 c4 k4
  have b4 := F4.binds (ps := ["items", "factor"]) fun _ _ _ _ _ _ us hl => match us, hl with | [_, _], _ => rfl
  have F5 := fun_mk (st := s_is_integer) l5 c5 k5
  have b5 := F5.binds (ps := ["value"]) fun _ _ _ _ _ _ us hl => match us, hl with | [_], _ => rfl
  have F6 := fun_mk (st := s_has_slots) l6 c6 k6
  have b6 := F6.binds (ps := ["value"]) fun _ _ _ _ _ _ us hl => match us, hl with | [_], _ => rfl
  have F7 := fun_mk (st := s_wrong_light) l7 c7 k7
  have b7 := F7.binds (ps := ["items", "most"]) fun _ _ _ _ _ _ us hl => match us, hl with | [_, _], _ => rfl
  have F8 := fun_mk (st := s_wrong_slot) l8 c8 k8
  have b8 := F8.binds (ps := ["items"]) fun _ _ _ _ _ _ us hl => match us, hl with | [_], _ => rfl
  have F9 := fun_mk (st := s_check_disc) l9 c9 k9
  have b9 := F9.binds (ps := ["disc"]) fun _ _ _ _ _ _ us hl => match us, hl with | [_], _ => rfl
  have F10 := fun_mk (st := s_check_discs) l10 c10 k10
  have b10 := F10.binds (ps := ["disc", "other"]) fun _ _ _ _ _ _ us hl => match us, hl with | [_, _], _ => rfl
  have F11 := fun_mk (st := s_check_slots_at_most) l11 c11 k11
  have b11 := F11.binds (ps := ["disc", "most"]) fun _ _ _ _ _ _ us hl => match us, hl with | [_, _], _ => rfl
  have F12 := fun_mk (st := s_check_slotted) l12 c12 k12
  have b12 := F12.binds (ps := ["disc"]) fun _ _ _ _ _ _ us hl => match us, hl with | [_], _ => rfl
  have F13 := fun_mk (st := s_check_between) l13 c13 k13
  have b13 := F13.binds (ps := ["number", "least", "most"]) fun _ _ _ _ _ _ us hl => match us, hl with | [_, _, _], _ => rfl
  have F14 := fun_mk (st := s_check_choice) l14 c14 k14
  have b14 := F14.binds (ps := ["slots", "many"]) fun _ _ _ _ _ _ us hl => match us, hl with | [_, _], _ => rfl
  have F15 := fun_mk (st := s_shut_disc) l15 c15 k15
  have b15 := F15.binds (ps := ["disc"]) fun _ _ _ _ _ _ us hl => match us, hl with | [_], _ => rfl
  have F16 := fun_mk (st := s_turn_between) l16 c16 k16
  have b16 := F16.binds (ps := ["disc", "other"]) fun _ _ _ _ _ _ us hl => match us, hl with | [_, _], _ => rfl
  have F17 := fun_mk (st := s_like_form) l17 c17 k17
  have b17 := F17.binds (ps := ["disc"]) fun _ _ _ _ _ _ us hl => match us, hl with | [_], _ => rfl
  have F18 := fun_mk (st := s_are_like) l18 c18 k18
  have b18 := F18.binds (ps := ["disc", "other"]) fun _ _ _ _ _ _ us hl => match us, hl with | [_, _], _ => rfl
  have F19 := fun_mk (st := s_first_turn) l19 c19 k19
  have b19 := F19.binds (ps := ["disc", "other"]) fun _ _ _ _ _ _ us hl => match us, hl with | [_, _], _ => rfl
  have F20 := fun_mk (st := s_least_turned) l20 c20 k20
  have b20 := F20.binds (ps := ["disc"]) fun _ _ _ _ _ _ us hl => match us, hl with | [_], _ => rfl
  have F21 := fun_mk (st := s_least_like) l21 c21 k21
  have b21 := F21.binds (ps := ["disc"]) fun _ _ _ _ _ _ us hl => match us, hl with | [_], _ => rfl
  have F22 := fun_mk (st := s_opened_lights) l22 c22 k22
  have b22 := F22.binds (ps := ["opened", "slots"]) fun _ _ _ _ _ _ us hl => match us, hl with | [_, _], _ => rfl
  have F23 := fun_mk (st := s_opened_forms) l23 c23 k23
  have b23 := F23.binds (ps := ["openings", "slots"]) fun _ _ _ _ _ _ us hl => match us, hl with | [_, _], _ => rfl
  have F24 := fun_mk (st := s_opened_disc) l24 c24 k24
  have b24 := F24.binds (ps := ["opened", "slots"]) fun _ _ _ _ _ _ us hl => match us, hl with | [_, _], _ => rfl
  have F25 := fun_mk (st := s_is_flat) l25 c25 k25
  have b25 := F25.binds (ps := ["disc"]) fun _ _ _ _ _ _ us hl => match us, hl with | [_], _ => rfl
  have F26 := fun_mk (st := s_flat_turns) l26 c26 k26
  have b26 := F26.binds (ps := ["disc"]) fun _ _ _ _ _ _ us hl => match us, hl with | [_], _ => rfl
  have F27 := fun_mk (st := s_are_flat) l27 c27 k27
  have b27 := F27.binds (ps := ["lights"]) fun _ _ _ _ _ _ us hl => match us, hl with | [_], _ => rfl
  have F28 := fun_mk (st := s_all_lights) l28 c28 k28
  have b28 := F28.binds (ps := ["disc", "other"]) fun _ _ _ _ _ _ us hl => match us, hl with | [_, _], _ => rfl
  have F29 := fun_mk (st := s_own_lights) l29 c29 k29
  have b29 := F29.binds (ps := ["disc"]) fun _ _ _ _ _ _ us hl => match us, hl with | [_], _ => rfl
  have F30 := fun_mk (st := s_are_twins) l30 c30 k30
  have b30 := F30.binds (ps := ["disc", "other"]) fun _ _ _ _ _ _ us hl => match us, hl with | [_, _], _ => rfl
  have F31 := fun_mk (st := s_twin_discs) l31 c31 k31
  have b31 := F31.binds (ps := ["disc"]) fun _ _ _ _ _ _ us hl => match us, hl with | [_], _ => rfl
  have F32 := fun_mk (st := s_twin_count) l32 c32 k32
  have b32 := F32.binds (ps := ["slots", "many"]) fun _ _ _ _ _ _ us hl => match us, hl with | [_, _], _ => rfl
  have F33 := fun_mk (st := s_form_count) l33 c33 k33
  have b33 := F33.binds (ps := ["slots", "many"]) fun _ _ _ _ _ _ us hl => match us, hl with | [_, _], _ => rfl
  have F34 := fun_mk (st := s_forms_with) l34 c34 k34
  have b34 := F34.binds (ps := ["lights"]) fun _ _ _ _ _ _ us hl => match us, hl with | [_], _ => rfl
  have F35 := fun_mk (st := s_openings) l35 c35 k35
  have b35 := F35.binds (ps := ["lights", "many"]) fun _ _ _ _ _ _ us hl => match us, hl with | [_, _], _ => rfl
  have F36 := fun_mk (st := s_turned_alike) l36 c36 k36
  have b36 := F36.binds (ps := ["slots", "many", "turn"]) fun _ _ _ _ _ _ us hl => match us, hl with | [_, _, _], _ => rfl
  have F37 := fun_mk (st := s_mirrored_alike) l37 c37 k37
  have b37 := F37.binds (ps := ["slots", "many", "turn"]) fun _ _ _ _ _ _ us hl => match us, hl with | [_, _, _], _ => rfl
  have F38 := fun_mk (st := s_law_pool) l38 c38 k38
  have b38 := F38.binds (ps := ["script", "at"]) fun _ _ _ _ _ _ us hl => match us, hl with | [_, _], _ => rfl
  have F39 := fun_mk (st := s_law_draw) l39 c39 k39
  have b39 := F39.binds (ps := ["pool", "top"]) fun _ _ _ _ _ _ us hl => match us, hl with | [_, _], _ => rfl
  have F40 := fun_mk (st := s_law_slits) l40 c40 k40
  have b40 := F40.binds (ps := ["pool", "size"]) fun _ _ _ _ _ _ us hl => match us, hl with | [_, _], _ => rfl
  have F41 := fun_mk (st := s_law_right) l41 c41 k41
  have b41 := F41.binds (ps := ["plate"]) fun _ _ _ _ _ _ us hl => match us, hl with | [_], _ => rfl
  have F42 := fun_mk (st := s_law_small_right) l42 c42 k42
  have b42 := F42.binds (ps := ["plate"]) fun _ _ _ _ _ _ us hl => match us, hl with | [_], _ => rfl
  have F43 := fun_mk (st := s_law) l43 c43 k43
  exact ⟨_, fun s v => .of_eq rfl, fun base _ _ => ok_law ⟨f0, _, F0, b0, PySem.W.mg_of X G a0, f1, _, F1, b1, PySem.W.mg_of X G a1, f2, _, F2, b2, PySem.W.mg_of X G a2, f3, _, F3, b3, PySem.W.mg_of X G a3, f4, _, F4, b4, PySem.W.mg_of X G a4, f5, _, F5, b5, PySem.W.mg_of X G a5, f6, _, F6, b6, PySem.W.mg_of X G a6, f7, _, F7, b7, PySem.W.mg_of X G a7, f8, _, F8, b8, PySem.W.mg_of X G a8, f9, _, F9, b9, PySem.W.mg_of X G a9, f10, _, F10, b10, PySem.W.mg_of X G a10, f11, _, F11, b11, PySem.W.mg_of X G a11, f12, _, F12, b12, PySem.W.mg_of X G a12, f13, _, F13, b13, PySem.W.mg_of X G a13, f14, _, F14, b14, PySem.W.mg_of X G a14, f15, _, F15, b15, PySem.W.mg_of X G a15, f16, _, F16, b16, PySem.W.mg_of X G a16, f17, _, F17, b17, PySem.W.mg_of X G a17, f18, _, F18, b18, PySem.W.mg_of X G a18, f19, _, F19, b19, PySem.W.mg_of X G a19, f20, _, F20, b20, PySem.W.mg_of X G a20, f21, _, F21, b21, PySem.W.mg_of X G a21, f22, _, F22, b22, PySem.W.mg_of X G a22, f23, _, F23, b23, PySem.W.mg_of X G a23, f24, _, F24, b24, PySem.W.mg_of X G a24, f25, _, F25, b25, PySem.W.mg_of X G a25, f26, _, F26, b26, PySem.W.mg_of X G a26, f27, _, F27, b27, PySem.W.mg_of X G a27, f28, _, F28, b28, PySem.W.mg_of X G a28, f29, _, F29, b29, PySem.W.mg_of X G a29, f30, _, F30, b30, PySem.W.mg_of X G a30, f31, _, F31, b31, PySem.W.mg_of X G a31, f32, _, F32, b32, PySem.W.mg_of X G a32, f33, _, F33, b33, PySem.W.mg_of X G a33, f34, _, F34, b34, PySem.W.mg_of X G a34, f35, _, F35, b35, PySem.W.mg_of X G a35, f36, _, F36, b36, PySem.W.mg_of X G a36, f37, _, F37, b37, PySem.W.mg_of X G a37, f38, _, F38, b38, PySem.W.mg_of X G a38, f39, _, F39, b39, PySem.W.mg_of X G a39, f40, _, F40, b40, PySem.W.mg_of X G a40, f41, _, F41, b41, PySem.W.mg_of X G a41, f42, _, F42, b42, PySem.W.mg_of X G a42, fa, _, F43, PySem.W.mg_of X G a43, t_MOST_SLOTS, PySem.W.mg_of X G m_MOST_SLOTS, t_MOST_LIGHT, PySem.W.mg_of X G m_MOST_LIGHT, t_MOST_LISTED, PySem.W.mg_of X G m_MOST_LISTED, PySem.W.mg_of X G i_comb, PySem.W.mg_of X G i_combinations, PySem.W.mg_of X G i_gcd, PySem.W.mg_none_of X G z_abs, PySem.W.mg_none_of X G z_bool, PySem.W.mg_none_of X G z_enumerate, PySem.W.mg_none_of X G z_int, PySem.W.mg_none_of X G z_isinstance, PySem.W.mg_none_of X G z_len, PySem.W.mg_none_of X G z_list, PySem.W.mg_none_of X G z_max, PySem.W.mg_none_of X G z_min, PySem.W.mg_none_of X G z_range, PySem.W.mg_none_of X G z_set, PySem.W.mg_none_of X G z_sorted, PySem.W.mg_none_of X G z_sum, PySem.W.mg_none_of X G z_tuple, PySem.W.mg_none_of X G z_zip⟩⟩
end Sd
open PySem PySem.W PyProof.Rows
set_option maxRecDepth 100000 in
set_option maxHeartbeats 0 in
theorem PySem.Challenge.cw_slitdiscs_k62_whole_shut_discs_holds : PySem.Challenge.rw_slitdiscs_k62_whole_shut_discs.Holds := by
  w_on; o_law; k_head; (case hw => w_witness2)
  k_fill
  refine Sd.gwalk (l := PySem.Challenge.rw_slitdiscs_k62_whole_shut_discs) (n := 63) (k := 10) (x := "script") (sp := Sd.spLaw) rfl (by decide) rfl ⟨rfl, by decide, by decide⟩ (fun w h Y => PySem.W.kIn_of Y) ?F (fun _ _ a ns hl hS => ⟨a, ns, rfl, hS, hl, fun _ => rfl⟩)
  case F =>
    intro w mg fa h KX G hmg
    refine' Sd.all_mk KX G hmg ?a0 ?l0 ?c0 ?k0 ?a1 ?l1 ?c1 ?k1 ?a2 ?l2 ?c2 ?k2 ?a3 ?l3 ?c3 ?k3 ?a4 ?l4 ?c4 ?k4 ?a5 ?l5 ?c5 ?k5 ?a6 ?l6 ?c6 ?k6 ?a7 ?l7 ?c7 ?k7 ?a8 ?l8 ?c8 ?k8 ?a9 ?l9 ?c9 ?k9 ?a10 ?l10 ?c10 ?k10 ?a11 ?l11 ?c11 ?k11 ?a12 ?l12 ?c12 ?k12 ?a13 ?l13 ?c13 ?k13 ?a14 ?l14 ?c14 ?k14 ?a15 ?l15 ?c15 ?k15 ?a16 ?l16 ?c16 ?k16 ?a17 ?l17 ?c17 ?k17 ?a18 ?l18 ?c18 ?k18 ?a19 ?l19 ?c19 ?k19 ?a20 ?l20 ?c20 ?k20 ?a21 ?l21 ?c21 ?k21 ?a22 ?l22 ?c22 ?k22 ?a23 ?l23 ?c23 ?k23 ?a24 ?l24 ?c24 ?k24 ?a25 ?l25 ?c25 ?k25 ?a26 ?l26 ?c26 ?k26 ?a27 ?l27 ?c27 ?k27 ?a28 ?l28 ?c28 ?k28 ?a29 ?l29 ?c29 ?k29 ?a30 ?l30 ?c30 ?k30 ?a31 ?l31 ?c31 ?k31 ?a32 ?l32 ?c32 ?k32 ?a33 ?l33 ?c33 ?k33 ?a34 ?l34 ?c34 ?k34 ?a35 ?l35 ?c35 ?k35 ?a36 ?l36 ?c36 ?k36 ?a37 ?l37 ?c37 ?k37 ?a38 ?l38 ?c38 ?k38 ?a39 ?l39 ?c39 ?k39 ?a40 ?l40 ?c40 ?k40 ?a41 ?l41 ?c41 ?k41 ?a42 ?l42 ?c42 ?k42 ?a43 ?l43 ?c43 ?k43 ?m_MOST_SLOTS ?m_MOST_LIGHT ?m_MOST_LISTED ?i_comb ?i_combinations ?i_gcd ?z_abs ?z_bool ?z_enumerate ?z_int ?z_isinstance ?z_len ?z_list ?z_max ?z_min ?z_range ?z_set ?z_sorted ?z_sum ?z_tuple ?z_zip
    (case a0 => k_is)
    (case l0 => k_is)
    (case c0 => k_is)
    (case k0 => k_is)
    (case a1 => k_is)
    (case l1 => k_is)
    (case c1 => k_is)
    (case k1 => k_is)
    (case a2 => k_is)
    (case l2 => k_is)
    (case c2 => k_is)
    (case k2 => k_is)
    (case a3 => k_is)
    (case l3 => k_is)
    (case c3 => k_is)
    (case k3 => k_is)
    (case a4 => k_is)
    (case l4 => k_is)
    (case c4 => k_is)
    (case k4 => k_is)
    (case a5 => k_is)
    (case l5 => k_is)
    (case c5 => k_is)
    (case k5 => k_is)
    (case a6 => k_is)
    (case l6 => k_is)
    (case c6 => k_is)
    (case k6 => k_is)
    (case a7 => k_is)
    (case l7 => k_is)
    (case c7 => k_is)
    (case k7 => k_is)
    (case a8 => k_is)
    (case l8 => k_is)
    (case c8 => k_is)
    (case k8 => k_is)
    (case a9 => k_is)
    (case l9 => k_is)
    (case c9 => k_is)
    (case k9 => k_is)
    (case a10 => k_is)
    (case l10 => k_is)
    (case c10 => k_is)
    (case k10 => k_is)
    (case a11 => k_is)
    (case l11 => k_is)
    (case c11 => k_is)
    (case k11 => k_is)
    (case a12 => k_is)
    (case l12 => k_is)
    (case c12 => k_is)
    (case k12 => k_is)
    (case a13 => k_is)
    (case l13 => k_is)
    (case c13 => k_is)
    (case k13 => k_is)
    (case a14 => k_is)
    (case l14 => k_is)
    (case c14 => k_is)
    (case k14 => k_is)
    (case a15 => k_is)
    (case l15 => k_is)
    (case c15 => k_is)
    (case k15 => k_is)
    (case a16 => k_is)
    (case l16 => k_is)
    (case c16 => k_is)
    (case k16 => k_is)
    (case a17 => k_is)
    (case l17 => k_is)
    (case c17 => k_is)
    (case k17 => k_is)
    (case a18 => k_is)
    (case l18 => k_is)
    (case c18 => k_is)
    (case k18 => k_is)
    (case a19 => k_is)
    (case l19 => k_is)
    (case c19 => k_is)
    (case k19 => k_is)
    (case a20 => k_is)
    (case l20 => k_is)
    (case c20 => k_is)
    (case k20 => k_is)
    (case a21 => k_is)
    (case l21 => k_is)
    (case c21 => k_is)
    (case k21 => k_is)
    (case a22 => k_is)
    (case l22 => k_is)
    (case c22 => k_is)
    (case k22 => k_is)
    (case a23 => k_is)
    (case l23 => k_is)
    (case c23 => k_is)
    (case k23 => k_is)
    (case a24 => k_is)
    (case l24 => k_is)
    (case c24 => k_is)
    (case k24 => k_is)
    (case a25 => k_is)
    (case l25 => k_is)
    (case c25 => k_is)
    (case k25 => k_is)
    (case a26 => k_is)
    (case l26 => k_is)
    (case c26 => k_is)
    (case k26 => k_is)
    (case a27 => k_is)
    (case l27 => k_is)
    (case c27 => k_is)
    (case k27 => k_is)
    (case a28 => k_is)
    (case l28 => k_is)
    (case c28 => k_is)
    (case k28 => k_is)
    (case a29 => k_is)
    (case l29 => k_is)
    (case c29 => k_is)
    (case k29 => k_is)
    (case a30 => k_is)
    (case l30 => k_is)
    (case c30 => k_is)
    (case k30 => k_is)
    (case a31 => k_is)
    (case l31 => k_is)
    (case c31 => k_is)
    (case k31 => k_is)
    (case a32 => k_is)
    (case l32 => k_is)
    (case c32 => k_is)
    (case k32 => k_is)
    (case a33 => k_is)
    (case l33 => k_is)
    (case c33 => k_is)
    (case k33 => k_is)
    (case a34 => k_is)
    (case l34 => k_is)
    (case c34 => k_is)
    (case k34 => k_is)
    (case a35 => k_is)
    (case l35 => k_is)
    (case c35 => k_is)
    (case k35 => k_is)
    (case a36 => k_is)
    (case l36 => k_is)
    (case c36 => k_is)
    (case k36 => k_is)
    (case a37 => k_is)
    (case l37 => k_is)
    (case c37 => k_is)
    (case k37 => k_is)
    (case a38 => k_is)
    (case l38 => k_is)
    (case c38 => k_is)
    (case k38 => k_is)
    (case a39 => k_is)
    (case l39 => k_is)
    (case c39 => k_is)
    (case k39 => k_is)
    (case a40 => k_is)
    (case l40 => k_is)
    (case c40 => k_is)
    (case k40 => k_is)
    (case a41 => k_is)
    (case l41 => k_is)
    (case c41 => k_is)
    (case k41 => k_is)
    (case a42 => k_is)
    (case l42 => k_is)
    (case c42 => k_is)
    (case k42 => k_is)
    (case a43 => k_is)
    (case l43 => k_is)
    (case c43 => k_is)
    (case k43 => k_is)
    (case m_MOST_SLOTS => k_is)
    (case m_MOST_LIGHT => k_is)
    (case m_MOST_LISTED => k_is)
    (case i_comb => k_is)
    (case i_combinations => k_is)
    (case i_gcd => k_is)
    (case z_abs => k_is)
    (case z_bool => k_is)
    (case z_enumerate => k_is)
    (case z_int => k_is)
    (case z_isinstance => k_is)
    (case z_len => k_is)
    (case z_list => k_is)
    (case z_max => k_is)
    (case z_min => k_is)
    (case z_range => k_is)
    (case z_set => k_is)
    (case z_sorted => k_is)
    (case z_sum => k_is)
    (case z_tuple => k_is)
    (case z_zip => k_is)
