import PyProof.Rows.All
import Wide.All
import OpenK.AllK
import Wide.FinOn
import HandS.Comp
import HandS.Ends
import HandS.Iter
import HandS.Words
import HandS.WordsList
import HandS.Walk
import HandS.IsInst
import HandS.Wide
import PyProof.ReprRoads
import PyProof.ReprLen
import KE.DataMinMax
import HandS.Deep
import HandS.Walk
import HandS.DictComp
import HandS.Iter
import HandS.WordsDict
import HandS.More
import HandS.Style
import HandS.Conv
import HandS.Text
import HandS.StrMore
import HandS.FStr
import HandS.IterVal
import PyProof.StrBlock2
import HandS.SetFor
import HandS.TupSets
import HandS.Strs
import KE.GoesEnum
import HandS.RaiseMore
import KE.KEqSeq
import HandS.WideBits
import HandS.ExcInit
import HandS.ExcIs
import HandS.ExcField
import HandS.ExcValue
import HandS.ClsMeth
import HandS.MakeKwOnly
import KE.KExcIs
import HandS.Hot
import HandS.HotCalls
import HandS.ExcInitHot
import HandS.WordsExc
import HandS.ExcCtx
import HandS.TryOnly
import HandS.Property
import HandS.Words
import HandS.NamedTupSort
import HandS.OwnEq
import HandS.Star
import KE.KStar
import KE.DataCmp
import PySem.Challenge.RW_slitdiscs_k46_errors_of_live_discs
set_option Elab.async false
set_option linter.all false
set_option maxRecDepth 100000
set_option maxHeartbeats 4000000
/-! Own layer over HandS: defs that run where no repr is under way (FnG), repr of data, powers of great ints, calls by keywords alone. -/
namespace Sd
open PySem PySem.Spec PyProof.Rows L2

/-! ### a def called where no repr is under way -/
structure FnG (P : Program) (w : World) (K : PySem.W.Frag) (mg : Str → Option Value) (base : Heap) (C : CXT) (k : Nat) (f : Addr) (fd : FuncData) (ps : List Str) (sp : Sp) : Prop where
  cnt : ∀ {vs H Q E}, sp vs H Q E → vs.length = ps.length
  go : ∀ (A : Around) (out : List Env) (s : Shared) (H : Hp) (ar : Args) (us : List Value) (vs : List V) (Q : VK) (E : XK), A.guards = some [] → Room k A →
    Env0 P w K mg base A out s H → BindsTo s fd ar (ps.zip us) → Vals vs us → sp vs H Q E →
    codeAny (model P w) A (.call (.ref f) ar) (CR C out P w H s Q E) s

section
variable {P : Program} {w : World} {K : PySem.W.Frag} {mg : Str → Option Value} {base : Heap} {C : CXT}
theorem gfn_of {k : Nat} {f : Addr} {nm ql : Str} {pms : Arguments} {bd : List Stmt} {sc : Scope} {v1 v2 v3 v4 cd v5 oc : Value} {an od : Option Addr}
    {osl : Array (Option Value)} {N ps : List Str} {sp : Sp}
    (lk : K.lookup f = some ⟨oc, od, .func (PySem.W.fnOf nm ql pms bd sc v1 v2 v3 v4 an cd v5), osl⟩)
    (hc : PySem.W.codeIn K cd ql = true) (S : FnScope N ps sc)
    (len : ∀ vs H Q E, sp vs H Q E → vs.length = ps.length)
    (hb : ∀ (A : Around) (out : List Env) (s : Shared) (H : Hp) (vs : List V) (Q : VK) (E : XK), A.guards = some [] →
      Room k (A.deeper (envOfC ql sc s.heap.objs.size f cd)) → sp vs H Q E →
      ∃ t, PSs (cxOf C P w K mg base N ql sc f cd A out s H E) bd t ∧ t { nx := fun _ H' => Q .non H', rt := Q } (start N vs) H) :
    FnG P w K mg base C (k + 1) f (PySem.W.fnOf nm ql pms bd sc v1 v2 v3 v4 an cd v5) ps sp := by
  refine ⟨fun h => len _ _ _ _ h, fun A out s H ar us vs Q E hg hr e0 hbd r hsp => ?_⟩
  have n1 := len _ _ _ _ hsp
  have kx : K.In s.heap := e0.mod.kin.keeps fun b o e => (e0.bs b o e).1
  have li : s.heap.NoLimit := e0.mod.nolimit.keeps fun b o e => (e0.bs b o e).1
  refine codeAny_call_function hr.depth (kx _ _ lk) rfl S.co S.gen rfl (PySem.W.codeRec_of kx hc) (hbd _ _ _ _ ?_)
  refine wpAny_newFunctionEnv_cells S.kind (fun ⟨n, v⟩ hy => ?_) fun env he s1 x => ?_
  · rcases S.par n (List.of_mem_zip hy).1 with q | q
    · exact .inl q
    · exact .inr ⟨q, PySem.W.cellsFrom_some _ _ _ (.inl q)⟩
  subst he
  refine ⟨li.keeps x.toInCall.keep, codeAny_func ?_⟩
  obtain ⟨t, ht, hq⟩ := hb A out s H vs Q E hg (hr.deeper _) hsp
  have I0 := inv_start (CX := C) (E := E) S hr.hd e0 n1 r x
  refine wpAny_mono (ht.run [] s1 (start N vs) H _ I0 hq) (fun fl s' hs => ?_) fun e s' hs => hs
  cases fl with
  | next =>
    obtain ⟨σ', H', J, q⟩ := hs
    exact ⟨.non, H', J.os, J.bare, J.base, J.hok, rfl, q⟩
  | ret u =>
    obtain ⟨v, σ', H', J, rv, q⟩ := hs
    exact ⟨v, H', J.os, J.bare, J.base, J.hok, rv, q⟩
  | brk => exact hs.elim fun _ ⟨_, _, q⟩ => False.elim q
  | cont => exact hs.elim fun _ ⟨_, _, q⟩ => False.elim q

/-- as Fun.ok, where no repr is under way -/
theorem okG {x ql : Str} {st : Stmt} {f : Addr} {fd : FuncData} {N ps : List Str} {k : Nat} {sp : Sp} (F : Fun K x ql st f fd) (S : FnScope N ps (defScope st))
    (len : ∀ vs H Q E, sp vs H Q E → vs.length = ps.length)
    (hb : ∀ (cd : Value) (A : Around) (out : List Env) (s : Shared) (H : Hp) (vs : List V) (Q : VK) (E : XK), A.guards = some [] →
      Room k (A.deeper (envOfC ql (defScope st) s.heap.objs.size f cd)) → sp vs H Q E →
      ∃ t, PSs (cxOf CX0 P w K mg base N ql (defScope st) f cd A out s H E).nox (defBody st) t ∧ t { nx := fun _ H' => Q .non H', rt := Q } (start N vs) H) :
    FnG P w K mg base CX0 (k + 1) f fd ps sp := by
  obtain ⟨oc, od, v2, v3, v4, an, cd, v5, osl, rfl, lk, hc⟩ := F.ex
  refine gfn_of lk hc S len fun A out s H vs Q E hg hr hsp => ?_
  obtain ⟨t, h, q⟩ := hb cd A out s H vs Q E hg hr hsp
  exact ⟨t, h.nox, q⟩
end

section
variable {X : Cx} {C : CXT} {k : Nat} {f : Addr} {fd : FuncData} {ps ks : List Str} {sp : Sp} {dvs : List V} {ds : List Value} {E : XK} {x : Str} {p pos : Pos} {e : Expr} {es : List Expr} {kws : List Keyword} {t tk : TA}
theorem endG {pins : List (Addr × Obj)} {σ : L2.St} {H : Hp} {s s' : Shared} {Q : VK} {r : Result} (hx : Passes C X E) (I : Inv X pins σ H s) (h : CR C X.stack X.prog X.w H s Q E r s') :
    (match r with | .ok (.ret u) => EP X pins σ Q u s' | .ok _ => False | .error e => X.xe e s') := by
  cases r with
  | error e => exact hx pins σ H s e s' I h
  | ok fl =>
    cases fl with
    | ret u => exact I.after h
    | next => exact h
    | brk => exact h
    | cont => exact h
theorem goG {pins : List (Addr × Obj)} {σ : L2.St} {H : Hp} {s : Shared} {Q : VK} {us : List Value} {vs : List V} (F : FnG X.prog X.w X.K X.mg X.base C k f fd ps sp) (hA : X.A.guards = some []) (hr : Room k X.A)
    (hb : Binds X.K fd ps ds) (hd : Vals dvs ds) (hx : Passes C X E) (I : Inv X pins σ H s) (r : Vals vs us) (h : sp (vs ++ dvs) H Q E) :
    wpAny (model X.prog X.w) X.A (call (.ref f) us) (EP X pins σ Q) X.xe s := by
  have r2 := r.append hd
  have n2 : (us ++ ds).length = ps.length := r2.length.symm.trans (F.cnt h)
  refine wpAny_call (codeAny_mono (F.go X.A X.stack s H ⟨us, []⟩ _ _ Q E hA hr I.env0 (hb s us I.kIn n2) r2 h) fun r s' hq => ?_)
  have z := endG hx I hq
  cases r with
  | error e => exact z
  | ok fl => cases fl <;> exact z
/-- f(e, ..) where no repr is under way -/
theorem pe_callG (F : FnG X.prog X.w X.K X.mg X.base C k f fd ps sp) (hA : X.A.guards = some []) (hr : Room k X.A) (hg : Gl X x) (hm : X.mg x = some (.ref f)) (hk : PySem.W.keepIn X.K (.ref f) = true)
    (hb : Binds X.K fd ps ds) (hd : Vals dvs ds) (hx : Passes C X E) (ha : PA X (e :: es) t) (hdb : (x == ("__debug__" : Str)) = false := by decide)
    (he : starEach (e :: es) X.env = (false, eval e X.env) :: starEach es X.env := by rfl) (hpl : (backTo pos (starEach es X.env)).any (·.1) = false := by rfl) :
    PE X (.Call (.Name x p) (e :: es) [] pos) (tCall sp dvs E t) := by
  refine ⟨fun pins s σ H Q I h => wpAny_Call_Name_kw (ld_glob I hg hm ?_ hdb)⟩
  refine PySem.W.callWith_K (h₀ := X.base) I.ok.mod.kin hk (thn (ha.run pos pins s σ H _ I h) fun us s1 z => ?_) he hpl
  obtain ⟨vs, H1, I1, r, q⟩ := z
  exact ⟨I1.kIn, goG F hA hr hb hd hx I1 r q⟩
/-- f(k = v, ..): keywords alone -/
def tCallW (sp : Sp) (gV : List V → List V) (E : XK) (tk : TA) : TE := fun σ H Q => tk σ H fun zs H2 => sp (gV zs) H2 Q E
variable {g : List Value → List Value → List Value} {gV : List V → List V → List V}
theorem pe_callW (F : FnOk X.prog X.w X.K X.mg X.base C k f fd ps sp) (hr : Room k X.A) (hg : Gl X x) (hm : X.mg x = some (.ref f)) (hk : PySem.W.keepIn X.K (.ref f) = true) (hb : KBinds X.K fd ps ks g gV) (hx : Passes C X E)
    (hkw : PK X kws tk) (hall : (backToKw pos (keywordEach kws X.env)).all (·.1.isSome) = true := by rfl) (hks : (backToKw pos (keywordEach kws X.env)).filterMap (·.1) = ks := by rfl)
    (hdb : (x == ("__debug__" : Str)) = false := by decide)
    (hpl : ((backTo pos (starEach [] X.env)).any (·.1) || (backToKw pos (keywordEach kws X.env)).any (·.1.isNone)) = false := by rfl) :
    PE X (.Call (.Name x p) [] kws pos) (tCallW sp (gV []) E tk) := by
  refine ⟨fun pins s σ H Q I h => wpAny_Call_Name_kw (ld_glob I hg hm ?_ hdb)⟩
  refine PySem.W.callWith_KW0 (h₀ := X.base) I.ok.mod.kin hk hall (thn (hkw.run pos pins s σ H _ I h) fun ws s2 z => ?_) hpl
  obtain ⟨zs, H2, I2, rz, q2⟩ := z
  refine ⟨I2.kIn, ?_⟩
  rw [hks]
  exact run_fnk F hr hb hx I2 .nil rz q2
end

/-! ### the law's call -/
theorem glaw {P : Program} {w : World} {K : PySem.W.Frag} {mg mb : Str → Option Value} {k : Nat} {fa a : Addr} {fd : FuncData} {x : Str} {sp : Sp} {s1 : Shared} {vs : List Value} {ns : List Int}
    (kx : K.In s1.heap) (hn : s1.heap.Ns mainGlobals mg) (hb : s1.heap.Ns builtinsNs mb) (hbb : ∀ x : Str, x ≠ "__name__" → mb x = bootBuiltins x) (hlim : s1.heap.NoLimit) (hgs : s1.gens = #[])
    (ha : s1.heap.get? a = some { cls := .type "list", data := .seq vs.toArray }) (hi : IntsAre vs ns) (hl : ns.length ≤ sizeLine) (hr : Room k callerA)
    (F : ∀ base : Heap, K.In base → base.Ns mainGlobals mg → FnG P w K mg base CX0 k fa fd [x] sp) (hbind : ∀ (s : Shared) (u : Value), BindsTo s fd ⟨[u], []⟩ [(x, u)])
    (hsp : ∀ H : Hp, SqL K H a (ns.map V.int) → sp [.ref a] H (fun v _ => v = .bl true) E0) :
    codeAny (model P w) callerA (.call (.ref fa) ⟨[.ref a], []⟩) (fun r s' => r = .ok (.ret (.bool true)) ∧ OldK s1.heap s'.heap ∧ s'.os = s1.os ∧ AllBare s'.gens) s1 := by
  have rv := vals_ints hi
  have nv := hi.length
  -- the abstract heap: the script, locked, unless the module itself holds it
  have main : ∀ H : Hp, (∀ b, H b = none ∨ (b = a ∧ H b = some (.frz { cls := .type "list", data := .seq vs.toArray } (.lst (ns.map V.int))))) → (H a ≠ none → K.lookup a = none) →
      SqL K H a (ns.map V.int) → HOk P w H s1.heap →
      codeAny (model P w) callerA (.call (.ref fa) ⟨[.ref a], []⟩) (fun r s' => r = .ok (.ret (.bool true)) ∧ OldK s1.heap s'.heap ∧ s'.os = s1.os ∧ AllBare s'.gens) s1 := by
    intro H hO hK hS hok
    have out : ∀ {b : Addr} {o : Obj}, s1.heap.get? b = some o → (b = a → H b = none) → (hidT s1.heap H).get? b = some o := fun {b o} e n => hidT_get e (by
      rcases hO b with z | ⟨z, _⟩
      · exact z
      · exact n z)
    have dct : ∀ {b : Addr} {m : Str → Option Value}, s1.heap.Ns b m → (hidT s1.heap H).Ns b m := fun {b m} ⟨o, es, ep, e, d, r⟩ => ⟨o, es, ep, out e (fun z => by
      subst z
      rw [ha] at e
      cases e
      cases (show Data.seq vs.toArray _ = Data.dict es ep from d)), d, r⟩
    have kb : K.In (hidT s1.heap H) := fun b o e => out (kx b o e) fun z => by
      subst z
      cases q : H b with
      | none => rfl
      | some u =>
        rw [hK (by rw [q]; exact fun z => nomatch z)] at e
        cases e
    have md : Mod K mg (hidT s1.heap H) := ⟨kb, dct hn, ⟨mb, dct hb, hbb⟩, let ⟨mc, h1, h2⟩ := hlim; ⟨mc, dct h1, h2⟩⟩
    have en : Env0 P w K mg (hidT s1.heap H) callerA [] s1 H := ⟨rfl, md, fun b o e => of_hidT e, Nat.le_of_eq (hidT_size _ _), trivial, fun b z => (List.not_mem_nil z).elim, hok, .of_eq hgs⟩
    refine codeAny_mono ((F _ kb (dct hn)).go callerA [] s1 H ⟨[.ref a], []⟩ [.ref a] [.ref a] _ _ rfl hr en (hbind s1 (.ref a)) (.cons rfl .nil) (hsp H hS)) fun r s' h => ?_
    cases r with
    | error e => exact False.elim h
    | ok fl =>
      cases fl with
      | next => exact False.elim h
      | brk => exact False.elim h
      | cont => exact False.elim h
      | ret u =>
        obtain ⟨v, H', os, br, un, ok', r', q⟩ := h
        cases (show v = .bl true from q)
        cases (show u = Value.bool true from r')
        refine ⟨rfl, OldK.of_keep fun b o e => ?_, os, br⟩
        rcases hO b with z | ⟨_, z⟩
        · exact un.keep b o e z (fun z => (List.not_mem_nil z).elim) (fun z => (List.not_mem_nil z).elim)
        · have e1 := (hok b _ z).1
          have e2 := (ok' b _ (un.frzs b _ _ z)).1
          rw [e] at e1
          cases e1
          exact e2
  cases hk : K.lookup a with
  | some o =>
    have e := kx a o hk
    rw [ha] at e
    cases e
    refine main (fun _ => none) (fun _ => .inl rfl) (fun z => absurd rfl z) (.inr ⟨_, vs.toArray, _, hk, rfl, rfl, rfl, ?_, ?_⟩) fun b u z => nomatch (show (none : Option HO) = some u from z)
    · rw [List.size_toArray, nv]
      exact hl
    · simpa using rv
  | none =>
    refine main (fun b => if b = a then some (.frz { cls := .type "list", data := .seq vs.toArray } (.lst (ns.map V.int))) else none) (fun b => ?_) (fun _ => hk) (.inl (.inr ⟨{ cls := .type "list", data := .seq vs.toArray }, if_pos rfl⟩)) (fun b u z => ?_)
    · by_cases q : b = a
      · exact .inr ⟨q, if_pos q⟩
      · exact .inl (if_neg q)
    · by_cases q : b = a
      · have z2 := (if_pos q).symm.trans z
        cases z2
        subst q
        exact ⟨ha, by rw [List.length_map]; exact hl, vs, _, rv, ha⟩
      · have z2 := (if_neg q).symm.trans z
        cases z2
theorem gwalk {l : PySem.W.OpenLaw} {n k : Nat} {q : Program} {lo : List Str} {XP : (Str → Option Value) → Heap → Prop} {YP : World → Heap → Prop} {d : DefRec} {K : Params → PySem.W.Frag} {sp : PySem.W.Frag → Sp} {x : Str}
    (hn : l.most = some n) (hn2 : n ≤ sizeLine) (hdf : d.params.defaults = []) (hr : Room k callerA) (hY : ∀ (w : World) (h : Heap), YP w h → (K w.params).In h)
    (F : ∀ (w : World) (mg : Str → Option Value) (fa : Addr) (h : Heap), (K w.params).In h → h.Ns mainGlobals mg → mg d.name = some (.ref fa) →
      ∃ fd : FuncData, (∀ (s : Shared) (u : Value), BindsTo s fd ⟨[u], []⟩ [(x, u)]) ∧
        ∀ base : Heap, (K w.params).In base → base.Ns mainGlobals mg → FnG l.prog w (K w.params) mg base CX0 k fa fd [x] (sp (K w.params)))
    (hsp : ∀ (K : PySem.W.Frag) (H : Hp) (a : Addr) (ns : List Int), ns.length ≤ n → SqL K H a (ns.map V.int) → sp K [.ref a] H (fun v _ => v = .bl true) E0) :
    PySem.W.WalkO q lo XP YP l.row.toRowW d [] (fun f vs => PySem.call f vs) := by
  refine Att.attach_call hn hdf fun w s₀ s₁ mg mb fa o pm cd doc a vs ns G Y ho hd hcd hmg hobj hints hlen hg => ?_
  have kx := hY w _ Y
  obtain ⟨fd, hb, hF⟩ := F w mg fa _ kx G.T.g hmg
  exact glaw kx G.T.g G.T.b G.T.builtins G.T.nolimit hg hobj hints (Nat.le_trans hlen hn2) hr hF hb fun H hS => hsp (K w.params) H a ns hlen hS

/-! ### repr of data -/
def rRepr (K : PySem.W.Frag) : List V → Hp → VK → Prop := fun xs H Q => ∃ (a : Addr) (d : PyData), xs = [.ref a] ∧ Dp K H (.ref a) d ∧ d.showable = true ∧ d.hasDict = false ∧ d.depth ≤ 32 ∧ d.shown.length ≤ sizeLine ∧ Q (.str d.shown) H
theorem call_repr {X : Cx} (hA : X.A.guards = some []) {k : Nat} (hr : Room k X.A) : CallR X (.builtin "repr") (rRepr X.K) := by
  intro pins s σ H xs us Q I r h
  obtain ⟨a, d, rfl, hd, h1, h2, h3, h4, q⟩ := h
  cases r with
  | cons r1 r2 =>
    cases r2
    cases r1
    obtain ⟨as, rd⟩ := Dp.reads I d _ _ hd rfl
    have hu := hr.units
    refine repr_of_reads' rd h1 (fun z => by rw [h2] at z; cases z) hA (by omega) (fun _ _ e => e) (fun h' u tk kp => ?_) h4
    exact ⟨.str d.shown, H, I.kept (t' := tk) kp, ⟨u, rfl⟩, q⟩

/-- repr of any data -/
def rReprV (K : PySem.W.Frag) : List V → Hp → VK → Prop := fun xs H Q => ∃ (x : V) (d : PyData), xs = [x] ∧ Dp K H x d ∧ d.showable = true ∧ d.hasDict = false ∧ d.depth ≤ 32 ∧ d.shown.length ≤ sizeLine ∧ Q (.str d.shown) H
theorem reprV {X : Cx} {K : PySem.W.Frag} (hK : X.K = K) (hA : X.A.guards = some []) {k : Nat} (hr : Room k X.A) : CallR X (.builtin "repr") (rReprV K) := by
  subst hK
  intro pins s σ H xs us Q I r h
  obtain ⟨x, d, rfl, hd, h1, h2, h3, h4, q⟩ := h
  have ref : ∀ a : Addr, x = .ref a → wpAny (model X.prog X.w) X.A (call (.builtin "repr") us) (EP X pins σ Q) X.xe s := fun a e => by
    subst e
    exact call_repr hA hr pins s σ H _ us Q I r ⟨a, d, rfl, hd, h1, h2, h3, h4, q⟩
  cases hd with
  | lst _ _ => exact ref _ rfl
  | tup _ _ => exact ref _ rfl
  | non =>
    cases r with
    | cons r1 r2 =>
      cases r2
      cases r1
      exact PySem.P.repr_of_none ⟨.str (PyData.shown .none), H, I.tok _, ⟨_, rfl⟩, q⟩
  | bl b =>
    cases r with
    | cons r1 r2 =>
      cases r2
      cases r1
      cases b with
      | true => exact PySem.P.repr_of_bool ⟨.str (PyData.shown (.bool true)), H, I.tok _, ⟨_, rfl⟩, q⟩
      | false => exact PySem.P.repr_of_bool ⟨.str (PyData.shown (.bool false)), H, I.tok _, ⟨_, rfl⟩, q⟩
  | int i =>
    cases r with
    | cons r1 r2 =>
      cases r2
      obtain ⟨t, rfl⟩ := r1
      have z : i.natAbs.log2 < 1920 := by
        simp only [PyData.showable] at h1
        exact of_decide_eq_true h1
      exact PySem.P.repr_of_int z ⟨.str (PyData.shown (.int i)), H, I.tok _, ⟨_, rfl⟩, q⟩
  | str y =>
    cases r with
    | cons r1 r2 =>
      cases r2
      obtain ⟨t, rfl⟩ := r1
      exact PySem.P.repr_of_str ⟨.str (PyData.shown (.str y)), H, I.tok _, ⟨_, rfl⟩, q⟩ h4

/-! ### a statement, then the rest by a word between them -/
def tMid (t u : TS) : TS := fun D σ H => ∃ M : L2.St → Hp → Prop, t { D with nx := M } σ H ∧ ∀ σ' H', M σ' H' → u D σ' H'
theorem pss_mid {X : Cx} {st : Stmt} {rs : List Stmt} {t u : TS} (h1 : PS X st t) (h2 : PSs X rs u) : PSs X (st :: rs) (tMid t u) :=
  ⟨fun pins s σ H D I ⟨M, hm, hu⟩ => wpAny_execs_cons (thn (h1.run pins s σ H { D with nx := M } I hm) fun f s1 q => by
    cases f with
    | next => exact q.elim fun σ' ⟨H', I', z⟩ => h2.run pins s1 σ' H' D I' (hu σ' H' z)
    | ret v => exact q
    | brk => exact q
    | cont => exact q)⟩

/-! ### rules with the written part named (for blocks of comprehensions) -/
theorem ixL {X : Cx} {K : PySem.W.Frag} (h : X.K = K) : IxR X (rIxL K) := h ▸ ix_list
theorem slL {X : Cx} {K : PySem.W.Frag} (h : X.K = K) : SlR X (rSlL K) := h ▸ sl_list
def rLenL (K : PySem.W.Frag) : List V → Hp → VK → Prop := fun xs H Q => ∃ (p : Addr) (ys : List V), xs = [.ref p] ∧ (SqL K H p ys ∨ SqT K H p ys) ∧ Q (.int ys.length) H
theorem lenL {X : Cx} {K : PySem.W.Frag} (h : X.K = K) : CallR X (.builtin "len") (rLenL K) := h ▸ call_len_seq
theorem sumL {X : Cx} {K : PySem.W.Frag} (h : X.K = K) (hc : X.calm = true) : CallR X (.builtin "sum") (rSum K) := h ▸ cr_sum hc
theorem maxL {X : Cx} {K : PySem.W.Frag} (h : X.K = K) (hc : X.calm = true) : CallR X (.builtin "max") (rMax K) := h ▸ cr_max hc
theorem minL {X : Cx} {K : PySem.W.Frag} (h : X.K = K) (hc : X.calm = true) : CallR X (.builtin "min") (rMin K) := h ▸ cr_min hc
theorem isiL {X : Cx} {K : PySem.W.Frag} (h : X.K = K) : CallR X (.builtin "isinstance") (rIsi K) := h ▸ call_isi
theorem reprL {X : Cx} {K : PySem.W.Frag} (h : X.K = K) (hA : X.A.guards = some []) {k : Nat} (hr : Room k X.A) : CallR X (.builtin "repr") (rRepr K) := h ▸ call_repr hA hr
theorem pg_tupL {X : Cx} {K : PySem.W.Frag} {es : List Expr} {j : Nat} {pos : Pos} {t : TGs} {n : Nat} (h : X.K = K) (hc : X.calm = true) (hs : PGs X es t)
    (hn : (assignEach es X.env).length = n := by rfl) (hst : (assignEach es X.env).findIdx? (·.1) = none := by rfl) : PG X (.Tuple es j pos) (gTup K n t) := h ▸ pg_tup hc hs hn hst
theorem enumL {X : Cx} {K : PySem.W.Frag} {elts : List Expr} {kk : Nat} {tpos p pos : Pos} {e : Expr} {ta : TA} (h : X.K = K) (hg : Gl X "enumerate") (hm : X.mg "enumerate" = none) (ha : PA X [e] ta)
    (hs : starEach [e] X.env = [(false, eval e X.env)] := by rfl) : PI X (.Tuple elts kk tpos) (.Call (.Name "enumerate" p) [e] [] pos) (iEnum K ta) := h ▸ pi_enum hg hm ha hs
theorem zipL {X : Cx} {K : PySem.W.Frag} {elts : List Expr} {kk : Nat} {tpos p pos : Pos} {e e2 : Expr} {ta : TA} (h : X.K = K) (hg : Gl X "zip") (hm : X.mg "zip" = none) (ha : PA X [e, e2] ta)
    (hs : starEach [e, e2] X.env = (false, eval e X.env) :: starEach [e2] X.env := by rfl) (hpl : (backTo pos (starEach [e2] X.env)).any (·.1) = false := by rfl) :
    PI X (.Tuple elts kk tpos) (.Call (.Name "zip" p) [e, e2] [] pos) (iZip K ta) := h ▸ pi_zip hg hm ha hs hpl
theorem pi_tupL {X : Cx} {K : PySem.W.Frag} {tg l : Expr} {tl : TE} (h : X.K = K) (hl : PE X l tl) : PI X tg l (iTup K tl) := h ▸ pi_tup hl
theorem pi_listL {X : Cx} {K : PySem.W.Frag} {tg l : Expr} {tl : TE} (h : X.K = K) (hl : PE X l tl) : PI X tg l (iList K tl) := h ▸ pi_list hl
def rListL (K : PySem.W.Frag) : List V → Hp → VK → Prop := fun xs H Q => ∃ (p : Addr) (ys : List V), xs = [.ref p] ∧ (SqL K H p ys ∨ SqT K H p ys) ∧ ∀ l, H l = none → Q (.ref l) (upd H l (.lst ys))
theorem listL {X : Cx} {K : PySem.W.Frag} (h : X.K = K) : CallR X (.type "list") (rListL K) := h ▸ call_list_of
theorem eqD {X : Cx} {K : PySem.W.Frag} (h : X.K = K) {k : Nat} (hr : Room k X.A) : OpR X (compareOp .Eq) (rEqD K) := h ▸ op_eqD hr.units
theorem neD {X : Cx} {K : PySem.W.Frag} (h : X.K = K) {k : Nat} (hr : Room k X.A) : OpR X (compareOp .NotEq) (rNeD K) := h ▸ op_neD hr.units

/-! ### a power of a great int, the exponent small -/
def CPow3 (i j : Int) : Prop := j = 3 ∧ 0 ≤ i ∧ i.natAbs < 2 ^ 200
theorem op_pow3 {X : Cx} : OpR X (binaryOp .Pow) (rI CPow3 fun i j => .int (i ^ j.toNat)) := opI fun i j t u s Q E hc q => by
  obtain ⟨rfl, h0, h1⟩ := hc
  by_cases e : (i == 0 || i == 1) = true
  · refine PySem.AutoIntOps.pow_1 (by decide) (by decide) e ?_
    have e2 : i ^ (3 : Int).toNat = i := by
      rcases (Bool.or_eq_true _ _).mp e with z | z
      · rw [eq_of_beq z]; rfl
      · rw [eq_of_beq z]; rfl
    rw [e2] at q
    exact q
  · refine PySem.AutoIntOps.pow_4 (by decide) (by decide) e ?_ ?_ q
    · intro z
      have := eq_of_beq z
      omega
    · intro z
      unfold Builtin.Int.intTooBig at z
      have z3 := of_decide_eq_true z
      have b : Builtin.Int.intBits i ≤ 201 := by
        unfold Builtin.Int.intBits
        have y := PySem.Flt.log2_lt_of (show 0 < 200 by decide) h1
        split <;> omega
      have e : bitsLine = 134217728 := by decide
      rw [e] at z3
      omega
end Sd

namespace Sd
open PySem PySem.Spec PyProof.Rows L2

/-! ### heaps -/
/-- all but T is as it was -/
def But (T : Addr) (H H' : Hp) : Prop := ∀ b o, H b = some o → b ≠ T → H' b = some o
theorem But.refl (T : Addr) (H : Hp) : But T H H := fun _ _ h _ => h
theorem But.trans {T : Addr} {H H1 H2 : Hp} (a : But T H H1) (b : But T H1 H2) : But T H H2 := fun c o h n => b c o (a c o h n) n
theorem But.of {T : Addr} {H H' : Hp} (s : Same H H') : But T H H' := fun b o h _ => s b o h
theorem But.lst {T : Addr} {H H' : Hp} {a : Addr} {o : HO} (s : But T H H') (h : H a = some o) (n : a ≠ T) : H' a = some o := s a o h n
theorem new_same {H : Hp} {p : Addr} {o : HO} (h : H p = none) : Same H (upd H p o) := fun b x e => by
  rw [upd_ne (ne_of_none e h)]
  exact e
theorem upd_but {H : Hp} {T : Addr} {o : HO} : But T H (upd H T o) := fun b x e n => by
  rw [upd_ne n]
  exact e
theorem free_but {T : Addr} {H H' : Hp} {p : Addr} {o : HO} (s : But T H H') (hT : H T = some o) (h : H' p = none) (hT' : H' T ≠ none) : H p = none := by
  cases q : H p with
  | none => rfl
  | some u =>
    by_cases e : p = T
    · subst e
      exact absurd h hT'
    · rw [s p u q e] at h
      cases h
/-- the law's tank -/
def Tank (H : Hp) (T : Addr) (c : Int) : Prop := ∃ x y z : Int, H T = some (.lst [.int x, .int y, .int z]) ∧ 0 ≤ x ∧ 0 ≤ y ∧ y < 2 ^ 100 ∧ 0 ≤ z ∧ z ≤ c
theorem Tank.some {H : Hp} {T : Addr} {c : Int} (h : Tank H T c) : ∃ o, H T = some o := let ⟨_, _, _, e, _⟩ := h; ⟨_, e⟩
theorem Tank.same {H H' : Hp} {T : Addr} {c : Int} (h : Tank H T c) (s : Same H H') : Tank H' T c := let ⟨x, y, z, e, r⟩ := h; ⟨x, y, z, s _ _ e, r⟩
theorem Tank.ne {H : Hp} {T p : Addr} {c : Int} (h : Tank H T c) (n : H p = none) : p ≠ T := fun e => by
  obtain ⟨o, q⟩ := h.some
  rw [e, q] at n
  cases n
theorem Tank.up {H : Hp} {T p : Addr} {c : Int} {o : HO} (h : Tank H T c) (n : H p = none) : Tank (upd H p o) T c := h.same (new_same n)
theorem Tank.mono {H : Hp} {T : Addr} {c d : Int} (h : Tank H T c) (l : c ≤ d) : Tank H T d := let ⟨x, y, z, e, a, b, r, f, g⟩ := h; ⟨x, y, z, e, a, b, r, f, by omega⟩

/-! ### lists of ints -/
theorem tyx_list {K : PySem.W.Frag} {H : Hp} {a : Addr} {xs : List V} (h : SqL K H a xs) : TyX K H (.ref a) (.type "list") := by
  rcases h with (h | ⟨o, h⟩) | ⟨o, its, n, hk, hc, _⟩
  · exact .base (.lst h)
  · exact .base (.frz h)
  · exact .kList hk hc
theorem kit_int_int {K : PySem.W.Frag} : PySem.W.kitOne K (.type "int") (.type "int") = some true := kit_ty (by decide +kernel)
theorem kit_int_bool {K : PySem.W.Frag} : PySem.W.kitOne K (.type "int") (.type "bool") = some false := kit_ty (by decide +kernel)
theorem kit_list_list {K : PySem.W.Frag} : PySem.W.kitOne K (.type "list") (.type "list") = some true := kit_ty (by decide +kernel)
/-- a rim: from 1 to 40 numbers from 0 to 10 ** 30 -/
structure Rim (ns : List Int) : Prop where
  pos : 1 ≤ ns.length
  le : ns.length ≤ 40
  all : ∀ n ∈ ns, 0 ≤ n ∧ n ≤ 1000000000000000000000000000000
theorem sz40 {n : Nat} (h : n ≤ 100000) : n < sizeLine := Nat.lt_of_le_of_lt h (by decide)
theorem sz40' {n : Nat} (h : n ≤ 100000) : n ≤ sizeLine := Nat.le_of_lt (sz40 h)
theorem int_at {ns : List Int} {i : Nat} {x : V} (h : (ns.map V.int)[i]? = some x) : ∃ n, ns[i]? = some n ∧ x = .int n := by
  rw [List.getElem?_map] at h
  cases e : ns[i]? with
  | none =>
    rw [e] at h
    cases h
  | some n =>
    rw [e] at h
    exact ⟨n, rfl, (Option.some.inj h).symm⟩
theorem at_int {ns : List Int} {i : Nat} {n : Int} (h : ns[i]? = some n) : (ns.map V.int)[i]? = some (.int n) := by
  rw [List.getElem?_map, h]
  rfl
/-- xs[i] at an int that lies within -/
theorem at_in {ns : List Int} {i : Int} (h0 : 0 ≤ i) (h1 : i < ns.length) : ∃ n, ns[i.toNat]? = some n ∧ atI (ns.map V.int) i = some (.int n) := by
  have h2 : i.toNat < ns.length := by omega
  obtain ⟨j, rfl⟩ : ∃ j : Nat, i = (j : Int) := ⟨i.toNat, by omega⟩
  have h3 : j < ns.length := by omega
  exact ⟨ns[j], List.getElem?_eq_getElem h3, atI_nat (at_int (List.getElem?_eq_getElem h3))⟩
theorem ixN_in {n : Nat} {i : Int} (h0 : 0 ≤ i) (h1 : i < n) : ixN n i = some i.toNat := by
  unfold ixN
  rw [if_pos h0, if_pos h1]

/-! ### turning, mirroring -/
/-- what stands at slot j behind a turn by t -/
def rot (ns : List Int) (t : Int) : List Int := (List.range ns.length).map fun (j : Nat) => ns.getD ((((j : Int) - t) % (ns.length : Int)).toNat) 0
def mir (ns : List Int) : List Int := (List.range ns.length).map fun (j : Nat) => ns.getD (((-(j : Int)) % (ns.length : Int)).toNat) 0
theorem rot_len (ns : List Int) (t : Int) : (rot ns t).length = ns.length := by
  unfold rot
  rw [List.length_map, List.length_range]
theorem mir_len (ns : List Int) : (mir ns).length = ns.length := by
  unfold mir
  rw [List.length_map, List.length_range]
theorem rot_at {ns : List Int} {t : Int} {j : Nat} (h : j < ns.length) : (rot ns t)[j]? = some (ns.getD ((((j : Int) - t) % (ns.length : Int)).toNat) 0) := by
  unfold rot
  rw [List.getElem?_map, List.getElem?_range h]
  rfl
theorem mir_at {ns : List Int} {j : Nat} (h : j < ns.length) : (mir ns)[j]? = some (ns.getD (((-(j : Int)) % (ns.length : Int)).toNat) 0) := by
  unfold mir
  rw [List.getElem?_map, List.getElem?_range h]
  rfl
theorem mod_in {i : Int} {n : Nat} (h : 0 < n) : 0 ≤ i % (n : Int) ∧ i % (n : Int) < n := ⟨Int.emod_nonneg _ (by omega), Int.emod_lt_of_pos _ (by omega)⟩
theorem getD_at {ns : List Int} {j : Nat} {n : Int} (h : ns[j]? = some n) : ns.getD j 0 = n := by
  rw [List.getD_eq_getElem?_getD, h]
  rfl
theorem at_getD {ns : List Int} {j : Nat} (h : j < ns.length) : ns[j]? = some (ns.getD j 0) := by
  rw [List.getD_eq_getElem?_getD, List.getElem?_eq_getElem h]
  rfl
theorem rot_all {ns : List Int} {t : Int} {P : Int → Prop} (h : ∀ n ∈ ns, P n) : ∀ n ∈ rot ns t, P n := fun n hn => by
  unfold rot at hn
  obtain ⟨j, hj, rfl⟩ := List.mem_map.mp hn
  have hj := List.mem_range.mp hj
  have hm := mod_in (i := (j : Int) - t) (show 0 < ns.length by omega)
  exact h _ (List.mem_of_getElem? (at_getD (show (((j : Int) - t) % (ns.length : Int)).toNat < ns.length by omega)))
theorem mir_all {ns : List Int} {P : Int → Prop} (h : ∀ n ∈ ns, P n) : ∀ n ∈ mir ns, P n := fun n hn => by
  unfold mir at hn
  obtain ⟨j, hj, rfl⟩ := List.mem_map.mp hn
  have hj := List.mem_range.mp hj
  have hm := mod_in (i := -(j : Int)) (show 0 < ns.length by omega)
  exact h _ (List.mem_of_getElem? (at_getD (show ((-(j : Int)) % (ns.length : Int)).toNat < ns.length by omega)))
theorem Rim.rot {ns : List Int} (h : Rim ns) (t : Int) : Rim (rot ns t) := ⟨by rw [rot_len]; exact h.pos, by rw [rot_len]; exact h.le, rot_all h.all⟩
theorem Rim.mir {ns : List Int} (h : Rim ns) : Rim (mir ns) := ⟨by rw [mir_len]; exact h.pos, by rw [mir_len]; exact h.le, mir_all h.all⟩
/-- filling slot by slot: found[(i + t) % n] = ns[i] for i below k leaves rot where it was filled -/
theorem rot_back {ns : List Int} {t : Int} {i : Nat} (hi : i < ns.length) : (rot ns t)[((((i : Int) + t) % (ns.length : Int)).toNat)]? = ns[i]? := by
  have hm := mod_in (i := (i : Int) + t) (show 0 < ns.length by omega)
  rw [rot_at (by omega), at_getD hi]
  have e : ((((((i : Int) + t) % (ns.length : Int)).toNat : Nat) : Int) - t) % (ns.length : Int) = (i : Int) := by
    rw [Int.toNat_of_nonneg hm.1, Int.emod_sub_emod]
    rw [show (i : Int) + t - t = (i : Int) by omega]
    exact Int.emod_eq_of_lt (by omega) (by omega)
  rw [e, Int.toNat_natCast]
theorem mir_back {ns : List Int} {i : Nat} (hi : i < ns.length) : (mir ns)[((((0 : Int) - (i : Int)) % (ns.length : Int)).toNat)]? = ns[i]? := by
  have hm := mod_in (i := (0 : Int) - (i : Int)) (show 0 < ns.length by omega)
  rw [mir_at (by omega), at_getD hi]
  have e : (-((((((0 : Int) - (i : Int)) % (ns.length : Int)).toNat : Nat) : Int))) % (ns.length : Int) = (i : Int) := by
    rw [Int.toNat_of_nonneg hm.1]
    rw [show -(((0 : Int) - (i : Int)) % (ns.length : Int)) = 0 - ((0 : Int) - (i : Int)) % (ns.length : Int) by omega, Int.sub_emod_emod]
    rw [show (0 : Int) - (0 - (i : Int)) = (i : Int) by omega]
    exact Int.emod_eq_of_lt (by omega) (by omega)
  rw [e, Int.toNat_natCast]
/-- filled at the places f 0, f 1 .. f (k - 1) as res is -/
def Filled (f : Nat → Nat) (res ms : List Int) (k : Nat) : Prop := ms.length = res.length ∧ ∀ p, (∃ j, j < k ∧ f j = p) → ms[p]? = res[p]?
theorem Filled.step {f : Nat → Nat} {res ms : List Int} {k : Nat} {v : Int} (h : Filled f res ms k) (e : res[f k]? = some v) : Filled f res (ms.set (f k) v) (k + 1) := by
  refine ⟨by rw [List.length_set]; exact h.1, fun p ⟨j, hj, hp⟩ => ?_⟩
  have hk : f k < ms.length := by
    rw [h.1]
    exact (List.getElem?_eq_some_iff.mp e).1
  by_cases q : f k = p
  · subst q
    rw [List.getElem?_set_self hk, e]
  · rw [List.getElem?_set_ne q]
    refine h.2 p ⟨j, ?_, hp⟩
    rcases Nat.lt_or_ge j k with z | z
    · exact z
    · have : j = k := by omega
      subst this
      exact absurd hp q
theorem Filled.done {f : Nat → Nat} {res ms : List Int} {n : Nat} (h : Filled f res ms n) (on : ∀ p, p < res.length → ∃ j, j < n ∧ f j = p) : ms = res := by
  refine List.ext_getElem? fun p => ?_
  by_cases q : p < res.length
  · exact h.2 p (on p q)
  · rw [List.getElem?_eq_none (by rw [h.1]; omega), List.getElem?_eq_none (by omega)]
theorem rot_on {ns : List Int} {t : Int} {p : Nat} (hp : p < ns.length) : ∃ j, j < ns.length ∧ (((j : Int) + t) % (ns.length : Int)).toNat = p := by
  have hm := mod_in (i := (p : Int) - t) (show 0 < ns.length by omega)
  refine ⟨(((p : Int) - t) % (ns.length : Int)).toNat, by omega, ?_⟩
  have e : ((((((p : Int) - t) % (ns.length : Int)).toNat : Nat) : Int) + t) % (ns.length : Int) = (p : Int) := by
    rw [Int.toNat_of_nonneg hm.1, Int.emod_add_emod]
    rw [show (p : Int) - t + t = (p : Int) by omega]
    exact Int.emod_eq_of_lt (by omega) (by omega)
  rw [e, Int.toNat_natCast]
theorem mir_on {ns : List Int} {p : Nat} (hp : p < ns.length) : ∃ j, j < ns.length ∧ (((0 : Int) - (j : Int)) % (ns.length : Int)).toNat = p := by
  have hm := mod_in (i := (0 : Int) - (p : Int)) (show 0 < ns.length by omega)
  refine ⟨(((0 : Int) - (p : Int)) % (ns.length : Int)).toNat, by omega, ?_⟩
  have e : ((0 : Int) - (((((0 : Int) - (p : Int)) % (ns.length : Int)).toNat : Nat) : Int)) % (ns.length : Int) = (p : Int) := by
    rw [Int.toNat_of_nonneg hm.1, Int.sub_emod_emod]
    rw [show (0 : Int) - (0 - (p : Int)) = (p : Int) by omega]
    exact Int.emod_eq_of_lt (by omega) (by omega)
  rw [e, Int.toNat_natCast]
theorem map_set {ns : List Int} {j : Nat} {v : Int} : (ns.map V.int).set j (.int v) = (ns.set j v).map V.int := by
  rw [List.map_set]
theorem take_next {l : List Int} {i : Nat} {v : Int} (h : l[i]? = some v) : (l.take i).map V.int ++ [.int v] = (l.take (i + 1)).map V.int := by
  rw [List.take_add_one, h, List.map_append]
  rfl
theorem take_all {l : List Int} {n : Nat} (h : l.length ≤ n) : l.take n = l := List.take_of_length_le h
theorem rep_one (v : Int) : ∀ k : Nat, (List.replicate k [V.int v]).flatten = (List.replicate k v).map V.int
  | 0 => rfl
  | k + 1 => by
    rw [List.replicate_succ, List.replicate_succ, List.flatten_cons, List.map_cons, rep_one v k]
    rfl
theorem rep_map (ns : List Int) : ∀ k : Nat, (List.replicate k (ns.map V.int)).flatten = ((List.replicate k ns).flatten).map V.int
  | 0 => rfl
  | k + 1 => by
    rw [List.replicate_succ, List.replicate_succ, List.flatten_cons, List.flatten_cons, List.map_append, rep_map ns k]
theorem rep_len (ns : List Int) : ∀ k : Nat, ((List.replicate k ns).flatten).length = k * ns.length
  | 0 => by simp
  | k + 1 => by
    rw [List.replicate_succ, List.flatten_cons, List.length_append, rep_len ns k, Nat.succ_mul, Nat.add_comm]
theorem rep_mem {ns : List Int} {k : Nat} {x : Int} (h : x ∈ (List.replicate k ns).flatten) : x ∈ ns := by
  obtain ⟨l, hl, hx⟩ := List.mem_flatten.mp h
  rw [(List.mem_replicate.mp hl).2] at hx
  exact hx
theorem cut_take (ns : List Int) (s : Int) (h0 : 0 ≤ s) : cutV (ns.map V.int) none (some s) = (ns.take s.toNat).map V.int := by
  obtain ⟨k, rfl⟩ : ∃ k : Nat, s = (k : Int) := ⟨s.toNat, by omega⟩
  unfold cutV
  rw [HT.sIx_none, HT.sIx_nat, Int.toNat_natCast, List.drop_zero, Nat.sub_zero, List.map_take]
  rcases Nat.le_total k (ns.map V.int).length with z | z
  · rw [Nat.min_eq_left z]
  · rw [Nat.min_eq_right z, List.take_of_length_le (Nat.le_refl _), List.take_of_length_le z]

/-! ### data: lists of ints, for repr and == -/
def dI (ns : List Int) : PyData := .list (ns.map PyData.int)
theorem dpAll_ints {K : PySem.W.Frag} {H : Hp} : ∀ ns : List Int, DpAll K H (ns.map V.int) (ns.map PyData.int)
  | [] => .nil
  | n :: ns => .cons (.int n) (dpAll_ints ns)
theorem dp_ints {K : PySem.W.Frag} {H : Hp} {a : Addr} {ns : List Int} (h : SqL K H a (ns.map V.int)) : Dp K H (.ref a) (dI ns) := .lst h (dpAll_ints ns)
/-- what repr and == ask of data -/
structure RP (d : PyData) : Prop where
  sh : d.showable = true
  nd : d.hasDict = false
  cl : d.canLay0 = true
  dp : d.depth ≤ 32
theorem RP.shaped {d : PyData} (h : RP d) : SeqAt.shaped d = true := by
  have := h.dp
  exact Bool.and_eq_true_iff.mpr ⟨h.cl, decide_eq_true (by omega)⟩
theorem RP.refl {d : PyData} (h : RP d) : PyData.eqv d d = true := SeqAt.eqv_refl d h.cl
theorem rp_int {i : Int} (h : i.natAbs < 2 ^ 1000) : RP (.int i) := ⟨by simp only [PyData.showable]; exact decide_eq_true (Nat.lt_trans (PySem.Flt.log2_lt_of (by decide) h) (by decide)), by simp only [PyData.hasDict], by simp only [PyData.canLay0], by simp only [PyData.depth]; omega⟩
/-- all of a list: depth one less -/
structure RPs (k : Nat) (ds : List PyData) : Prop where
  sh : PyData.showableAll ds = true
  nd : PyData.hasDictAll ds = false
  cl : PyData.canLayAll0 ds = true
  dp : PyData.depthAll ds ≤ k
theorem RPs.nil {k : Nat} : RPs k [] := ⟨by simp only [PyData.showableAll], by simp only [PyData.hasDictAll], by simp only [PyData.canLayAll0], by simp only [PyData.depthAll]; omega⟩
theorem RPs.cons {k : Nat} {d : PyData} {ds : List PyData} (h : RP d) (hk : d.depth ≤ k) (hs : RPs k ds) : RPs k (d :: ds) := by
  refine ⟨?_, ?_, ?_, ?_⟩
  · simp only [PyData.showableAll, h.sh, hs.sh, Bool.and_self]
  · simp only [PyData.hasDictAll, h.nd, hs.nd, Bool.or_self]
  · simp only [PyData.canLayAll0, h.cl, hs.cl, Bool.and_self]
  · simp only [PyData.depthAll]
    have := hs.dp
    omega
theorem RPs.list {k : Nat} {ds : List PyData} (h : RPs k ds) (hk : k ≤ 31) : RP (.list ds) ∧ (PyData.list ds).depth ≤ k + 1 := by
  have hd : (PyData.list ds).depth ≤ k + 1 := by
    simp only [PyData.depth]
    have := h.dp
    omega
  refine ⟨⟨?_, ?_, ?_, by omega⟩, hd⟩
  · simp only [PyData.showable, h.sh]
  · simp only [PyData.hasDict, h.nd]
  · simp only [PyData.canLay0, h.cl]
theorem rps_ints : ∀ {ns : List Int}, (∀ n ∈ ns, n.natAbs < 2 ^ 1000) → RPs 0 (ns.map PyData.int)
  | [], _ => RPs.nil
  | n :: ns, h => RPs.cons (rp_int (h n List.mem_cons_self)) (by simp only [PyData.depth]; omega) (rps_ints fun x hx => h x (List.mem_cons_of_mem _ hx))
theorem rp_ints {ns : List Int} (h : ∀ n ∈ ns, n.natAbs < 2 ^ 1000) : RP (dI ns) := ((rps_ints h).list (by omega)).1
theorem dp_ints_depth {ns : List Int} (h : ∀ n ∈ ns, n.natAbs < 2 ^ 1000) : (dI ns).depth ≤ 1 := ((rps_ints h).list (by omega)).2
theorem sum_bound {B : Nat} : ∀ {l : List Nat}, (∀ x ∈ l, x ≤ B) → l.sum ≤ B * l.length
  | [], _ => Nat.zero_le _
  | x :: l, h => by
    have h1 := h x List.mem_cons_self
    have h2 := sum_bound (B := B) (l := l) fun y hy => h y (List.mem_cons_of_mem _ hy)
    rw [List.sum_cons, List.length_cons, Nat.mul_succ]
    omega
theorem shownAll_map (ds : List PyData) : PyData.shownAll ds = ds.map PyData.shown := by
  induction ds with
  | nil => rfl
  | cons d ds ih =>
    simp only [PyData.shownAll, List.map_cons, ih]
/-- how long a list's text is at most, by its items' -/
theorem shown_list {B : Nat} {ds : List PyData} (h : ∀ d ∈ ds, d.shown.length ≤ B) : (PyData.list ds).shown.length ≤ (B + 2) * ds.length + 3 := by
  simp only [PyData.shown]
  have h1 := listText_len_le (PyData.shownAll ds)
  have h2 : ((PyData.shownAll ds).map (·.length)).sum ≤ B * ds.length := by
    rw [shownAll_map, List.map_map]
    have := sum_bound (B := B) (l := ds.map ((fun x => x.length) ∘ PyData.shown)) fun x hx => by
      obtain ⟨d, hd, rfl⟩ := List.mem_map.mp hx
      exact h d hd
    rw [List.length_map] at this
    exact this
  have h3 : (PyData.shownAll ds).length = ds.length := by rw [shownAll_map, List.length_map]
  rw [h3] at h1
  rw [Nat.add_mul]
  omega
theorem shown_int {i : Int} (h : i.natAbs < 2 ^ 1000) : (PyData.int i).shown.length ≤ 1001 := by
  simp only [PyData.shown]
  rw [PySem.ofString_length]
  exact int_text_length_le (by decide) (PySem.Flt.log2_lt_of (by decide) h)
theorem shown_ints {ns : List Int} (h : ∀ n ∈ ns, n.natAbs < 2 ^ 1000) : (dI ns).shown.length ≤ 1003 * ns.length + 3 := by
  have := shown_list (B := 1001) (ds := ns.map PyData.int) fun d hd => by
    obtain ⟨n, hn, rfl⟩ := List.mem_map.mp hd
    exact shown_int (h n hn)
  rw [List.length_map] at this
  exact this
theorem small_abs {n : Int} (h0 : 0 ≤ n) (h1 : n ≤ 1000000000000000000000000000000) : n.natAbs < 2 ^ 1000 := Nat.lt_of_le_of_lt (m := 1000000000000000000000000000000) (by omega) (by decide +kernel)
theorem Rim.abs {ns : List Int} (h : Rim ns) : ∀ n ∈ ns, n.natAbs < 2 ^ 1000 := fun n hn => small_abs (h.all n hn).1 (h.all n hn).2
theorem Rim.rp {ns : List Int} (h : Rim ns) : RP (dI ns) := rp_ints h.abs
theorem Rim.fits {ns : List Int} (h : Rim ns) : (dI ns).shown.length ≤ sizeLine := by
  have := shown_ints h.abs
  have := h.le
  exact sz40' (by omega)
/-- an object that was not there is written -/
theorem same_over {H H4 : Hp} {l : Addr} {o : HO} (s : Same H H4) (n : H l = none) : Same H (upd H4 l o) := fun b x e => by
  rw [upd_ne (ne_of_none e n)]
  exact s b x e
/-- turned back -/
theorem rot_rot {ns : List Int} {t : Int} : rot (rot ns t) (0 - t) = ns := by
  refine List.ext_getElem? fun j => ?_
  by_cases h : j < ns.length
  · rw [rot_at (by rw [rot_len]; exact h), rot_len]
    have hm := mod_in (i := (j : Int) - (0 - t)) (show 0 < ns.length by omega)
    have e := rot_back (t := t) h
    rw [show (j : Int) - (0 - t) = (j : Int) + t by omega]
    rw [show (j : Int) - (0 - t) = (j : Int) + t by omega] at hm
    rw [← e, ← at_getD (by rw [rot_len]; omega)]
  · rw [List.getElem?_eq_none (by rw [rot_len, rot_len]; omega), List.getElem?_eq_none (by omega)]
theorem mir_mir {ns : List Int} : mir (mir ns) = ns := by
  refine List.ext_getElem? fun j => ?_
  by_cases h : j < ns.length
  · rw [mir_at (by rw [mir_len]; exact h), mir_len]
    have hm := mod_in (i := (0 : Int) - (j : Int)) (show 0 < ns.length by omega)
    have e := mir_back h
    rw [show -(j : Int) = (0 : Int) - (j : Int) by omega]
    rw [← e, ← at_getD (by rw [mir_len]; omega)]
  · rw [List.getElem?_eq_none (by rw [mir_len, mir_len]; omega), List.getElem?_eq_none (by omega)]
end Sd

namespace Sd
open PySem PySem.Spec PyProof.Rows L2

/-! ### lights -/
def Ab (k : Nat) (ns : List Int) : Prop := ∀ n ∈ ns, n.natAbs < 2 ^ k
theorem pow_up {a b : Nat} (h : a ≤ b) : (2 : Nat) ^ a ≤ 2 ^ b := Nat.pow_le_pow_right (by decide) h
theorem Ab.mono {k j : Nat} {ns : List Int} (h : Ab k ns) (l : k ≤ j) : Ab j ns := fun n hn => Nat.lt_of_lt_of_le (h n hn) (pow_up l)
theorem Rim.ab {ns : List Int} (h : Rim ns) : Ab 100 ns := fun n hn => by
  have := h.all n hn
  exact Nat.lt_of_le_of_lt (m := 1000000000000000000000000000000) (by omega) (by decide +kernel)
theorem Ab.rot {k : Nat} {ns : List Int} (h : Ab k ns) (t : Int) : Ab k (rot ns t) := rot_all h
theorem Ab.at {k : Nat} {ns : List Int} (h : Ab k ns) {i : Nat} {n : Int} (e : ns[i]? = some n) : n.natAbs < 2 ^ k := h n (List.mem_of_getElem? e)
def prods (ns ms : List Int) : List Int := List.zipWith (· * ·) ns ms
theorem prods_len (ns ms : List Int) : (prods ns ms).length = min ns.length ms.length := List.length_zipWith
theorem prods_at {ns ms : List Int} {i : Nat} {x y : Int} (h1 : ns[i]? = some x) (h2 : ms[i]? = some y) : (prods ns ms)[i]? = some (x * y) := by
  unfold prods
  rw [List.getElem?_zipWith, h1, h2]
theorem prods_ab {a b : Nat} : ∀ {ns ms : List Int}, Ab a ns → Ab b ms → Ab (a + b) (prods ns ms)
  | [], _, _, _ => fun n hn => by
    simp only [prods, List.zipWith_nil_left] at hn
    exact (List.not_mem_nil hn).elim
  | _ :: _, [], _, _ => fun n hn => by
    simp only [prods, List.zipWith_nil_right] at hn
    exact (List.not_mem_nil hn).elim
  | x :: ns, y :: ms, h1, h2 => fun n hn => by
    have hn : n ∈ x * y :: prods ns ms := hn
    rcases List.mem_cons.mp hn with e | e
    · subst e
      exact wide_lt (h1 x List.mem_cons_self) (h2 y List.mem_cons_self)
    · exact prods_ab (fun z hz => h1 z (List.mem_cons_of_mem _ hz)) (fun z hz => h2 z (List.mem_cons_of_mem _ hz)) n e
theorem sum_ab {k : Nat} : ∀ {ns : List Int}, Ab k ns → ns.sum.natAbs ≤ ns.length * 2 ^ k
  | [], _ => Nat.zero_le _
  | x :: ns, h => by
    have h1 := h x List.mem_cons_self
    have h2 := sum_ab (k := k) (ns := ns) fun z hz => h z (List.mem_cons_of_mem _ hz)
    rw [List.sum_cons, List.length_cons, Nat.succ_mul]
    have := Int.natAbs_add_le x ns.sum
    omega
theorem sum_lt {k : Nat} {ns : List Int} (h : Ab k ns) (hl : ns.length < 1024) : ns.sum.natAbs < 2 ^ (k + 10) := by
  have h1 := sum_ab h
  rw [Nat.pow_add]
  refine Nat.lt_of_le_of_lt h1 ?_
  rw [Nat.mul_comm]
  exact Nat.mul_lt_mul_of_pos_left hl (Nat.two_pow_pos k)
/-- the light at a turn -/
def lightV (ns ms : List Int) (t : Int) : Int := (prods ns (rot ms t)).sum
def lightsV (ns ms : List Int) : List Int := (List.range ns.length).map fun (i : Nat) => lightV ns ms (i : Int)
theorem lightsV_len (ns ms : List Int) : (lightsV ns ms).length = ns.length := by
  unfold lightsV
  rw [List.length_map, List.length_range]
theorem lightsV_at {ns ms : List Int} {i : Nat} (h : i < ns.length) : (lightsV ns ms)[i]? = some (lightV ns ms (i : Int)) := by
  unfold lightsV
  rw [List.getElem?_map, List.getElem?_range h]
  rfl
theorem lightV_lt {a b : Nat} {ns ms : List Int} (h1 : Ab a ns) (h2 : Ab b ms) (hl : ns.length < 1024) (t : Int) : (lightV ns ms t).natAbs < 2 ^ (a + b + 10) := by
  refine sum_lt (prods_ab h1 (h2.rot t)) ?_
  rw [prods_len]
  omega
theorem lightsV_ab {a b : Nat} {ns ms : List Int} (h1 : Ab a ns) (h2 : Ab b ms) (hl : ns.length < 1024) : Ab (a + b + 10) (lightsV ns ms) := fun n hn => by
  unfold lightsV at hn
  obtain ⟨i, _, rfl⟩ := List.mem_map.mp hn
  exact lightV_lt h1 h2 hl i
theorem rot_mod (ms : List Int) (t : Int) : rot ms (t % (ms.length : Int)) = rot ms t := by
  unfold rot
  refine List.map_congr_left fun j _ => ?_
  rw [Int.sub_emod_emod]
theorem lightV_mod {ns ms : List Int} (t : Int) : lightV ns ms (t % (ms.length : Int)) = lightV ns ms t := by
  unfold lightV
  rw [rot_mod]
/-- lights[t % n], whatever the turn -/
theorem lights_any {ns ms : List Int} (t : Int) (hl : ns.length = ms.length) (h1 : 1 ≤ ns.length) : atI ((lightsV ns ms).map V.int) (t % (ns.length : Int)) = some (.int (lightV ns ms t)) := by
  have hm := mod_in (i := t) (show 0 < ns.length by omega)
  obtain ⟨n, hn, hat⟩ := at_in (ns := lightsV ns ms) hm.1 (by rw [lightsV_len]; exact hm.2)
  rw [lightsV_at (by omega), Int.toNat_of_nonneg hm.1, hl, lightV_mod] at hn
  rw [hat, ← Option.some.inj hn]
/-! ### the greatest, the places of some -/
theorem max_ex : ∀ {ns : List Int}, 1 ≤ ns.length → ∃ m, m ∈ ns ∧ ∀ y ∈ ns, y ≤ m
  | [], h => absurd h (by decide)
  | [x], _ => ⟨x, List.mem_cons_self, fun y hy => by rw [List.mem_singleton.mp hy]; exact Int.le_refl _⟩
  | x :: z :: ns, _ => by
    obtain ⟨m, hm, hg⟩ := max_ex (ns := z :: ns) (by simp)
    by_cases h : x ≤ m
    · refine ⟨m, List.mem_cons_of_mem _ hm, fun y hy => ?_⟩
      rcases List.mem_cons.mp hy with e | e
      · rw [e]
        exact h
      · exact hg y e
    · refine ⟨x, List.mem_cons_self, fun y hy => ?_⟩
      rcases List.mem_cons.mp hy with e | e
      · rw [e]
        exact Int.le_refl _
      · have := hg y e
        omega
theorem max_one {ns : List Int} {m m' : Int} (h1 : m ∈ ns) (h2 : ∀ y ∈ ns, y ≤ m) (h3 : m' ∈ ns) (h4 : ∀ y ∈ ns, y ≤ m') : m = m' := Int.le_antisymm (h4 _ h1) (h2 _ h3)
/-- the places below k of the items for which p holds -/
def places (p : Int → Bool) (ns : List Int) (k : Nat) : List Int := ((List.range k).filter fun i => p (ns.getD i 0)).map fun (i : Nat) => (i : Int)
theorem places_len (p : Int → Bool) (ns : List Int) (k : Nat) : (places p ns k).length ≤ k := by
  unfold places
  rw [List.length_map]
  refine Nat.le_trans (List.length_filter_le _ _) ?_
  rw [List.length_range]
  exact Nat.le_refl _
theorem places_yes {p : Int → Bool} {ns : List Int} {k : Nat} {n : Int} (h : ns[k]? = some n) (hp : p n = true) : places p ns (k + 1) = places p ns k ++ [(k : Int)] := by
  unfold places
  rw [List.range_succ, List.filter_append, List.map_append]
  have : ([k].filter fun i => p (ns.getD i 0)) = [k] := by
    rw [List.filter_cons, getD_at h, if_pos hp]
    rfl
  rw [this]
  rfl
theorem places_no {p : Int → Bool} {ns : List Int} {k : Nat} {n : Int} (h : ns[k]? = some n) (hp : ¬ p n = true) : places p ns (k + 1) = places p ns k := by
  unfold places
  rw [List.range_succ, List.filter_append, List.map_append]
  have : ([k].filter fun i => p (ns.getD i 0)) = [] := by
    rw [List.filter_cons, getD_at h, if_neg hp]
    rfl
  rw [this]
  simp
theorem places_ab (p : Int → Bool) (ns : List Int) {k : Nat} (h : k < 1000) : Ab 100 (places p ns k) := fun n hn => by
  unfold places at hn
  obtain ⟨i, hi, rfl⟩ := List.mem_map.mp hn
  have := List.mem_range.mp (List.mem_filter.mp hi).1
  exact Nat.lt_of_lt_of_le (m := 1000) (by omega) (by decide)
theorem Ab.rp {k : Nat} {ns : List Int} (h : Ab k ns) (hk : k ≤ 1000) : RP (dI ns) := rp_ints (h.mono hk)
theorem Ab.fits {k : Nat} {ns : List Int} (h : Ab k ns) (hk : k ≤ 1000) (hl : ns.length ≤ 2000) : (dI ns).shown.length ≤ 2100000 := by
  have := shown_ints (h.mono hk)
  omega
theorem fit_le {n : Nat} (h : n ≤ 16000000) : n ≤ sizeLine := Nat.le_trans h (by decide)
/-- some lists of ints, in a list -/
def dL (ls : List (List Int)) : PyData := .list (ls.map dI)
theorem rps_lists {k : Nat} (hk : k ≤ 1000) : ∀ {ls : List (List Int)}, (∀ l ∈ ls, Ab k l) → RPs 1 (ls.map dI)
  | [], _ => RPs.nil
  | l :: ls, h => RPs.cons ((h l List.mem_cons_self).rp hk) (dp_ints_depth ((h l List.mem_cons_self).mono hk)) (rps_lists hk fun x hx => h x (List.mem_cons_of_mem _ hx))
theorem rp_lists {k : Nat} (hk : k ≤ 1000) {ls : List (List Int)} (h : ∀ l ∈ ls, Ab k l) : RP (dL ls) := ((rps_lists hk h).list (by omega)).1
theorem fits_lists {k : Nat} (hk : k ≤ 1000) {ls : List (List Int)} (h : ∀ l ∈ ls, Ab k l) (hl : ∀ l ∈ ls, l.length ≤ 1000) (hn : ls.length ≤ 7) : (dL ls).shown.length ≤ sizeLine := by
  have h1 := shown_list (B := 2100000) (ds := ls.map dI) fun d hd => by
    obtain ⟨l, hm, rfl⟩ := List.mem_map.mp hd
    exact (h l hm).fits hk (by have := hl l hm; omega)
  rw [List.length_map] at h1
  refine fit_le (Nat.le_trans h1 ?_)
  omega
theorem all2 {P : List Int → Prop} {a b : List Int} (h1 : P a) (h2 : P b) : ∀ l ∈ [a, b], P l := fun l hl => by
  simp only [List.mem_cons, List.not_mem_nil, or_false] at hl
  rcases hl with rfl | rfl <;> assumption
theorem all3 {P : List Int → Prop} {a b c : List Int} (h1 : P a) (h2 : P b) (h3 : P c) : ∀ l ∈ [a, b, c], P l := fun l hl => by
  simp only [List.mem_cons, List.not_mem_nil, or_false] at hl
  rcases hl with rfl | rfl | rfl <;> assumption
end Sd

namespace Sd
open PySem PySem.Spec PyProof.Rows L2

/-! ### by steps -/
def stepsV (ns ms : List Int) (f st : Int) (k : Nat) : List Int := (List.range k).map fun (i : Nat) => lightV ns ms (f + st * (i : Int))
theorem stepsV_len (ns ms : List Int) (f st : Int) (k : Nat) : (stepsV ns ms f st k).length = k := by
  unfold stepsV
  rw [List.length_map, List.length_range]
theorem stepsV_at {ns ms : List Int} {f st : Int} {k i : Nat} (h : i < k) : (stepsV ns ms f st k)[i]? = some (lightV ns ms (f + st * (i : Int))) := by
  unfold stepsV
  rw [List.getElem?_map, List.getElem?_range h]
  rfl
/-- the first of them, None if there is none -/
def headV : List Int → V
  | [] => .non
  | x :: _ => .int x
def headD : List Int → PyData
  | [] => .none
  | x :: _ => .int x
theorem places_more (p : Int → Bool) (ns : List Int) (i : Nat) : ∀ d : Nat, ∃ r, places p ns (i + d) = places p ns i ++ r
  | 0 => ⟨[], by simp⟩
  | d + 1 => by
    obtain ⟨r, e⟩ := places_more p ns i d
    refine ⟨r ++ ([i + d].filter fun j => p (ns.getD j 0)).map fun (j : Nat) => (j : Int), ?_⟩
    rw [← List.append_assoc, ← e]
    unfold places
    rw [show i + (d + 1) = (i + d) + 1 from rfl, List.range_succ, List.filter_append, List.map_append]
theorem places_head {p : Int → Bool} {ns : List Int} {i k : Nat} {x : Int} (hx : ns[i]? = some x) (hp : p x = true) (hno : places p ns i = []) (hk : i < k) : headV (places p ns k) = .int i := by
  obtain ⟨r, e⟩ := places_more p ns (i + 1) (k - (i + 1))
  rw [show i + 1 + (k - (i + 1)) = k by omega, places_yes hx hp, hno] at e
  rw [e]
  rfl
theorem places_none {p : Int → Bool} {ns : List Int} {k : Nat} : places p ns k = [] ↔ ∀ i, i < k → ¬ p (ns.getD i 0) = true := by
  unfold places
  rw [List.map_eq_nil_iff, List.filter_eq_nil_iff]
  exact ⟨fun h i hi => h i (List.mem_range.mpr hi), fun h i hi => h i (List.mem_range.mp hi)⟩
theorem places_congr {p : Int → Bool} {ns ms : List Int} {k : Nat} (h : ∀ i, i < k → ns.getD i 0 = ms.getD i 0) : places p ns k = places p ms k := by
  unfold places
  refine congrArg _ (List.filter_congr fun i hi => ?_)
  rw [h i (List.mem_range.mp hi)]
theorem stepsV_getD {ns ms : List Int} {f st : Int} {k i : Nat} (h : i < k) : (stepsV ns ms f st k).getD i 0 = lightV ns ms (f + st * (i : Int)) := getD_at (stepsV_at h)
/-- twice around tells nothing more -/
theorem twice {p : Int → Bool} {ns ms : List Int} {f st : Int} (hl : ns.length = ms.length) : headV (places p (stepsV ns ms f st (2 * ns.length)) (2 * ns.length)) = headV (places p (stepsV ns ms f st ns.length) ns.length) := by
  have e1 : places p (stepsV ns ms f st (2 * ns.length)) ns.length = places p (stepsV ns ms f st ns.length) ns.length :=
    places_congr fun i hi => by rw [stepsV_getD (by omega), stepsV_getD hi]
  obtain ⟨r, e2⟩ := places_more p (stepsV ns ms f st (2 * ns.length)) ns.length ns.length
  rw [show ns.length + ns.length = 2 * ns.length by omega, e1] at e2
  cases e3 : places p (stepsV ns ms f st ns.length) ns.length with
  | cons x xs =>
    rw [e2, e3]
    rfl
  | nil =>
    have h0 := places_none.mp e3
    have h1 : places p (stepsV ns ms f st (2 * ns.length)) (2 * ns.length) = [] := places_none.mpr fun i hi => by
      by_cases hn : i < ns.length
      · have := h0 i hn
        rw [stepsV_getD hn] at this
        rw [stepsV_getD hi]
        exact this
      · have := h0 (i - ns.length) (by omega)
        rw [stepsV_getD (by omega)] at this
        rw [stepsV_getD hi]
        have e4 : lightV ns ms (f + st * (i : Int)) = lightV ns ms (f + st * ((i - ns.length : Nat) : Int)) := by
          rw [← lightV_mod (f + st * (i : Int)), ← lightV_mod (f + st * ((i - ns.length : Nat) : Int)), ← hl]
          have e5 : f + st * (i : Int) = (f + st * ((i - ns.length : Nat) : Int)) + (ns.length : Int) * st := by
            have e6 : (i : Int) = ((i - ns.length : Nat) : Int) + (ns.length : Int) := by omega
            rw [e6, Int.mul_add, Int.mul_comm (ns.length : Int) st]
            have e7 : ((((i - ns.length : Nat) : Int) + (ns.length : Int)) : Int) = (i : Int) := e6.symm
            omega
          rw [e5, Int.add_mul_emod_self_left]
        rw [e4]
        exact this
    rw [h1]
theorem dp_head {K : PySem.W.Frag} {H : Hp} : ∀ l : List Int, Dp K H (headV l) (headD l)
  | [] => .non
  | x :: _ => .int x
theorem rp_head : ∀ {l : List Int}, Ab 100 l → RP (headD l)
  | [], _ => ⟨rfl, rfl, rfl, by decide⟩
  | x :: _, h => rp_int (Nat.lt_of_lt_of_le (h x List.mem_cons_self) (pow_up (by decide)))
theorem fits_head : ∀ {l : List Int}, Ab 100 l → (headD l).shown.length ≤ sizeLine
  | [], _ => by decide +kernel
  | x :: _, h => fit_le (Nat.le_trans (shown_int (Nat.lt_of_lt_of_le (h x List.mem_cons_self) (pow_up (by decide)))) (by decide))
end Sd

namespace Sd
open PySem PySem.Spec PyProof.Rows L2

/-! ### far sums -/
def farV (ns ms : List Int) (f st N : Int) : Int := N / (ns.length : Int) * (stepsV ns ms f st ns.length).sum + ((stepsV ns ms f st ns.length).take (N % (ns.length : Int)).toNat).sum
theorem stepsV_take {ns ms : List Int} {f st : Int} {k r : Nat} (h : r ≤ k) : (stepsV ns ms f st k).take r = stepsV ns ms f st r := by
  unfold stepsV
  rw [← List.map_take, List.take_range, Nat.min_eq_left h]
theorem stepsV_next (ns ms : List Int) (f st : Int) (k : Nat) : (stepsV ns ms f st (k + 1)).sum = (stepsV ns ms f st k).sum + lightV ns ms (f + st * (k : Int)) := by
  unfold stepsV
  rw [List.range_succ, List.map_append, List.sum_append]
  simp
theorem stepsV_add (ns ms : List Int) (f st : Int) (a : Nat) : ∀ b : Nat, (stepsV ns ms f st (a + b)).sum = (stepsV ns ms f st a).sum + (stepsV ns ms (f + st * (a : Int)) st b).sum
  | 0 => by
    show (stepsV ns ms f st a).sum = (stepsV ns ms f st a).sum + 0
    omega
  | b + 1 => by
    rw [show a + (b + 1) = (a + b) + 1 from rfl, stepsV_next, stepsV_next, stepsV_add ns ms f st a b]
    rw [show f + st * (((a + b : Nat)) : Int) = f + st * (a : Int) + st * (b : Int) by rw [Int.natCast_add, Int.mul_add]; omega]
    omega
theorem lightV_congr {ns ms : List Int} {t u : Int} (h : t % (ms.length : Int) = u % (ms.length : Int)) : lightV ns ms t = lightV ns ms u := by
  rw [← lightV_mod t, h, lightV_mod]
theorem stepsV_mod (ns ms : List Int) (f st : Int) (k : Nat) : stepsV ns ms (f % (ms.length : Int)) st k = stepsV ns ms f st k := by
  unfold stepsV
  refine List.map_congr_left fun i _ => lightV_congr ?_
  rw [Int.emod_add_emod]
theorem stepsV_round {ns ms : List Int} (hl : ns.length = ms.length) (f st : Int) (k : Nat) : stepsV ns ms (f + st * (ns.length : Int)) st k = stepsV ns ms f st k := by
  unfold stepsV
  refine List.map_congr_left fun i _ => lightV_congr ?_
  rw [hl, show f + st * (ms.length : Int) + st * (i : Int) = f + st * (i : Int) + st * (ms.length : Int) by omega, Int.add_mul_emod_self_right]
theorem stepsV_rounds {ns ms : List Int} (hl : ns.length = ms.length) (f st : Int) (r : Nat) : ∀ q : Nat, (stepsV ns ms f st (q * ns.length + r)).sum = (q : Int) * (stepsV ns ms f st ns.length).sum + (stepsV ns ms f st r).sum
  | 0 => by simp
  | q + 1 => by
    rw [show (q + 1) * ns.length + r = ns.length + (q * ns.length + r) by rw [Nat.succ_mul]; omega, stepsV_add, stepsV_round hl, stepsV_rounds hl f st r q]
    rw [Int.natCast_succ, Int.add_mul]
    omega
theorem far_eq {ns ms : List Int} (hl : ns.length = ms.length) (h1 : 1 ≤ ns.length) (f st : Int) {N : Int} (h0 : 0 ≤ N) : farV ns ms f st N = (stepsV ns ms f st N.toNat).sum := by
  have hm := mod_in (i := N) (show 0 < ns.length by omega)
  have hq : 0 ≤ N / (ns.length : Int) := Int.ediv_nonneg h0 (by omega)
  have e : N.toNat = (N / (ns.length : Int)).toNat * ns.length + (N % (ns.length : Int)).toNat := by
    have e1 := Int.mul_ediv_add_emod N (ns.length : Int)
    have e2 : (((N / (ns.length : Int)).toNat * ns.length + (N % (ns.length : Int)).toNat : Nat) : Int) = N := by
      rw [Int.natCast_add, Int.natCast_mul, Int.toNat_of_nonneg hq, Int.toNat_of_nonneg hm.1, Int.mul_comm]
      exact e1
    omega
  rw [e, stepsV_rounds hl, Int.toNat_of_nonneg hq]
  unfold farV
  rw [stepsV_take (by omega)]
theorem far_parts {ns ms : List Int} (hl : ns.length = ms.length) (h1 : 1 ≤ ns.length) (f st : Int) {N M : Int} (h0 : 0 ≤ M) (hM : M ≤ N) : farV ns ms f st M + farV ns ms ((f + M * st) % (ns.length : Int)) st (N - M) = farV ns ms f st N := by
  rw [far_eq hl h1 f st h0, far_eq hl h1 _ st (show 0 ≤ N - M by omega), far_eq hl h1 f st (show 0 ≤ N by omega)]
  rw [show N.toNat = M.toNat + (N - M).toNat by omega, stepsV_add, hl, stepsV_mod, Int.toNat_of_nonneg h0, Int.mul_comm st M]
theorem stepsV_ab {a b : Nat} {ns ms : List Int} (h1 : Ab a ns) (h2 : Ab b ms) (hl : ns.length < 1024) (f st : Int) (k : Nat) : Ab (a + b + 10) (stepsV ns ms f st k) := fun n hn => by
  unfold stepsV at hn
  obtain ⟨i, _, rfl⟩ := List.mem_map.mp hn
  exact lightV_lt h1 h2 hl _
theorem steps_sum_lt {ns ms : List Int} (h1 : Ab 100 ns) (h2 : Ab 100 ms) (hl : ns.length < 1024) (f st : Int) (k : Nat) (hk : k < 1024) : (stepsV ns ms f st k).sum.natAbs < 2 ^ 220 :=
  sum_lt (stepsV_ab h1 h2 hl f st k) (by rw [stepsV_len]; exact hk)
theorem far_lt {ns ms : List Int} (h1 : Ab 100 ns) (h2 : Ab 100 ms) (hl : ns.length < 1024) (hp : 1 ≤ ns.length) (f st : Int) {N : Int} (h0 : 0 ≤ N) (hN : N.natAbs < 2 ^ 200) : (farV ns ms f st N).natAbs < 2 ^ 430 := by
  have hm := mod_in (i := N) (show 0 < ns.length by omega)
  have hq : 0 ≤ N / (ns.length : Int) := Int.ediv_nonneg h0 (by omega)
  have hqn : N / (ns.length : Int) ≤ N := Int.ediv_le_self _ h0
  have a1 : (N / (ns.length : Int)).natAbs < 2 ^ 200 := by omega
  have a2 := steps_sum_lt h1 h2 hl f st ns.length hl
  have a3 := wide_lt a1 a2
  unfold farV
  rw [stepsV_take (by omega)]
  have a4 := steps_sum_lt h1 h2 hl f st (N % (ns.length : Int)).toNat (by omega)
  have a5 := Int.natAbs_add_le (N / (ns.length : Int) * (stepsV ns ms f st ns.length).sum) (stepsV ns ms f st (N % (ns.length : Int)).toNat).sum
  have p1 : (2 : Nat) ^ 420 + 2 ^ 220 ≤ 2 ^ 430 := by decide +kernel
  have a3' : (N / (ns.length : Int) * (stepsV ns ms f st ns.length).sum).natAbs < 2 ^ 420 := a3
  exact Nat.lt_of_le_of_lt a5 (Nat.lt_of_lt_of_le (Nat.add_lt_add a3' a4) p1)
end Sd

namespace Sd
open PySem PySem.Spec PyProof.Rows L2

/-! ### lists of ints by their order -/
def LtI (a b : List Int) : Bool := PySem.W.dataLt (dI a) (dI b)
theorem ltI_irr (a : List Int) : LtI a a = false := lex_irrefl _
theorem ltI_trans {a b c : List Int} (h : LtI a b = true) (k : LtI b c = true) : LtI a c = true := lex_trans _ _ _ h k
theorem toks_int (x : Int) : PySem.W.keyToks (.int x) = [.inl x] := by rw [PySem.W.keyToks]
theorem toks_inj : ∀ {a b : List Int}, PySem.W.keyToksAll (a.map PyData.int) = PySem.W.keyToksAll (b.map PyData.int) → a = b
  | [], [], _ => rfl
  | [], y :: b, h => by
    rw [List.map_nil, List.map_cons, PySem.W.toks_all_cons, PySem.W.keyToksAll] at h
    have := (List.cons.inj h).1
    cases this
  | x :: a, [], h => by
    rw [List.map_nil, List.map_cons, PySem.W.toks_all_cons, PySem.W.keyToksAll] at h
    have := (List.cons.inj h).1
    cases this
  | x :: a, y :: b, h => by
    rw [List.map_cons, List.map_cons, PySem.W.toks_all_cons, PySem.W.toks_all_cons, toks_int, toks_int] at h
    have h2 := (List.cons.inj h).2
    have h3 := (List.cons.inj h2).1
    have h4 := (List.cons.inj h2).2
    cases h3
    rw [toks_inj h4]
theorem ltI_total {a b : List Int} (h : LtI a b = false) (k : LtI b a = false) : a = b := by
  have e := lex_total _ _ h k
  unfold dI at e
  rw [PySem.W.keyToks, PySem.W.keyToks] at e
  exact toks_inj e
/-- the least of some lists -/
def LeastI (S : List (List Int)) (m : List Int) : Prop := m ∈ S ∧ ∀ y ∈ S, LtI y m = false
theorem least_one {S : List (List Int)} {m m' : List Int} (h : LeastI S m) (k : LeastI S m') : m = m' := ltI_total (k.2 _ h.1) (h.2 _ k.1)
theorem least_set {S S' : List (List Int)} {m : List Int} (h : LeastI S m) (e : ∀ x, x ∈ S ↔ x ∈ S') : LeastI S' m := ⟨(e _).mp h.1, fun y hy => h.2 y ((e _).mpr hy)⟩
theorem least_le {S : List (List Int)} {m y : List Int} (h : LeastI S m) (hy : y ∈ S) : m = y ∨ LtI m y = true := by
  cases q : LtI m y with
  | true => exact .inr rfl
  | false => exact .inl (ltI_total q (h.2 _ hy))
theorem least_app {S S' : List (List Int)} {a b : List Int} (h : LeastI S a) (k : LeastI S' b) : LeastI (S ++ S') (if LtI b a then b else a) := by
  cases q : LtI b a with
  | true =>
    refine ⟨List.mem_append_right _ k.1, fun y hy => ?_⟩
    rcases List.mem_append.mp hy with hy | hy
    · cases z : LtI y b with
      | false => exact z
      | true =>
        have := ltI_trans z q
        rw [h.2 _ hy] at this
        cases this
    · exact k.2 _ hy
  | false =>
    refine ⟨List.mem_append_left _ h.1, fun y hy => ?_⟩
    rcases List.mem_append.mp hy with hy | hy
    · exact h.2 _ hy
    · cases z : LtI y a with
      | false => exact z
      | true =>
        exfalso
        rcases least_le k hy with e | e
        · rw [e, z] at q
          cases q
        · rw [ltI_trans e z] at q
          cases q
theorem minD_least (x : List Int) (xs : List (List Int)) : ∃ m, PySem.W.minD (dI x) (xs.map dI) = dI m ∧ LeastI (x :: xs) m := by
  have key : ∀ (xs done : List (List Int)) (x : List Int), LeastI done x → ∃ m, PySem.W.minD (dI x) (xs.map dI) = dI m ∧ LeastI (done ++ xs) m := by
    intro xs
    induction xs with
    | nil =>
      intro done x h
      exact ⟨x, rfl, by rw [List.append_nil]; exact h⟩
    | cons y r ih =>
      intro done x h
      have h2 : LeastI (done ++ [y]) (if LtI y x then y else x) := least_app h ⟨List.mem_singleton.mpr rfl, fun z hz => by rw [List.mem_singleton.mp hz]; exact ltI_irr _⟩
      obtain ⟨m, e, hm⟩ := ih _ _ h2
      refine ⟨m, ?_, by rw [List.append_assoc] at hm; exact hm⟩
      rw [← e]
      unfold PySem.W.minD
      rw [List.map_cons, List.foldl_cons]
      have e2 : (if PySem.W.dataLt (dI y) (dI x) then dI y else dI x) = dI (if LtI y x then y else x) := by
        show (if LtI y x = true then dI y else dI x) = dI (if LtI y x then y else x)
        cases LtI y x <;> rfl
      rw [e2]
  exact key xs [x] x ⟨List.mem_singleton.mpr rfl, fun z hz => by rw [List.mem_singleton.mp hz]; exact ltI_irr _⟩

theorem dI_inj {a b : List Int} (h : dI a = dI b) : a = b := by
  unfold dI at h
  have h2 := PyData.list.inj h
  have : ∀ {a b : List Int}, a.map PyData.int = b.map PyData.int → a = b := by
    intro a
    induction a with
    | nil => intro b h; cases b with
      | nil => rfl
      | cons _ _ => cases h
    | cons x a ih => intro b h; cases b with
      | nil => cases h
      | cons y b =>
        rw [List.map_cons, List.map_cons] at h
        have := PyData.int.inj (List.cons.inj h).1
        rw [this, ih (List.cons.inj h).2]
  exact this h2
theorem alike_ints : ∀ a b : List Int, PySem.W.alikeAll (a.map PyData.int) (b.map PyData.int) = true
  | [], _ => by rw [List.map_nil, PySem.W.alikeAll]
  | _ :: _, [] => by rw [List.map_nil, List.map_cons, PySem.W.alikeAll]
  | x :: a, y :: b => by
    rw [List.map_cons, List.map_cons, PySem.W.alikeAll, alike_ints a b, PySem.W.alike]
    rfl
theorem alike_dI (a b : List Int) : PySem.W.alike (dI a) (dI b) = true := by
  unfold dI
  rw [PySem.W.alike]
  exact alike_ints a b
theorem alikeAll_dI (S : List (List Int)) : PySem.W.AlikeAll (S.map dI) := by
  refine ⟨fun x hx y hy => ?_, fun x hx e => ?_⟩
  · obtain ⟨a, _, rfl⟩ := List.mem_map.mp hx
    obtain ⟨b, _, rfl⟩ := List.mem_map.mp hy
    exact alike_dI a b
  · obtain ⟨a, _, rfl⟩ := List.mem_map.mp hx
    unfold dI at e
    cases e
theorem depthAll_ints : ∀ a : List Int, PyData.depthAll (a.map PyData.int) = 0
  | [] => rfl
  | x :: a => by
    show max (PyData.depth (.int x)) (PyData.depthAll (a.map PyData.int)) = 0
    rw [depthAll_ints a]
    simp only [PyData.depth, Nat.max_self]
theorem depth_dI (a : List Int) : (dI a).depth ≤ 1 := by
  unfold dI
  simp only [PyData.depth]
  rw [depthAll_ints]
  exact Nat.le_refl _
theorem depthAll_dI : ∀ S : List (List Int), PyData.depthAll (S.map dI) ≤ 1
  | [] => by show (0 : Nat) ≤ 1; omega
  | a :: S => by
    show max (dI a).depth (PyData.depthAll (S.map dI)) ≤ 1
    have h1 := depth_dI a
    have h2 := depthAll_dI S
    omega

theorem readsAll_kp {h h' : Heap} (k : ∀ c o, h.get? c = some o → h'.get? c = some o) : ∀ {us : List Value} {ds : List PyData} {as : List Addr}, PySem.ReadsAll h us ds as → PySem.ReadsAll h' us ds as
  | _, _, _, .nil => .nil
  | _, _, _, .cons r rs => .cons (PySem.W.reads_keeps k r) (readsAll_kp k rs)
theorem readsAll_ix {h : Heap} : ∀ {us : List Value} {ds : List PyData} {as : List Addr} {i : Nat} {u : Value}, PySem.ReadsAll h us ds as → us[i]? = some u → ∃ d bs, ds[i]? = some d ∧ PySem.Reads h u d bs
  | _, _, _, _, _, .nil, e => by simp at e
  | _, _, _, 0, _, .cons r _, e => by
    have e := Option.some.inj (show some _ = some _ from e)
    subst e
    exact ⟨_, _, rfl, r⟩
  | _, _, _, i + 1, _, .cons _ rs, e => by
    obtain ⟨d, bs, h1, h2⟩ := readsAll_ix (i := i) rs (by simpa using e)
    exact ⟨d, bs, by simpa using h1, h2⟩
theorem vals_ix : ∀ {vs : List V} {us : List Value} {i : Nat} {u : Value}, Vals vs us → us[i]? = some u → ∃ v, vs[i]? = some v ∧ RelV v u
  | _, _, _, _, .nil, e => by simp at e
  | _, _, 0, _, .cons r _, e => by
    have e := Option.some.inj (show some _ = some _ from e)
    subst e
    exact ⟨_, rfl, r⟩
  | _, _, i + 1, _, .cons _ rs, e => by
    obtain ⟨d, h1, h2⟩ := vals_ix (i := i) rs (by simpa using e)
    exact ⟨d, by simpa using h1, h2⟩

/-! ### min(S), S a list of lists of ints -/
def rMinI (K : PySem.W.Frag) : List V → Hp → VK → Prop := fun vs H Q => ∃ (a : Addr) (xs : List V) (S : List (List Int)), vs = [V.ref a] ∧ SqL K H a xs ∧ DpAll K H xs (S.map dI) ∧ 0 < S.length ∧
  ∀ (i : Nat) (v : V) (m : List Int), xs[i]? = some v → S[i]? = some m → LeastI S m → Q v H
theorem cr_minI {X : Cx} {K : PySem.W.Frag} (hK : X.K = K) (hc : X.calm = true) {k : Nat} (hr : Room k X.A) : CallR X (.builtin "min") (rMinI K) := by
  subst hK
  intro pins s σ H vs us Q I r h
  obtain ⟨a, xs, S, rfl, hs, hd, hne, q⟩ := h
  obtain ⟨its, rv, hl, _⟩ := I.list hs
  rw [Vals.ref1 r]
  obtain ⟨as, hR⟩ := Dp.readsAll I _ _ _ hd rv
  cases S with
  | nil => exact absurd hne (Nat.lt_irrefl 0)
  | cons x S =>
    have hu := hr.units
    have hd1 := depthAll_dI (x :: S)
    refine PySem.W.min_list_data (x := dI x) (xs := S.map dI) (as := as) (I.ok.hd hc) hl.isList hR (alikeAll_dI (x :: S)) ?_ fun i v h' tk bs hv hR' kp => ?_
    · have e : PyData.depthAll (dI x :: S.map dI) ≤ 1 := hd1
      omega
    · obtain ⟨m, em, hm⟩ := minD_least x S
      have hv' : its[i]? = some v := by simpa using hv
      obtain ⟨d, cs, hd2, hR2⟩ := readsAll_ix hR hv'
      obtain ⟨y, hy, ry⟩ := vals_ix rv hv'
      obtain ⟨n, hn, e⟩ : ∃ n, (x :: S)[i]? = some n ∧ d = dI n := by
        rw [List.getElem?_map] at hd2
        cases z : (x :: S)[i]? with
        | none =>
          rw [z] at hd2
          cases hd2
        | some n =>
          rw [z] at hd2
          exact ⟨n, rfl, (Option.some.inj hd2).symm⟩
      subst e
      rw [em] at hR'
      have e2 := PySem.W.alike_unique _ _ v _ _ (alike_dI n m) (PySem.W.reads_keeps kp hR2) hR'
      have e3 := dI_inj e2
      subst e3
      exact ⟨y, H, I.kept kp, ry, q i y n hy hn hm⟩
/-! ### min(a, b) of two values, compared where a heap stands -/
section
variable {prog : Program} {w : World} {A : Around} {E : Value → Shared → Prop} {s : Shared}
theorem min_pair {a b : Value} {x y : PyData} {as : List Addr} {Q : Value → Shared → Prop} (hh : A.handled = none) (hR : PySem.ReadsAll s.heap [a, b] [x, y] as) (ha : PySem.W.AlikeAll [x, y]) (hu : A.units + 1 + PyData.depthAll [x, y] < cLine)
    (h : ∀ h' tk, (∀ c o, s.heap.get? c = some o → h'.get? c = some o) → Q (if PySem.W.dataLt y x then b else a) { s with heap := h', toks := tk }) : wpAny (model prog w) A (call (.builtin "min") [a, b]) Q E s := by
  have nm : (toString "min" ++ toString ".loop" : String) = "min.loop" := by decide
  have hT : (s.heap.push { cls := .type "tuple", data := .seq #[a, b] }).IsTuple s.heap.objs.size #[a, b] := ⟨_, Heap.get?_push_size _ rfl, rfl, 0, rfl⟩
  have kp0 : ∀ c o, s.heap.get? c = some o → (s.heap.push { cls := .type "tuple", data := .seq #[a, b] }).get? c = some o := fun c o e => Heap.get?_push_of_some _ e
  have hR2 : PySem.ReadsAll (s.heap.push { cls := .type "tuple", data := .seq #[a, b] }) (#[a, b] : Array Value).toList [x, y] as := readsAll_kp kp0 hR
  refine call_function_tree F.kind_min F.plain_min F.entry_min (F.args_min2 _ _) ?_
  show wpAny _ A.in1 (Builtin.Builtins.bindParams _ _ _ _ >>= _) _ _ s
  refine wpAny_bind (wpAny_of_eq (show Builtin.Builtins.bindParams "min" ["key", "default"] 0 ⟨[], []⟩ = pure [none, none] from rfl) (show wpAny _ A.in1 (newTuple [a, b] >>= _) _ _ s from wpAny_bind (wpAny_newObj_type (wpAny_bind ?_))))
  refine PySem.W.iter_tupleW (A := A.in1) (s := { s with heap := s.heap.push { cls := .type "tuple", data := .seq #[a, b] } }) hh hT fun s₂ e W st hfp hw hk => ?_
  have hS : s₂.heap.objs.size ∉ _ := fun hm => Nat.lt_irrefl _ (hfp _ hm)
  refine wpAny_bind (wpAny_newObj_type ?_)
  rw [nm]
  refine wpAny_pure ⟨plainId_quiet F.plain_min_loop _, codeAny_min_loop_firstH W (s.heap.push { cls := .type "tuple", data := .seq #[a, b] }) hw (fun i j => PySem.W.dataLt ([x, y].getD i .none) ([x, y].getD j .none)) ?_ s₂.heap.objs.size hS (fresh_in hk) _ (show 0 < 2 by decide) (fun c o e => Heap.get?_push_of_some _ (hk c o e)) (W.frame 0 s₂ _ s₂.toks st (Nat.le_refl _) fun c _ o e => Heap.get?_push_of_some _ e) (Heap.get?_push_size _ rfl) fun v s' hP hm => ?_⟩
  · exact PySem.W.cmpIn_lt (A := A.in1) (s := { s with heap := s.heap.push { cls := .type "tuple", data := .seq #[a, b] } }) hR2 ha hu
  · obtain ⟨h', tk, rfl, hk'⟩ := PySem.W.moved_old e rfl (Moved.drop_new (tk := s₂.toks) hm (Nat.le_refl _))
    have q := h h' tk fun c o e => hk' c o (kp0 c o e)
    have ev : v = if PySem.W.dataLt y x then b else a := by
      cases z : PySem.W.dataLt y x with
      | true =>
        have e1 : argBest (fun i j => PySem.W.dataLt ([x, y].getD i .none) ([x, y].getD j .none)) 1 = 1 := if_pos z
        rw [show (#[a, b] : Array Value).size - 1 = 1 from rfl, e1] at hP
        exact (Option.some.inj hP).symm
      | false =>
        have e1 : argBest (fun i j => PySem.W.dataLt ([x, y].getD i .none) ([x, y].getD j .none)) 1 = 0 := if_neg (fun c => by
          have c : PySem.W.dataLt y x = true := c
          rw [z] at c
          cases c)
        rw [show (#[a, b] : Array Value).size - 1 = 1 from rfl, e1] at hP
        exact (Option.some.inj hP).symm
    rw [ev]
    exact q
end
/-- min(a, b) of two lists of ints -/
def rMin2 (K : PySem.W.Frag) : List V → Hp → VK → Prop := fun vs H Q => ∃ (x y : V) (a b : List Int), vs = [x, y] ∧ Dp K H x (dI a) ∧ Dp K H y (dI b) ∧ Q (if LtI b a then y else x) H
theorem cr_min2 {X : Cx} {K : PySem.W.Frag} (hK : X.K = K) (hc : X.calm = true) {k : Nat} (hr : Room k X.A) : CallR X (.builtin "min") (rMin2 K) := by
  subst hK
  intro pins s σ H vs us Q I r h
  obtain ⟨x, y, a, b, rfl, hx, hy, q⟩ := h
  obtain ⟨as, hR⟩ := Dp.readsAll I _ _ _ (.cons hx (.cons hy .nil)) r
  cases r with
  | cons r1 r2 =>
    cases r2 with
    | cons r2 r3 =>
      cases r3
      have hu := hr.units
      have hd1 := depthAll_dI [a, b]
      refine min_pair (I.ok.hd hc) hR (alikeAll_dI [a, b]) ?_ fun h' tk kp => ?_
      · have e : PyData.depthAll [dI a, dI b] ≤ 1 := hd1
        omega
      · have q : Q (if PySem.W.dataLt (dI b) (dI a) then y else x) H := q
        cases z : PySem.W.dataLt (dI b) (dI a) with
        | true =>
          rw [z] at q
          exact ⟨y, H, I.kept kp, r2, q⟩
        | false =>
          rw [z] at q
          exact ⟨x, H, I.kept kp, r1, q⟩
end Sd

namespace Sd
open PySem PySem.Spec PyProof.Rows L2

/-! ### turns, and all that are like -/
theorem ext_getD {a b : List Int} (hl : a.length = b.length) (h : ∀ j, j < a.length → a.getD j 0 = b.getD j 0) : a = b := by
  refine List.ext_getElem? fun j => ?_
  by_cases q : j < a.length
  · rw [at_getD q, at_getD (by omega), h j q]
  · rw [List.getElem?_eq_none (by omega), List.getElem?_eq_none (by omega)]
theorem rot_get {ns : List Int} {t : Int} {j : Nat} (h : j < ns.length) : (rot ns t).getD j 0 = ns.getD ((((j : Int) - t) % (ns.length : Int)).toNat) 0 := getD_at (rot_at h)
theorem mir_get {ns : List Int} {j : Nat} (h : j < ns.length) : (mir ns).getD j 0 = ns.getD (((-(j : Int)) % (ns.length : Int)).toNat) 0 := getD_at (mir_at h)
theorem rot_add (ns : List Int) (s t : Int) : rot (rot ns s) t = rot ns (s + t) := by
  refine ext_getD (by simp only [rot_len]) fun j hj => ?_
  simp only [rot_len] at hj
  have hm := mod_in (i := (j : Int) - t) (show 0 < ns.length by omega)
  rw [rot_get (by rw [rot_len]; exact hj), rot_len, rot_get (by omega), rot_get hj]
  rw [Int.toNat_of_nonneg hm.1, Int.emod_sub_emod]
  rw [show (j : Int) - t - s = (j : Int) - (s + t) by omega]
theorem rot_zero (ns : List Int) : rot ns 0 = ns := by
  refine ext_getD (rot_len _ _) fun j hj => ?_
  rw [rot_len] at hj
  rw [rot_get hj, Int.sub_zero, Int.emod_eq_of_lt (by omega) (by omega), Int.toNat_natCast]
theorem rot_full (ns : List Int) : rot ns (ns.length : Int) = ns := by
  rw [← rot_mod, Int.emod_self, rot_zero]
theorem mir_rot (ns : List Int) (t : Int) : mir (rot ns t) = rot (mir ns) (-t) := by
  refine ext_getD (by simp only [rot_len, mir_len]) fun j hj => ?_
  simp only [rot_len, mir_len] at hj
  have hm := mod_in (i := -(j : Int)) (show 0 < ns.length by omega)
  have hm2 := mod_in (i := (j : Int) - -t) (show 0 < ns.length by omega)
  rw [mir_get (by rw [rot_len]; exact hj), rot_len, rot_get (by omega), rot_get (by rw [mir_len]; exact hj), mir_len, mir_get (by omega)]
  rw [Int.toNat_of_nonneg hm.1, Int.toNat_of_nonneg hm2.1, Int.emod_sub_emod]
  have e : (-(((j : Int) - -t) % (ns.length : Int))) % (ns.length : Int) = (-((j : Int) - -t)) % (ns.length : Int) := by
    rw [← Int.zero_sub, ← Int.zero_sub ((j : Int) - -t), Int.sub_emod_emod]
  rw [e, show -((j : Int) - -t) = -(j : Int) - t by omega]
def turnsL (ns : List Int) : List (List Int) := (List.range ns.length).map fun (t : Nat) => rot ns (t : Int)
def bothL (ns : List Int) : List (List Int) := turnsL ns ++ turnsL (mir ns)
theorem turns_len (ns : List Int) : (turnsL ns).length = ns.length := by
  unfold turnsL
  rw [List.length_map, List.length_range]
theorem mem_turns {ns x : List Int} (h : 1 ≤ ns.length) : x ∈ turnsL ns ↔ ∃ t : Int, x = rot ns t := by
  unfold turnsL
  constructor
  · intro hx
    obtain ⟨t, _, rfl⟩ := List.mem_map.mp hx
    exact ⟨_, rfl⟩
  · intro ⟨t, ht⟩
    have hm := mod_in (i := t) (show 0 < ns.length by omega)
    refine List.mem_map.mpr ⟨(t % (ns.length : Int)).toNat, List.mem_range.mpr (by omega), ?_⟩
    rw [Int.toNat_of_nonneg hm.1, rot_mod, ht]
theorem mem_both {ns x : List Int} (h : 1 ≤ ns.length) : x ∈ bothL ns ↔ ∃ t : Int, x = rot ns t ∨ x = rot (mir ns) t := by
  unfold bothL
  rw [List.mem_append, mem_turns h, mem_turns (by rw [mir_len]; exact h)]
  constructor
  · rintro (⟨t, e⟩ | ⟨t, e⟩)
    · exact ⟨t, .inl e⟩
    · exact ⟨t, .inr e⟩
  · rintro ⟨t, e | e⟩
    · exact .inl ⟨t, e⟩
    · exact .inr ⟨t, e⟩
theorem both_len {ns x : List Int} (h : 1 ≤ ns.length) (hx : x ∈ bothL ns) : x.length = ns.length := by
  obtain ⟨t, rfl | rfl⟩ := (mem_both h).mp hx
  · exact rot_len _ _
  · rw [rot_len, mir_len]
theorem both_sub {ns ms x : List Int} (h : 1 ≤ ns.length) (hm : ms ∈ bothL ns) (hx : x ∈ bothL ms) : x ∈ bothL ns := by
  have hl := both_len h hm
  obtain ⟨s, e⟩ := (mem_both (by omega)).mp hx
  obtain ⟨t, rfl | rfl⟩ := (mem_both h).mp hm
  · rcases e with rfl | rfl
    · rw [rot_add]
      exact (mem_both h).mpr ⟨_, .inl rfl⟩
    · rw [mir_rot, rot_add]
      exact (mem_both h).mpr ⟨_, .inr rfl⟩
  · rcases e with rfl | rfl
    · rw [rot_add]
      exact (mem_both h).mpr ⟨_, .inr rfl⟩
    · rw [mir_rot, mir_mir, rot_add]
      exact (mem_both h).mpr ⟨_, .inl rfl⟩
theorem both_symm {ns ms : List Int} (h : 1 ≤ ns.length) (hm : ms ∈ bothL ns) : ns ∈ bothL ms := by
  have hl := both_len h hm
  obtain ⟨t, rfl | rfl⟩ := (mem_both h).mp hm
  · refine (mem_both (by omega)).mpr ⟨-t, .inl ?_⟩
    rw [rot_add, show t + -t = 0 by omega, rot_zero]
  · refine (mem_both (by omega)).mpr ⟨t, .inr ?_⟩
    rw [mir_rot, mir_mir, rot_add, show -t + t = 0 by omega, rot_zero]
theorem like_iff {ns ms m m' : List Int} (h : 1 ≤ ns.length) (h2 : 1 ≤ ms.length) (hm : LeastI (bothL ns) m) (hm' : LeastI (bothL ms) m') : m = m' ↔ ms ∈ bothL ns := by
  constructor
  · rintro rfl
    exact both_sub h hm.1 (both_symm h2 hm'.1)
  · intro e
    refine least_one hm (least_set hm' fun x => ⟨both_sub h e, both_sub h2 (both_symm h e)⟩)
theorem eqv_dI (a b : List Int) : PyData.eqv (dI a) (dI b) = decide (a = b) := by
  by_cases e : a = b
  · subst e
    rw [decide_eq_true rfl]
    exact PySem.W.eqv_refl_alike _ (alike_dI a a)
  · rw [decide_eq_false e]
    cases q : PyData.eqv (dI a) (dI b) with
    | false => rfl
    | true =>
      exfalso
      have z := (PySem.W.toks_eqv (dI a) (dI b) (alike_dI a b)).1 q
      unfold dI at z
      rw [PySem.W.keyToks, PySem.W.keyToks] at z
      exact e (toks_inj z)
theorem any_dI (S : List (List Int)) (m : List Int) : ((S.map dI).any fun z => PyData.eqv z (dI m)) = decide (m ∈ S) := by
  induction S with
  | nil => simp
  | cons a S ih =>
    rw [List.map_cons, List.any_cons, ih, eqv_dI]
    by_cases e : a = m
    · subst e
      simp
    · have e2 : ¬ m = a := fun z => e z.symm
      simp [e, e2]

/-! ### the turns at which one becomes the other -/
def hits (xs ys : List Int) (o : Int) : Nat → List Int
  | 0 => []
  | k + 1 => hits xs ys o k ++ (if rot xs (o + (k : Int)) = ys then [o + (k : Int)] else [])
theorem hits_yes {xs ys : List Int} {o : Int} {k : Nat} (h : rot xs (o + (k : Int)) = ys) : hits xs ys o (k + 1) = hits xs ys o k ++ [o + (k : Int)] := by
  rw [hits, if_pos h]
theorem hits_no {xs ys : List Int} {o : Int} {k : Nat} (h : ¬ rot xs (o + (k : Int)) = ys) : hits xs ys o (k + 1) = hits xs ys o k := by
  rw [hits, if_neg h, List.append_nil]
theorem hits_more (xs ys : List Int) (o : Int) (k : Nat) : ∀ m, ∃ r, hits xs ys o (k + m) = hits xs ys o k ++ r
  | 0 => ⟨[], by rw [List.append_nil]; rfl⟩
  | m + 1 => by
    obtain ⟨r, e⟩ := hits_more xs ys o k m
    refine ⟨r ++ (if rot xs (o + ((k + m : Nat) : Int)) = ys then [o + ((k + m : Nat) : Int)] else []), ?_⟩
    rw [← List.append_assoc, ← e]
    rfl
theorem hits_head {xs ys : List Int} {o : Int} {k n : Nat} (h0 : hits xs ys o k = []) (h : rot xs (o + (k : Int)) = ys) (hk : k < n) : ∃ r, hits xs ys o n = (o + (k : Int)) :: r := by
  obtain ⟨r, e⟩ := hits_more xs ys o (k + 1) (n - (k + 1))
  rw [show k + 1 + (n - (k + 1)) = n by omega, hits_yes h, h0] at e
  exact ⟨r, e⟩
theorem hits_shift (xs ys : List Int) (o : Int) : ∀ k, hits xs ys o k = (hits (rot xs o) ys 0 k).map (o + ·)
  | 0 => rfl
  | k + 1 => by
    have e : rot (rot xs o) (0 + (k : Int)) = rot xs (o + (k : Int)) := by rw [rot_add, show o + (0 + (k : Int)) = o + (k : Int) by omega]
    by_cases q : rot xs (o + (k : Int)) = ys
    · rw [hits_yes q, hits_yes (by rw [e]; exact q), hits_shift xs ys o k, List.map_append]
      simp
    · rw [hits_no q, hits_no (by rw [e]; exact q), hits_shift xs ys o k]
theorem hits_all {xs ys : List Int} {o : Int} : ∀ {k : Nat}, ∀ t ∈ hits xs ys o k, o ≤ t ∧ t < o + (k : Int)
  | 0, t, h => by cases h
  | k + 1, t, h => by
    rw [hits] at h
    rcases List.mem_append.mp h with h | h
    · have := hits_all t h
      omega
    · split at h
      · have := List.mem_singleton.mp h
        omega
      · cases h
theorem hits_len (xs ys : List Int) (o : Int) : ∀ k, (hits xs ys o k).length ≤ k
  | 0 => Nat.le_refl _
  | k + 1 => by
    have := hits_len xs ys o k
    rw [hits, List.length_append]
    split
    · simp only [List.length_singleton]; omega
    · simp only [List.length_nil]; omega
theorem hits_ab {xs ys : List Int} {o : Int} {k : Nat} (h0 : 0 ≤ o) (ho : o ≤ 10) (hk : k ≤ 1000) : Ab 100 (hits xs ys o k) := fun t ht => by
  have := hits_all t ht
  exact Nat.lt_of_lt_of_le (m := 1100) (by omega) (by decide)
/-- the period -/
def perL (ns : List Int) : List Int := hits ns ns 1 ns.length
theorem per_ex {ns : List Int} (h : 1 ≤ ns.length) : ∃ p r, perL ns = p :: r := by
  unfold perL
  cases e : hits ns ns 1 ns.length with
  | cons p r => exact ⟨p, r, rfl⟩
  | nil =>
    exfalso
    obtain ⟨k, hk⟩ : ∃ k, ns.length = k + 1 := ⟨ns.length - 1, by omega⟩
    rw [hk, hits_yes (by rw [show (1 : Int) + (k : Int) = ((k + 1 : Nat) : Int) by omega, ← hk]; exact rot_full ns)] at e
    have := congrArg List.length e
    simp at this

/-! ### rows of new lists -/
inductive Rows (H H' : Hp) : List V → List (List Int) → Prop
  | nil : Rows H H' [] []
  | cons {l : Addr} {m : List Int} {vs : List V} {S : List (List Int)} : H l = none → H' l = some (.lst (m.map V.int)) → Rows H H' vs S → Rows H H' (.ref l :: vs) (m :: S)
theorem Rows.up {H H1 H2 : Hp} {vs : List V} {S : List (List Int)} (h : Rows H H1 vs S) (s : Same H1 H2) : Rows H H2 vs S := by
  induction h with
  | nil => exact .nil
  | cons a b _ ih => exact .cons a (s _ _ b) ih
theorem Rows.down {H0 H H1 : Hp} {vs : List V} {S : List (List Int)} (h : Rows H H1 vs S) (s : Same H0 H) : Rows H0 H1 vs S := by
  induction h with
  | nil => exact .nil
  | cons a b _ ih => exact .cons (s.free a) b ih
theorem Rows.snoc {H H1 : Hp} {vs : List V} {S : List (List Int)} {l : Addr} {m : List Int} (h : Rows H H1 vs S) (a : H l = none) (b : H1 l = some (.lst (m.map V.int))) : Rows H H1 (vs ++ [.ref l]) (S ++ [m]) := by
  induction h with
  | nil => exact .cons a b .nil
  | cons c d _ ih => exact .cons c d ih
theorem Rows.app {H H1 : Hp} {vs ws : List V} {S T : List (List Int)} (h : Rows H H1 vs S) (k : Rows H H1 ws T) : Rows H H1 (vs ++ ws) (S ++ T) := by
  induction h with
  | nil => exact k
  | cons c d _ ih => exact .cons c d ih
theorem Rows.len {H H1 : Hp} {vs : List V} {S : List (List Int)} (h : Rows H H1 vs S) : vs.length = S.length := by
  induction h with
  | nil => rfl
  | cons _ _ _ ih => rw [List.length_cons, List.length_cons, ih]
theorem Rows.dp {K : PySem.W.Frag} {H H1 : Hp} {vs : List V} {S : List (List Int)} (h : Rows H H1 vs S) : DpAll K H1 vs (S.map dI) := by
  induction h with
  | nil => exact .nil
  | cons _ b _ ih => exact .cons (dp_ints (SqL.of b)) ih
theorem Rows.at {H H1 : Hp} {vs : List V} {S : List (List Int)} (h : Rows H H1 vs S) {i : Nat} {v : V} (hv : vs[i]? = some v) : ∃ l m, v = .ref l ∧ S[i]? = some m ∧ H l = none ∧ H1 l = some (.lst (m.map V.int)) := by
  induction h generalizing i with
  | nil => simp at hv
  | cons a b _ ih =>
    cases i with
    | zero =>
      have e := Option.some.inj (show some _ = some _ from hv)
      subst e
      exact ⟨_, _, rfl, rfl, a, b⟩
    | succ i => exact ih (i := i) (by simpa using hv)
theorem take_map_next {f : Nat → List Int} {n i : Nat} (h : i < n) : ((List.range n).map f).take i ++ [f i] = ((List.range n).map f).take (i + 1) := by
  rw [List.take_add_one, List.getElem?_map, List.getElem?_range h]
  rfl
theorem rows_over {H H1 : Hp} {vs : List V} {S : List (List Int)} {D : Addr} {o : HO} (h : Rows H H1 vs S) (k : ∀ l, V.ref l ∈ vs → l ≠ D) : Rows H (upd H1 D o) vs S := by
  induction h with
  | nil => exact .nil
  | cons a b _ ih => exact .cons a (by rw [upd_ne (k _ List.mem_cons_self)]; exact b) (ih fun l hl => k l (List.mem_cons_of_mem _ hl))
theorem Rows.ne {H H1 : Hp} {vs : List V} {S : List (List Int)} {D : Addr} {o : HO} (h : Rows H H1 vs S) (e : H1 D = some (.lst vs)) : ∀ l, V.ref l ∈ vs → l ≠ D := by
  intro l hl z
  subst z
  have : ∀ {ws : List V} {T : List (List Int)}, Rows H H1 ws T → V.ref l ∈ ws → ∃ m : List Int, H1 l = some (.lst (m.map V.int)) := by
    intro ws T h2
    induction h2 with
    | nil => intro z; cases z
    | cons a b _ ih =>
      intro z
      rcases List.mem_cons.mp z with z | z
      · cases z
        exact ⟨_, b⟩
      · exact ih z
  obtain ⟨m, hm⟩ := this h hl
  rw [e] at hm
  have hm : vs = m.map V.int := by
    have := Option.some.inj hm
    injection this
  rw [hm] at hl
  obtain ⟨i, _, z⟩ := List.mem_map.mp hl
  cases z
theorem Rim.of_both {ns m : List Int} (h : Rim ns) (hm : m ∈ bothL ns) : Rim m := by
  obtain ⟨t, rfl | rfl⟩ := (mem_both h.pos).mp hm
  · exact h.rot t
  · exact h.mir.rot t
theorem tank_free {T : Addr} {H H' : Hp} {c d : Int} {p : Addr} (u : But T H H') (k : Tank H T c) (k' : Tank H' T d) (h : H' p = none) : H p = none := by
  obtain ⟨o, e⟩ := k.some
  obtain ⟨o', e'⟩ := k'.some
  exact free_but u e h (by rw [e']; exact fun z => nomatch z)
/-- one of some new lists -/
def OneOf (H H' : Hp) (T : Addr) (n : Nat) (v : V) : Prop := ∃ (l : Addr) (ms : List Int), v = .ref l ∧ H l = none ∧ l ≠ T ∧ H' l = some (.lst (ms.map V.int)) ∧ Rim ms ∧ ms.length = n
theorem OneOf.but {H H1 H2 : Hp} {T : Addr} {n : Nat} {v : V} (h : OneOf H H1 T n v) (u : But T H1 H2) : OneOf H H2 T n v := by
  obtain ⟨l, ms, e, a, b, c, d, f⟩ := h
  exact ⟨l, ms, e, a, b, u _ _ c b, d, f⟩
theorem at_any {xs : List V} {i : Int} (h0 : 0 ≤ i) (h1 : i < xs.length) : ∃ v, v ∈ xs ∧ atI xs i = some v := by
  obtain ⟨j, rfl⟩ : ∃ j : Nat, i = (j : Int) := ⟨i.toNat, by omega⟩
  have h3 : j < xs.length := by omega
  exact ⟨xs[j], List.getElem_mem h3, atI_nat (List.getElem?_eq_getElem h3)⟩
theorem rows_step {H H1 H2 : Hp} {D l : Addr} {vs : List V} {S : List (List Int)} {i : Nat} {m : List Int} (hD : H D = none) (s1 : Same H H1) (hD1 : H1 D = some (.lst vs)) (hr1 : Rows H H1 vs (S.take i)) (s2 : Same H1 H2) (hl : H1 l = none) (hl2 : H2 l = some (.lst (m.map V.int))) (hi : S[i]? = some m) :
    Same H (upd H2 D (.lst (vs ++ [.ref l]))) ∧ Rows H (upd H2 D (.lst (vs ++ [.ref l]))) (vs ++ [.ref l]) (S.take (i + 1)) := by
  refine ⟨same_over (s1.trans s2) hD, ?_⟩
  have nl : l ≠ D := fun e => by
    rw [e, hD1] at hl
    cases hl
  have hr3 := hr1.up s2
  have hr4 := rows_over (o := .lst (vs ++ [.ref l])) hr3 (hr3.ne (o := .lst vs) (s2 _ _ hD1))
  have := hr4.snoc (s1.free hl) (m := m) (by rw [upd_ne nl]; exact hl2)
  rw [List.take_add_one, hi]
  exact this
theorem turns_at {ns : List Int} {i : Nat} (h : i < ns.length) : (turnsL ns)[i]? = some (rot ns (0 + (i : Int))) := by
  unfold turnsL
  rw [List.getElem?_map, List.getElem?_range h, Int.zero_add]
  rfl
theorem rows_fit {H H1 : Hp} {vs : List V} {S : List (List Int)} {i n : Nat} (h : Rows H H1 vs (S.take i)) (hn : S.length = n) (hk : n ≤ 100000) : vs.length < sizeLine := by
  have := h.len
  rw [List.length_take] at this
  exact sz40 (by omega)
/-- the answers, as data -/
def ansD (p hs : List Int) (m m2 : List Int) (x : Bool) : PyData := .list [headD p, headD hs, dI m, dI m2, .bool x]
theorem rp_bl (x : Bool) : RP (.bool x) := ⟨by simp only [PyData.showable], by simp only [PyData.hasDict], by simp only [PyData.canLay0], by simp only [PyData.depth]; omega⟩
theorem depth_head : ∀ l : List Int, (headD l).depth ≤ 1
  | [] => by simp only [headD, PyData.depth]; omega
  | _ :: _ => by simp only [headD, PyData.depth]; omega
theorem shown_head {l : List Int} (h : Ab 100 l) : (headD l).shown.length ≤ 100000 := by
  cases l with
  | nil => decide +kernel
  | cons x r => exact Nat.le_trans (shown_int (Nat.lt_of_lt_of_le (h x List.mem_cons_self) (pow_up (by decide)))) (by decide)
theorem ansD_rp {p hs m m2 : List Int} {x : Bool} (h1 : Ab 100 p) (h2 : Ab 100 hs) (h3 : Rim m) (h4 : Rim m2) : RP (ansD p hs m m2 x) ∧ (ansD p hs m m2 x).shown.length ≤ sizeLine := by
  have d3 := dp_ints_depth h3.abs
  have d4 := dp_ints_depth h4.abs
  refine ⟨((RPs.cons (rp_head h1) (depth_head p) (RPs.cons (rp_head h2) (depth_head hs) (RPs.cons h3.rp d3 (RPs.cons h4.rp d4 (RPs.cons (rp_bl x) (by simp only [PyData.depth]; omega) RPs.nil))))).list (by omega)).1, ?_⟩
  have e := shown_list (B := 100000) (ds := [headD p, headD hs, dI m, dI m2, .bool x]) fun d hd => by
    simp only [List.mem_cons, List.not_mem_nil, or_false] at hd
    rcases hd with rfl | rfl | rfl | rfl | rfl
    · exact shown_head h1
    · exact shown_head h2
    · have := shown_ints h3.abs
      have := h3.le
      omega
    · have := shown_ints h4.abs
      have := h4.le
      omega
    · cases x <;> decide +kernel
  exact fit_le (Nat.le_trans e (by show (100000 + 2) * 5 + 3 ≤ 16000000; decide))
theorem ansD_dp {K : PySem.W.Frag} {H : Hp} {l a b : Addr} {p hs m m2 : List Int} {x : Bool} (h : SqL K H l [headV p, headV hs, .ref a, .ref b, .bl x]) (ha : SqL K H a (m.map V.int)) (hb : SqL K H b (m2.map V.int)) : Dp K H (.ref l) (ansD p hs m m2 x) :=
  .lst h (.cons (dp_head p) (.cons (dp_head hs) (.cons (dp_ints ha) (.cons (dp_ints hb) (.cons (.bl x) .nil)))))
theorem atI_cons {v : V} {vs : List V} : atI (v :: vs) 0 = some v := atI_nat (j := 0) rfl
theorem perL_ab {ns : List Int} (h : ns.length ≤ 40) : Ab 100 (perL ns) := hits_ab (by decide) (by decide) (by omega)
theorem inD {X : Cx} {K : PySem.W.Frag} (h : X.K = K) {k : Nat} (hr : Room k X.A) : OpR X (compareOp .In) (rInD K) := h ▸ op_inD (by have := hr.un; omega)
end Sd

namespace Sd
open PySem PySem.Spec PyProof.Rows L2

/-! ### lights of turned and of mirrored discs -/
def cutAt (l : List Int) (b : Int) : Nat := ((0 - b) % (l.length : Int)).toNat
theorem on_rot {l : List Int} (b : Int) (h : 1 ≤ l.length) : l.drop (cutAt l b) ++ l.take (cutAt l b) = rot l b := by
  have hm := mod_in (i := 0 - b) (show 0 < l.length by omega)
  have hc : ((cutAt l b : Nat) : Int) = (0 - b) % (l.length : Int) := Int.toNat_of_nonneg hm.1
  generalize cutAt l b = c at hc
  have hcl : c < l.length := by omega
  refine ext_getD ?_ fun j hj => ?_
  · rw [List.length_append, List.length_drop, List.length_take, rot_len]
    omega
  · rw [List.length_append, List.length_drop, List.length_take] at hj
    have hj : j < l.length := by omega
    rw [rot_get hj]
    have e : ((j : Int) - b) % (l.length : Int) = ((c : Int) + j) % (l.length : Int) := by
      rw [hc, Int.emod_add_emod]
      exact congrArg (· % (l.length : Int)) (by omega)
    rw [e]
    rw [List.getD_eq_getElem?_getD, List.getD_eq_getElem?_getD]
    by_cases q : j < l.length - c
    · rw [List.getElem?_append_left (by rw [List.length_drop]; exact q), List.getElem?_drop, Int.emod_eq_of_lt (by omega) (by omega)]
      rw [show ((c : Int) + (j : Int)).toNat = c + j by omega]
    · rw [List.getElem?_append_right (by rw [List.length_drop]; omega), List.length_drop, List.getElem?_take_of_lt (by omega)]
      rw [show ((c : Int) + (j : Int)) = ((j - (l.length - c) : Nat) : Int) + (l.length : Int) by omega, Int.add_emod_right, Int.emod_eq_of_lt (by omega) (by omega), Int.toNat_natCast]
theorem sum_rot (l : List Int) (b : Int) : (rot l b).sum = l.sum := by
  by_cases h : 1 ≤ l.length
  · rw [← on_rot b h, List.sum_append, Int.add_comm, ← List.sum_append, List.take_append_drop]
  · have : l = [] := List.length_eq_zero_iff.mp (by omega)
    subst this
    rfl
theorem mir_cut {l : List Int} (h : 1 ≤ l.length) : l.take 1 ++ (l.drop 1).reverse = mir l := by
  refine ext_getD ?_ fun j hj => ?_
  · rw [List.length_append, List.length_reverse, List.length_drop, List.length_take, mir_len]
    omega
  · rw [List.length_append, List.length_reverse, List.length_drop, List.length_take] at hj
    have hj : j < l.length := by omega
    rw [mir_get hj, List.getD_eq_getElem?_getD, List.getD_eq_getElem?_getD]
    by_cases q : j = 0
    · subst q
      rw [List.getElem?_append_left (by rw [List.length_take]; omega), List.getElem?_take_of_lt (by omega)]
      rw [show (-((0 : Nat) : Int)) % (l.length : Int) = 0 by simp]
      rfl
    · rw [List.getElem?_append_right (by rw [List.length_take]; omega), List.length_take, List.getElem?_reverse (by rw [List.length_drop]; omega), List.length_drop, List.getElem?_drop]
      have e : (-(j : Int)) % (l.length : Int) = (l.length : Int) - j := by
        rw [← Int.add_emod_right, Int.emod_eq_of_lt (by omega) (by omega)]
        omega
      rw [e]
      rw [show 1 + (l.length - 1 - 1 - (j - min 1 l.length)) = ((l.length : Int) - (j : Int)).toNat by omega]
theorem sum_mir (l : List Int) : (mir l).sum = l.sum := by
  by_cases h : 1 ≤ l.length
  · rw [← mir_cut h, List.sum_append, List.sum_reverse, ← List.sum_append, List.take_append_drop]
  · have : l = [] := List.length_eq_zero_iff.mp (by omega)
    subst this
    rfl
theorem prods_get {a b : List Int} {j : Nat} (h1 : j < a.length) (h2 : j < b.length) : (prods a b).getD j 0 = a.getD j 0 * b.getD j 0 := getD_at (prods_at (at_getD h1) (at_getD h2))
theorem prods_rot {a b : List Int} (hl : a.length = b.length) (s : Int) : prods (rot a s) (rot b s) = rot (prods a b) s := by
  have lp : (prods a b).length = a.length := by rw [prods_len]; omega
  refine ext_getD (by rw [prods_len, rot_len, rot_len, rot_len, lp]; omega) fun j hj => ?_
  rw [prods_len, rot_len, rot_len] at hj
  have hm := mod_in (i := (j : Int) - s) (show 0 < a.length by omega)
  rw [prods_get (by rw [rot_len]; omega) (by rw [rot_len]; omega), rot_get (by omega), rot_get (by omega), rot_get (by omega), lp, ← hl, prods_get (by omega) (by omega)]
theorem prods_mir {a b : List Int} (hl : a.length = b.length) : prods (mir a) (mir b) = mir (prods a b) := by
  have lp : (prods a b).length = a.length := by rw [prods_len]; omega
  refine ext_getD (by rw [prods_len, mir_len, mir_len, mir_len, lp]; omega) fun j hj => ?_
  rw [prods_len, mir_len, mir_len] at hj
  have hm := mod_in (i := -(j : Int)) (show 0 < a.length by omega)
  rw [prods_get (by rw [mir_len]; omega) (by rw [mir_len]; omega), mir_get (by omega), mir_get (by omega), mir_get (by omega), lp, ← hl, prods_get (by omega) (by omega)]
theorem prods_comm (a b : List Int) : prods a b = prods b a := by
  unfold prods
  exact List.zipWith_comm_of_comm Int.mul_comm
theorem light_rot2 (ns ms : List Int) (b t : Int) : lightV ns (rot ms b) t = lightV ns ms (t + b) := by
  unfold lightV
  rw [rot_add, Int.add_comm]
theorem light_rot1 {ns ms : List Int} (hl : ns.length = ms.length) (b t : Int) : lightV (rot ns b) ms t = lightV ns ms (t - b) := by
  unfold lightV
  rw [show rot ms t = rot (rot ms (t - b)) b by rw [rot_add, show t - b + b = t by omega], prods_rot (by rw [rot_len]; exact hl), sum_rot]
theorem light_mir {ns ms : List Int} (hl : ns.length = ms.length) (t : Int) : lightV (mir ns) (mir ms) t = lightV ns ms (-t) := by
  unfold lightV
  rw [show rot (mir ms) t = mir (rot ms (-t)) by rw [mir_rot, Int.neg_neg], prods_mir (by rw [rot_len]; exact hl), sum_mir]
theorem light_swap {ns ms : List Int} (hl : ns.length = ms.length) (t : Int) : lightV ms ns t = lightV ns ms (-t) := by
  have e := light_rot1 hl t 0
  rw [show (0 : Int) - t = -t by omega] at e
  rw [← e]
  unfold lightV
  rw [rot_zero, prods_comm]
theorem lights_get {ns ms : List Int} {i : Nat} (h : i < ns.length) : (lightsV ns ms).getD i 0 = lightV ns ms (i : Int) := getD_at (lightsV_at h)
theorem lights_getM {ns ms : List Int} (hl : ns.length = ms.length) (h1 : 1 ≤ ns.length) (t : Int) : (lightsV ns ms).getD ((t % (ns.length : Int)).toNat) 0 = lightV ns ms t := by
  have hm := mod_in (i := t) (show 0 < ns.length by omega)
  rw [lights_get (by omega), Int.toNat_of_nonneg hm.1, hl, lightV_mod]
theorem lights_rotG {ns ms as bs : List Int} (hl : ns.length = ms.length) (ha : as.length = ns.length) (b : Int) (h : ∀ t, lightV as bs t = lightV ns ms (t - b)) : lightsV as bs = rot (lightsV ns ms) b := by
  refine ext_getD (by rw [rot_len, lightsV_len, lightsV_len, ha]) fun j hj => ?_
  rw [lightsV_len] at hj
  rw [lights_get hj, rot_get (by rw [lightsV_len]; omega), lightsV_len, lights_getM hl (by omega), h]
theorem lights_mirG {ns ms as bs : List Int} (hl : ns.length = ms.length) (ha : as.length = ns.length) (h : ∀ t, lightV as bs t = lightV ns ms (-t)) : lightsV as bs = mir (lightsV ns ms) := by
  refine ext_getD (by rw [mir_len, lightsV_len, lightsV_len, ha]) fun j hj => ?_
  rw [lightsV_len] at hj
  rw [lights_get hj, mir_get (by rw [lightsV_len]; omega), lightsV_len, lights_getM hl (by omega), h]
theorem lights_rot2 {ns ms : List Int} (hl : ns.length = ms.length) (b : Int) : lightsV ns (rot ms b) = rot (lightsV ns ms) (0 - b) :=
  lights_rotG hl rfl _ fun t => by rw [light_rot2, show t - (0 - b) = t + b by omega]
theorem lights_rot1 {ns ms : List Int} (hl : ns.length = ms.length) (b : Int) : lightsV (rot ns b) ms = rot (lightsV ns ms) b :=
  lights_rotG hl (rot_len _ _) _ fun t => light_rot1 hl b t
theorem lights_both {ns ms : List Int} (hl : ns.length = ms.length) (b : Int) : lightsV (rot ns b) (rot ms b) = lightsV ns ms := by
  have := lights_rotG (as := rot ns b) (bs := rot ms b) hl (rot_len _ _) 0 fun t => by rw [light_rot2, light_rot1 hl, show t + b - b = t - 0 by omega]
  rw [this, rot_zero]
theorem lights_mir {ns ms : List Int} (hl : ns.length = ms.length) : lightsV (mir ns) (mir ms) = mir (lightsV ns ms) := lights_mirG hl (mir_len _) fun t => light_mir hl t
theorem lights_swap {ns ms : List Int} (hl : ns.length = ms.length) : lightsV ms ns = mir (lightsV ns ms) := lights_mirG hl hl.symm fun t => light_swap hl t
theorem steps_rot2 (ns ms : List Int) (b f st : Int) (k : Nat) : stepsV ns (rot ms b) f st k = stepsV ns ms (f + b) st k := by
  unfold stepsV
  refine List.map_congr_left fun i _ => ?_
  rw [light_rot2, show f + st * (i : Int) + b = f + b + st * (i : Int) by omega]
theorem far_rot2 {ns ms : List Int} (hl : ns.length = ms.length) (b f st N : Int) : farV ns (rot ms b) f st N = farV ns ms ((f + b) % (ns.length : Int)) st N := by
  unfold farV
  rw [steps_rot2, hl, stepsV_mod]

/-! ### the period -/
theorem hits_congr {xs ys xs' ys' : List Int} {o : Int} (h : ∀ t, rot xs t = ys ↔ rot xs' t = ys') : ∀ k, hits xs ys o k = hits xs' ys' o k
  | 0 => rfl
  | k + 1 => by
    by_cases q : rot xs (o + (k : Int)) = ys
    · rw [hits_yes q, hits_yes ((h _).mp q), hits_congr h k]
    · rw [hits_no q, hits_no (fun z => q ((h _).mpr z)), hits_congr h k]
theorem hits_first {xs ys : List Int} {o p : Int} {r : List Int} : ∀ {k : Nat}, hits xs ys o k = p :: r → rot xs p = ys ∧ o ≤ p ∧ p < o + (k : Int) ∧ ∀ t, o ≤ t → t < p → ¬ rot xs t = ys
  | 0, h => by cases h
  | k + 1, h => by
    by_cases q : rot xs (o + (k : Int)) = ys
    · rw [hits_yes q] at h
      cases e : hits xs ys o k with
      | nil =>
        rw [e] at h
        have hp := (List.cons.inj h).1
        subst hp
        refine ⟨q, by omega, by omega, fun t h1 h2 z => ?_⟩
        have : ∀ {k : Nat} {t : Int}, o ≤ t → t < o + (k : Int) → rot xs t = ys → hits xs ys o k ≠ [] := by
            intro k
            induction k with
            | zero => intro t a b _; omega
            | succ k ih =>
              intro t a b z e
              by_cases c : t = o + (k : Int)
              · subst c
                rw [hits_yes z] at e
                have := congrArg List.length e
                simp at this
              · refine ih a (by omega) z ?_
                rw [hits] at e
                exact (List.append_eq_nil_iff.mp e).1
        exact this h1 h2 z e
      | cons p' r' =>
        rw [e] at h
        have hp : p' = p := (List.cons.inj h).1
        subst hp
        obtain ⟨a, b, c, d⟩ := hits_first (k := k) e
        exact ⟨a, b, by omega, d⟩
    · rw [hits_no q] at h
      obtain ⟨a, b, c, d⟩ := hits_first (k := k) h
      exact ⟨a, b, by omega, d⟩
theorem hits_ex {xs ys : List Int} {o t : Int} : ∀ {k : Nat}, o ≤ t → t < o + (k : Int) → rot xs t = ys → ∃ p r, hits xs ys o k = p :: r
  | 0, a, b, _ => by omega
  | k + 1, a, b, z => by
    by_cases c : t = o + (k : Int)
    · subst c
      rw [hits_yes z]
      cases hits xs ys o k with
      | nil => exact ⟨_, _, rfl⟩
      | cons p r => exact ⟨_, _, rfl⟩
    · obtain ⟨p, r, e⟩ := hits_ex (k := k) a (by omega) z
      rw [hits, e]
      exact ⟨_, _, rfl⟩
theorem rot_inj {ns : List Int} {s t : Int} (h : rot ns s = rot ns t) : rot ns (s - t) = ns := by
  have e := congrArg (fun l => rot l (0 - t)) h
  simp only [rot_add] at e
  rw [show t + (0 - t) = 0 by omega, rot_zero, show s + (0 - t) = s - t by omega] at e
  exact e
/-- what the period is -/
structure Per (ns : List Int) (p : Int) : Prop where
  fix : rot ns p = ns
  pos : 1 ≤ p
  le : p ≤ ns.length
  low : ∀ t, 1 ≤ t → t < p → ¬ rot ns t = ns
theorem per_of {ns : List Int} {p : Int} {r : List Int} (h : perL ns = p :: r) : Per ns p := by
  unfold perL at h
  obtain ⟨a, b, c, d⟩ := hits_first h
  exact ⟨a, b, by omega, d⟩
theorem Per.mul {ns : List Int} {p : Int} (h : Per ns p) : ∀ q : Nat, rot ns (p * (q : Int)) = ns
  | 0 => by rw [show p * ((0 : Nat) : Int) = 0 by simp, rot_zero]
  | q + 1 => by
    rw [show p * ((q + 1 : Nat) : Int) = p * (q : Int) + p by rw [Int.natCast_succ, Int.mul_add, Int.mul_one], ← rot_add, h.mul q, h.fix]
theorem Per.mulZ {ns : List Int} {p : Int} (h : Per ns p) (q : Int) : rot ns (p * q) = ns := by
  rcases Int.eq_nat_or_neg q with ⟨k, e | e⟩
  · rw [e]
    exact h.mul k
  · have e2 := rot_inj (ns := ns) (s := 0) (t := p * (k : Int)) (by rw [rot_zero, h.mul k])
    rw [show (0 : Int) - p * (k : Int) = p * q by rw [e, Int.mul_neg]; omega] at e2
    exact e2
theorem Per.mod {ns : List Int} {p : Int} (h : Per ns p) (t : Int) : rot ns (t % p) = rot ns t := by
  have e := Int.mul_ediv_add_emod t p
  have e2 : rot (rot ns (p * (t / p))) (t % p) = rot ns t := by rw [rot_add, e]
  rw [h.mulZ] at e2
  exact e2
theorem Per.zero {ns : List Int} {p : Int} (h : Per ns p) {t : Int} (e : rot ns t = ns) : t % p = 0 := by
  have hp := h.pos
  have a := Int.emod_nonneg t (show p ≠ 0 by omega)
  have b := Int.emod_lt_of_pos t (show 0 < p by omega)
  rw [← h.mod] at e
  by_cases c : 1 ≤ t % p
  · exact absurd e (h.low _ c b)
  · omega
theorem Per.dvd {ns : List Int} {p : Int} (h : Per ns p) : (ns.length : Int) % p = 0 := h.zero (rot_full ns)
/-- the least turn from one to the other lies below the period -/
theorem Per.first {ns ms : List Int} {p q : Int} {r : List Int} {k : Nat} (h : Per ns p) (e : hits ns ms 0 k = q :: r) : 0 ≤ q ∧ q < p ∧ rot ns q = ms := by
  obtain ⟨a, b, _, d⟩ := hits_first e
  have hp := h.pos
  have m0 := Int.emod_nonneg q (show p ≠ 0 by omega)
  have m1 := Int.emod_lt_of_pos q (show 0 < p by omega)
  refine ⟨b, ?_, a⟩
  by_cases c : q < p
  · exact c
  · exact absurd (by rw [h.mod]; exact a) (d (q % p) m0 (by omega))
theorem Per.between {ns : List Int} {p q b : Int} {r : List Int} {k : Nat} (h : Per ns p) (e : hits ns (rot ns b) 0 k = q :: r) : q = b % p := by
  obtain ⟨q0, q1, q2⟩ := h.first e
  have z := h.zero (rot_inj q2)
  have e2 : q % p = b % p := Int.emod_eq_emod_iff_emod_sub_eq_zero.mpr z
  rw [Int.emod_eq_of_lt q0 q1] at e2
  exact e2
theorem per_rot {ns : List Int} (b : Int) : perL (rot ns b) = perL ns := by
  unfold perL
  rw [rot_len]
  refine hits_congr (fun t => ?_) _
  rw [rot_add]
  constructor
  · intro h
    have := rot_inj h
    rw [show b + t - b = t by omega] at this
    exact this
  · intro h
    rw [show b + t = t + b by omega, ← rot_add, h]
theorem per_mir {ns : List Int} : perL (mir ns) = perL ns := by
  unfold perL
  rw [mir_len]
  refine hits_congr (fun t => ?_) _
  have key : ∀ {xs : List Int} {t : Int}, rot xs t = xs → rot (mir xs) t = mir xs := fun {xs t} h => by
    have e := congrArg mir h
    rw [mir_rot] at e
    have e2 := rot_inj (ns := mir xs) (s := 0) (t := -t) (by rw [rot_zero, e])
    rw [show (0 : Int) - -t = t by omega] at e2
    exact e2
  constructor
  · intro h
    have := key h
    rw [mir_mir] at this
    exact this
  · exact key

/-! ### sorted lists -/
theorem sorted_eq : ∀ {a b : List Int}, a.Perm b → a.Pairwise (· ≤ ·) → b.Pairwise (· ≤ ·) → a = b
  | [], b, p, _, _ => (List.nil_perm.mp p).symm
  | x :: a, b, p, ha, hb => by
    cases b with
    | nil => exact absurd p.length_eq (by simp)
    | cons y b =>
      have h1 := List.pairwise_cons.mp ha
      have h2 := List.pairwise_cons.mp hb
      have e : x = y := by
        rcases List.mem_cons.mp (p.mem_iff.mp List.mem_cons_self) with e | e
        · exact e
        · rcases List.mem_cons.mp (p.mem_iff.mpr List.mem_cons_self) with e' | e'
          · exact e'.symm
          · have := h1.1 y e'
            have := h2.1 x e
            omega
      subst e
      rw [sorted_eq p.cons_inv h1.2 h2.2]
theorem perm_mem : ∀ {a b : List Int}, a.Nodup → b.Nodup → (∀ x, x ∈ a ↔ x ∈ b) → a.Perm b
  | [], b, _, _, h => by
    cases b with
    | nil => exact .nil
    | cons y b => exact absurd ((h y).mpr List.mem_cons_self) (List.not_mem_nil)
  | x :: a, b, ha, hb, h => by
    have h1 := List.nodup_cons.mp ha
    have hx : x ∈ b := (h x).mp List.mem_cons_self
    have p := List.perm_cons_erase hx
    refine List.Perm.trans (List.Perm.cons x (perm_mem h1.2 (hb.erase x) fun y => ?_)) p.symm
    rw [hb.mem_erase_iff]
    constructor
    · intro hy
      exact ⟨fun e => h1.1 (by rw [← e]; exact hy), (h y).mp (List.mem_cons_of_mem _ hy)⟩
    · rintro ⟨n, hy⟩
      rcases List.mem_cons.mp ((h y).mpr hy) with e | e
      · exact absurd e n
      · exact e
theorem mem_places {p : Int → Bool} {ns : List Int} {k : Nat} {x : Int} : x ∈ places p ns k ↔ ∃ i : Nat, x = (i : Int) ∧ i < k ∧ p (ns.getD i 0) = true := by
  unfold places
  constructor
  · intro h
    obtain ⟨i, hi, rfl⟩ := List.mem_map.mp h
    have := List.mem_filter.mp hi
    exact ⟨i, rfl, List.mem_range.mp this.1, this.2⟩
  · rintro ⟨i, rfl, h1, h2⟩
    exact List.mem_map.mpr ⟨i, List.mem_filter.mpr ⟨List.mem_range.mpr h1, h2⟩, rfl⟩
theorem places_sorted (p : Int → Bool) (ns : List Int) (k : Nat) : (places p ns k).Pairwise (· < ·) := by
  unfold places
  rw [List.pairwise_map]
  refine List.Pairwise.imp (fun {a b} h => by show (a : Int) < (b : Int); omega) (List.Pairwise.filter _ List.pairwise_lt_range)
theorem nodup_lt {l : List Int} (h : l.Pairwise (· < ·)) : l.Nodup := List.Pairwise.imp (fun {a b} h e => by omega) h
/-- the brightest turns of the turned one -/
theorem brights_rot {ns ms : List Int} (hl : ns.length = ms.length) (h1 : 1 ≤ ns.length) (b m : Int) {s : List Int}
    (hp : s.Perm ((places (fun x => decide (x = m)) (lightsV ns ms) ns.length).map fun one => (one - b) % (ns.length : Int))) (hs : s.Pairwise (· ≤ ·)) :
    places (fun x => decide (x = m)) (lightsV ns (rot ms b)) ns.length = s := by
  refine sorted_eq (List.Perm.trans (perm_mem (nodup_lt (places_sorted _ _ _)) ?_ fun x => ?_) hp.symm) (List.Pairwise.imp (fun {a b} h => by omega) (places_sorted _ _ _)) hs
  · rw [List.Nodup, List.pairwise_map]
    refine List.Pairwise.imp_of_mem (fun {x y} hx hy hxy e => ?_) (places_sorted _ _ _)
    obtain ⟨i, rfl, hi, _⟩ := mem_places.mp hx
    obtain ⟨j, rfl, hj, _⟩ := mem_places.mp hy
    have e2 := Int.emod_eq_emod_iff_emod_sub_eq_zero.mp e
    rw [show (i : Int) - b - ((j : Int) - b) = (i : Int) - j by omega] at e2
    have e3 := Int.emod_eq_emod_iff_emod_sub_eq_zero.mpr e2
    rw [Int.emod_eq_of_lt (by omega) (by omega), Int.emod_eq_of_lt (by omega) (by omega)] at e3
    omega
  · rw [mem_places, List.mem_map]
    constructor
    · rintro ⟨i, rfl, hi, hq⟩
      have hm := mod_in (i := (i : Int) + b) (show 0 < ns.length by omega)
      refine ⟨((i : Int) + b) % (ns.length : Int), mem_places.mpr ⟨(((i : Int) + b) % (ns.length : Int)).toNat, by omega, by omega, ?_⟩, ?_⟩
      · rw [lights_getM hl h1]
        rw [lights_get hi, light_rot2] at hq
        exact hq
      · rw [Int.emod_sub_emod, show (i : Int) + b - b = i by omega, Int.emod_eq_of_lt (by omega) (by omega)]
    · rintro ⟨x', hx, rfl⟩
      obtain ⟨i, rfl, hi, hq⟩ := mem_places.mp hx
      have hm := mod_in (i := (i : Int) - b) (show 0 < ns.length by omega)
      refine ⟨(((i : Int) - b) % (ns.length : Int)).toNat, by omega, by omega, ?_⟩
      rw [lights_get (by omega), Int.toNat_of_nonneg hm.1, light_rot2]
      rw [lights_get hi] at hq
      rw [← lightV_mod, ← hl, Int.emod_add_emod, hl, lightV_mod, show (i : Int) - b + b = i by omega]
      exact hq
end Sd

namespace Sd
open PySem PySem.Spec PyProof.Rows L2

/-! ### data of any kind, with empty dicts -/
mutual
inductive Dq (H : Hp) : V → PyData → Prop
  | non : Dq H .non .none
  | bl (b : Bool) : Dq H (.bl b) (.bool b)
  | int (i : Int) : Dq H (.int i) (.int i)
  | str (x : Str) : Dq H (.str x) (.str x)
  | lst {a : Addr} {xs : List V} {ds : List PyData} : H a = some (.lst xs) → DqAll H xs ds → Dq H (.ref a) (.list ds)
  | tup {a : Addr} {xs : List V} {ds : List PyData} : H a = some (.tup xs) → DqAll H xs ds → Dq H (.ref a) (.tuple ds)
  | emp {a : Addr} : H a = some (.dK []) → Dq H (.ref a) (.dict [])
inductive DqAll (H : Hp) : List V → List PyData → Prop
  | nil : DqAll H [] []
  | cons {v : V} {vs : List V} {d : PyData} {ds : List PyData} : Dq H v d → DqAll H vs ds → DqAll H (v :: vs) (d :: ds)
end
mutual
theorem Dq.same {H H' : Hp} (s : Same H H') : ∀ {v : V} {d : PyData}, Dq H v d → Dq H' v d
  | _, _, .non => .non
  | _, _, .bl b => .bl b
  | _, _, .int i => .int i
  | _, _, .str x => .str x
  | _, _, .lst h1 h2 => .lst (s _ _ h1) (DqAll.same s h2)
  | _, _, .tup h1 h2 => .tup (s _ _ h1) (DqAll.same s h2)
  | _, _, .emp h => .emp (s _ _ h)
theorem DqAll.same {H H' : Hp} (s : Same H H') : ∀ {vs : List V} {ds : List PyData}, DqAll H vs ds → DqAll H' vs ds
  | _, _, .nil => .nil
  | _, _, .cons h1 h2 => .cons (Dq.same s h1) (DqAll.same s h2)
end
section
variable {X : Cx} {pins : List (Addr × Obj)} {σ : L2.St} {H : Hp} {s : Shared}
theorem emp_reads (I : Inv X pins σ H s) {a : Addr} (h : H a = some (.dK [])) : Reads s.heap (.ref a) (.dict []) (a :: [] ++ []) ∧ sysModules ∉ (a :: [] ++ [] : List Addr) ∧ s.TypeIs (.ref a) "dict" := by
  obtain ⟨_, hsys, vs, kv, o, es, ep, e, ex, ed, _, pr, _⟩ := (show ObjOk X.prog X.w H s.heap a (.dK []) from I.hok a _ h)
  cases kv
  have he : es.toList = [] := by
    cases hl : es.toList with
    | nil => rfl
    | cons x l =>
      rw [hl] at pr
      cases pr
  refine ⟨.dict e ex.1 ed ?_ ?_, ?_, ⟨o, e, ex.1⟩⟩
  · rw [he]
    exact .nil
  · rw [he]
    exact .nil
  · intro z
    simp only [List.append_nil, List.mem_cons, List.not_mem_nil, or_false] at z
    rw [← z] at hsys
    exact absurd hsys (by decide)
mutual
theorem reprK_q (I : Inv X pins σ H s) : ∀ (d : PyData) (v : V) (u : Value), Dq H v d → RelV v u → d.showable = true → d.shown.length ≤ sizeLine →
    ∃ as bs, Reads s.heap u d as ∧ ReadAtMost s.heap d.depth bs ∧ ReprK X.prog X.w bs s.heap d.depth u d.shown
  | .none, _, u, q, r, hs, hz => by
    cases q
    cases r
    obtain ⟨bs, h1, h2⟩ := ReprK.of_reads (prog := X.prog) (w := X.w) (Reads.none (h := s.heap)) hs (fun z => by simp only [PyData.hasDict] at z; cases z) hz
    exact ⟨_, bs, .none, h1, h2⟩
  | .bool b, _, u, q, r, hs, hz => by
    cases q
    cases r
    obtain ⟨bs, h1, h2⟩ := ReprK.of_reads (prog := X.prog) (w := X.w) (Reads.bool (h := s.heap) b) hs (fun z => by simp only [PyData.hasDict] at z; cases z) hz
    exact ⟨_, bs, .bool b, h1, h2⟩
  | .int i, _, u, q, r, hs, hz => by
    cases q
    obtain ⟨t, rfl⟩ := r
    obtain ⟨bs, h1, h2⟩ := ReprK.of_reads (prog := X.prog) (w := X.w) (Reads.int (h := s.heap) i t) hs (fun z => by simp only [PyData.hasDict] at z; cases z) hz
    exact ⟨_, bs, .int i t, h1, h2⟩
  | .str x, _, u, q, r, hs, hz => by
    cases q
    obtain ⟨t, rfl⟩ := r
    obtain ⟨bs, h1, h2⟩ := ReprK.of_reads (prog := X.prog) (w := X.w) (Reads.str (h := s.heap) x t) hs (fun z => by simp only [PyData.hasDict] at z; cases z) hz
    exact ⟨_, bs, .str x t, h1, h2⟩
  | .dict kvs, _, u, q, r, hs, hz => by
    cases q with
    | emp h =>
      cases r
      obtain ⟨rd, ns, _⟩ := emp_reads I h
      obtain ⟨bs, h1, h2⟩ := ReprK.of_reads (prog := X.prog) (w := X.w) rd hs (fun _ => ns) hz
      exact ⟨_, bs, rd, h1, h2⟩
  | .list ds, _, u, q, r, hs, hz => by
    cases q with
    | lst h hq =>
      cases r
      obtain ⟨_, its, n, rv, e⟩ := (show ObjOk X.prog X.w H s.heap _ (.lst _) from I.hok _ _ h)
      have hz2 : (listText (PyData.shownAll ds)).length ≤ sizeLine := by simpa only [PyData.shown] using hz
      obtain ⟨as, bs, ra, hb, hk⟩ := reprAllK_q I ds _ its hq rv (by simpa [PyData.showable] using hs) fun t ht => Nat.le_trans (listText_mem_le ht) hz2
      have rd : Reads s.heap (.ref _) (.list ds) _ := .list e rfl rfl ra
      have hna := not_mem_of_deeper rd (by simp only [PyData.depth]; omega) hb
      refine ⟨_, _, rd, ReadAtMost.cons rd (by simp only [PyData.depth]; omega) hb, ?_⟩
      simp only [PyData.depth, PyData.shown]
      cases its with
      | nil =>
        cases ra
        simp only [PyData.shownAll, listText_nil]
        exact ReprK.listEmpty e rfl rfl
      | cons y l => exact ReprK.list e rfl rfl hna (by simpa using hk.length_eq) fun i y e => hk.item i y (by simpa using e)
  | .tuple ds, _, u, q, r, hs, hz => by
    cases q with
    | tup h hq =>
      cases r
      obtain ⟨_, its, rv, o, e, hc, n, hd⟩ := (show ObjOk X.prog X.w H s.heap _ (.tup _) from I.hok _ _ h)
      have hz2 : (tupleText (PyData.shownAll ds)).length ≤ sizeLine := by simpa only [PyData.shown] using hz
      obtain ⟨as, bs, ra, hb, hk⟩ := reprAllK_q I ds _ its hq rv (by simpa [PyData.showable] using hs) fun t ht => Nat.le_trans (tupleText_mem_le ht) hz2
      have rd : Reads s.heap (.ref _) (.tuple ds) _ := .tuple e hc hd ra
      have hna := not_mem_of_deeper rd (by simp only [PyData.depth]; omega) hb
      refine ⟨_, _, rd, ReadAtMost.cons rd (by simp only [PyData.depth]; omega) hb, ?_⟩
      simp only [PyData.depth, PyData.shown]
      exact ReprK.tuple e hc hd hna hk
theorem reprAllK_q (I : Inv X pins σ H s) : ∀ (ds : List PyData) (vs : List V) (us : List Value), DqAll H vs ds → Vals vs us → PyData.showableAll ds = true → (∀ t ∈ PyData.shownAll ds, t.length ≤ sizeLine) →
    ∃ as bs, ReadsAll s.heap us ds as ∧ ReadAtMost s.heap (PyData.depthAll ds) bs ∧ ReprAllK X.prog X.w bs s.heap (PyData.depthAll ds) us (PyData.shownAll ds)
  | [], _, us, q, r, _, _ => by
    cases q
    cases r
    exact ⟨[], [], .nil, (fun _ h => nomatch h), by simp only [PyData.shownAll]; exact .nil⟩
  | d :: ds, _, us, q, r, hs, hz => by
    cases q with
    | cons q1 q2 =>
      cases r with
      | cons r1 r2 =>
        have hs2 : d.showable = true ∧ PyData.showableAll ds = true := by simpa [PyData.showableAll] using hs
        obtain ⟨a1, b1, x1, y1, k1⟩ := reprK_q I d _ _ q1 r1 hs2.1 (hz _ (by simp only [PyData.shownAll]; exact List.mem_cons_self))
        obtain ⟨a2, b2, x2, y2, k2⟩ := reprAllK_q I ds _ _ q2 r2 hs2.2 fun t ht => hz t (by simp only [PyData.shownAll]; exact List.mem_cons_of_mem _ ht)
        refine ⟨_, b1 ++ b2, .cons x1 x2, (y1.mono ?_).append (y2.mono ?_), ?_⟩
        · simp only [PyData.depthAll]
          omega
        · simp only [PyData.depthAll]
          omega
        · simp only [PyData.depthAll, PyData.shownAll]
          exact .cons ((k1.more fun b hb => List.mem_append_left _ hb).level_le (by omega)) (k2.more_le (fun b hb => List.mem_append_right _ hb) (by omega))
end
/-- repr of any such thing -/
def rReprQ : List V → Hp → VK → Prop := fun xs H Q => ∃ (x : V) (d : PyData), xs = [x] ∧ Dq H x d ∧ d.showable = true ∧ d.depth ≤ 32 ∧ d.shown.length ≤ sizeLine ∧ Q (.str d.shown) H
theorem reprQ {X : Cx} (hA : X.A.guards = some []) {k : Nat} (hr : Room k X.A) : CallR X (.builtin "repr") rReprQ := by
  intro pins s σ H xs us Q I r h
  obtain ⟨x, d, rfl, hd, h1, h3, h4, q⟩ := h
  have hu := hr.units
  have flat : ∀ {d : PyData}, Dp X.K H x d → d.showable = true → d.hasDict = false → d.depth ≤ 32 → d.shown.length ≤ sizeLine → Q (.str d.shown) H → wpAny (model X.prog X.w) X.A (call (.builtin "repr") us) (EP X pins σ Q) X.xe s := fun a b c e f g =>
    reprV rfl hA hr pins s σ H _ us Q I r ⟨x, _, rfl, a, b, c, e, f, g⟩
  cases hd with
  | non => exact flat .non h1 rfl h3 h4 q
  | bl b => exact flat (.bl b) h1 (by simp only [PyData.hasDict]) h3 h4 q
  | int i => exact flat (.int i) h1 (by simp only [PyData.hasDict]) h3 h4 q
  | str y => exact flat (.str y) h1 (by simp only [PyData.hasDict]) h3 h4 q
  | emp ha =>
    cases r with
    | cons r1 r2 =>
      cases r2
      cases r1
      obtain ⟨rd, ns, _⟩ := emp_reads I ha
      exact repr_of_reads' rd h1 (fun _ => ns) hA (by omega) (fun _ _ e => e) (fun h' u tk kp => ⟨.str (PyData.shown (.dict [])), H, I.kept (t' := tk) kp, ⟨u, rfl⟩, q⟩) h4
  | @lst a xs ds ha hq =>
    cases r with
    | cons r1 r2 =>
      cases r2
      cases r1
      obtain ⟨_, its, n, rv, e⟩ := (show ObjOk X.prog X.w H s.heap a (.lst xs) from I.hok a _ ha)
      have hz2 : (listText (PyData.shownAll ds)).length ≤ sizeLine := by simpa only [PyData.shown] using h4
      obtain ⟨as, bs, ra, hb, hk⟩ := reprAllK_q I ds _ its hq rv (by simpa [PyData.showable] using h1) fun t ht => Nat.le_trans (listText_mem_le ht) hz2
      have rd : Reads s.heap (.ref a) (.list ds) _ := .list e rfl rfl ra
      have hna := not_mem_of_deeper rd (by simp only [PyData.depth]; omega) hb
      have hdp : PyData.depthAll ds + 1 ≤ 32 := by simpa only [PyData.depth] using h3
      simp only [PyData.shown] at q
      refine call_repr_slot (by omega) ⟨_, e, rfl⟩ F.slot_list_repr.toG ?_
      cases its with
      | nil =>
        cases ra
        simp only [PyData.shownAll, listText_nil] at q
        exact call_list_repr_empty ⟨_, e, rfl⟩ e rfl ⟨_, _, rfl, .str "[]", H, I.tok _, ⟨_, rfl⟩, q⟩
      | cons y l =>
        exact call_list_reprK e rfl rfl hna (by simpa using hk.length_eq) (fun i y e => hk.item i y (by simpa using e)) hA (fun b _ => Clear.nil b) (by show X.A.units + 1 + _ < cLine; omega) (fun _ _ e => e)
          (fun h' u tk kp => ⟨_, _, rfl, .str (listText (PyData.shownAll ds)), H, I.kept (t' := tk) kp, ⟨u, rfl⟩, q⟩) hz2
  | @tup a xs ds ha hq =>
    cases r with
    | cons r1 r2 =>
      cases r2
      cases r1
      obtain ⟨_, its, rv, o, e, hc, n, hd⟩ := (show ObjOk X.prog X.w H s.heap a (.tup xs) from I.hok a _ ha)
      have hz2 : (tupleText (PyData.shownAll ds)).length ≤ sizeLine := by simpa only [PyData.shown] using h4
      obtain ⟨as, bs, ra, hb, hk⟩ := reprAllK_q I ds _ its hq rv (by simpa [PyData.showable] using h1) fun t ht => Nat.le_trans (tupleText_mem_le ht) hz2
      have rd : Reads s.heap (.ref a) (.tuple ds) _ := .tuple e hc hd ra
      have hna := not_mem_of_deeper rd (by simp only [PyData.depth]; omega) hb
      have hdp : PyData.depthAll ds + 1 ≤ 32 := by simpa only [PyData.depth] using h3
      simp only [PyData.shown] at q
      refine call_repr_slot (by omega) ⟨_, e, hc⟩ F.slot_tuple_repr ?_
      exact call_tuple_reprK e hc hd hna hk hA (fun b _ => Clear.nil b) (by show X.A.units + 1 + _ < cLine; omega) (fun _ _ e => e)
          (fun h' u tk kp => ⟨_, _, rfl, .str (tupleText (PyData.shownAll ds)), H, I.kept (t' := tk) kp, ⟨u, rfl⟩, q⟩) hz2
end
end Sd

namespace Sd
open PySem PySem.Spec PyProof.Rows L2

/-! ### what isinstance says of data -/
def tyQ : PyData → String
  | .none => "NoneType"
  | .bool _ => "bool"
  | .int _ => "int"
  | .str _ => "str"
  | .list _ => "list"
  | .tuple _ => "tuple"
  | .dict _ => "dict"
def intQ : PyData → Bool
  | .int _ => true
  | .bool _ => true
  | _ => false
def boolQ : PyData → Bool
  | .bool _ => true
  | _ => false
def listQ : PyData → Bool
  | .list _ => true
  | _ => false
theorem kit_intQ {K : PySem.W.Frag} (d : PyData) : PySem.W.kitOne K (.type (tyQ d)) (.type "int") = some (intQ d) := by
  cases d with
  | none => exact kit_ty (show kitB "NoneType" "int" = some false by decide +kernel)
  | bool _ => exact kit_ty (show kitB "bool" "int" = some true by decide +kernel)
  | int _ => exact kit_ty (show kitB "int" "int" = some true by decide +kernel)
  | str _ => exact kit_ty (show kitB "str" "int" = some false by decide +kernel)
  | list _ => exact kit_ty (show kitB "list" "int" = some false by decide +kernel)
  | tuple _ => exact kit_ty (show kitB "tuple" "int" = some false by decide +kernel)
  | dict _ => exact kit_ty (show kitB "dict" "int" = some false by decide +kernel)
theorem kit_boolQ {K : PySem.W.Frag} (d : PyData) : PySem.W.kitOne K (.type (tyQ d)) (.type "bool") = some (boolQ d) := by
  cases d with
  | none => exact kit_ty (show kitB "NoneType" "bool" = some false by decide +kernel)
  | bool _ => exact kit_ty (show kitB "bool" "bool" = some true by decide +kernel)
  | int _ => exact kit_ty (show kitB "int" "bool" = some false by decide +kernel)
  | str _ => exact kit_ty (show kitB "str" "bool" = some false by decide +kernel)
  | list _ => exact kit_ty (show kitB "list" "bool" = some false by decide +kernel)
  | tuple _ => exact kit_ty (show kitB "tuple" "bool" = some false by decide +kernel)
  | dict _ => exact kit_ty (show kitB "dict" "bool" = some false by decide +kernel)
theorem kit_listQ {K : PySem.W.Frag} (d : PyData) : PySem.W.kitOne K (.type (tyQ d)) (.type "list") = some (listQ d) := by
  cases d with
  | none => exact kit_ty (show kitB "NoneType" "list" = some false by decide +kernel)
  | bool _ => exact kit_ty (show kitB "bool" "list" = some false by decide +kernel)
  | int _ => exact kit_ty (show kitB "int" "list" = some false by decide +kernel)
  | str _ => exact kit_ty (show kitB "str" "list" = some false by decide +kernel)
  | list _ => exact kit_ty (show kitB "list" "list" = some true by decide +kernel)
  | tuple _ => exact kit_ty (show kitB "tuple" "list" = some false by decide +kernel)
  | dict _ => exact kit_ty (show kitB "dict" "list" = some false by decide +kernel)
theorem ty_q {K : PySem.W.Frag} {H : Hp} {v : V} {d : PyData} (q : Dq H v d) : TyX K H v (.type (tyQ d)) := by
  cases q with
  | non => exact .base .non
  | bl b => exact .base (.bl b)
  | int i => exact .base (.int i)
  | str x => exact .base (.str x)
  | lst h _ => exact .base (.lst h)
  | tup h _ => exact .base (.tup h)
  | emp h => exact .base (.dK h)
/-- an item that a slot of a disc can have -/
def okS (top : Int) : PyData → Bool
  | .int i => decide (0 ≤ i) && decide (i ≤ top)
  | _ => false
/-- a disc with items up to top -/
def discQ (top : Int) : PyData → Bool
  | .list ds => decide (1 ≤ ds.length) && decide (ds.length ≤ 40) && ds.all (okS top)
  | _ => false
def slotsQ : PyData → Bool
  | .list ds => decide (1 ≤ ds.length) && decide (ds.length ≤ 40)
  | _ => false
theorem DqAll.length {H : Hp} : ∀ {xs : List V} {ds : List PyData}, DqAll H xs ds → xs.length = ds.length
  | _, _, .nil => rfl
  | _, _, .cons _ h => congrArg Nat.succ (DqAll.length h)
theorem DqAll.at {H : Hp} : ∀ {xs : List V} {ds : List PyData} {i : Nat} {x : V}, DqAll H xs ds → xs[i]? = some x → ∃ d, ds[i]? = some d ∧ Dq H x d
  | _, _, _, _, .nil, e => by simp at e
  | _, _, 0, _, .cons h _, e => by
    simp at e
    subst e
    exact ⟨_, rfl, h⟩
  | _, _, i + 1, x, .cons _ h, e => by
    obtain ⟨d, h1, h2⟩ := DqAll.at (i := i) (x := x) h (by simpa using e)
    exact ⟨d, by simpa using h1, h2⟩
theorem DqAll.ints {H : Hp} {top : Int} : ∀ {xs : List V} {ds : List PyData}, DqAll H xs ds → ds.all (okS top) = true → ∃ ns : List Int, xs = ns.map V.int ∧ ns.length = ds.length ∧ ds = ns.map PyData.int ∧ ∀ n ∈ ns, 0 ≤ n ∧ n ≤ top
  | _, _, .nil, _ => ⟨[], rfl, rfl, rfl, fun n hn => (List.not_mem_nil hn).elim⟩
  | _, _, .cons (d := d) h hs, e => by
    rw [List.all_cons, Bool.and_eq_true] at e
    obtain ⟨ns, h1, h2, h3, h4⟩ := DqAll.ints hs e.2
    cases h with
    | int i =>
      have e1 := (Bool.and_eq_true _ _).mp e.1
      refine ⟨i :: ns, by rw [h1]; rfl, congrArg Nat.succ h2, by rw [h3]; rfl, fun n hn => ?_⟩
      rcases List.mem_cons.mp hn with z | z
      · rw [z]
        exact ⟨of_decide_eq_true e1.1, of_decide_eq_true e1.2⟩
      · exact h4 n z
    | non => exact absurd e.1 (by show ¬ false = true; decide)
    | bl b => exact absurd e.1 (by show ¬ false = true; decide)
    | str x => exact absurd e.1 (by show ¬ false = true; decide)
    | lst _ _ => exact absurd e.1 (by show ¬ false = true; decide)
    | tup _ _ => exact absurd e.1 (by show ¬ false = true; decide)
    | emp _ => exact absurd e.1 (by show ¬ false = true; decide)
theorem ints_ok {top : Int} : ∀ {ns : List Int}, (ns.map PyData.int).all (okS top) = true ↔ ∀ n ∈ ns, 0 ≤ n ∧ n ≤ top
  | [] => by simp
  | n :: ns => by
    have ih := ints_ok (top := top) (ns := ns)
    rw [List.map_cons, List.all_cons, Bool.and_eq_true, ih]
    constructor
    · intro h m hm
      have e1 := (Bool.and_eq_true _ _).mp h.1
      rcases List.mem_cons.mp hm with z | z
      · rw [z]
        exact ⟨of_decide_eq_true e1.1, of_decide_eq_true e1.2⟩
      · exact h.2 m z
    · intro h
      have h1 := h n List.mem_cons_self
      exact ⟨(Bool.and_eq_true _ _).mpr ⟨decide_eq_true h1.1, decide_eq_true h1.2⟩, fun m hm => h m (List.mem_cons_of_mem _ hm)⟩
/-- what holds of all items up to i, one more -/
theorem all_next {p : PyData → Bool} {ds : List PyData} {i : Nat} {d : PyData} (e : ds[i]? = some d) (h : (ds.take i).all p = true) : (ds.take (i + 1)).all p = p d := by
  rw [List.take_add_one, e, List.all_append, h]
  simp
theorem all_no {p : PyData → Bool} {ds : List PyData} {i : Nat} {d : PyData} (e : ds[i]? = some d) (h : p d = false) : ds.all p = false := by
  cases z : ds.all p with
  | false => rfl
  | true =>
    rw [List.all_eq_true.mp z d (List.mem_of_getElem? e)] at h
    cases h

/-! ### things beside a tank -/
def mask (t : Addr) (H : Hp) : Hp := fun b => if b = t then none else H b
theorem mask_ne {t b : Addr} {H : Hp} (h : b ≠ t) : mask t H b = H b := if_neg h
theorem mask_same (t : Addr) (H : Hp) : Same (mask t H) H := fun b o e => by
  unfold mask at e
  split at e
  · cases e
  · exact e
theorem mask_but {t : Addr} {H H' : Hp} (u : But t H H') : Same (mask t H) (mask t H') := fun b o e => by
  unfold mask at e ⊢
  split at e
  · cases e
  · rename_i n
    rw [if_neg n]
    exact u b o e n
/-- an item; a thing -/
def El (t : Addr) (H : Hp) (v : V) : Prop := ∃ d, Dq (mask t H) v d ∧ d.showable = true ∧ d.depth ≤ 1 ∧ d.shown.length ≤ 1100
def Th (t : Addr) (H : Hp) (v : V) : Prop := ∃ d, Dq (mask t H) v d ∧ d.showable = true ∧ d.depth ≤ 3 ∧ d.shown.length ≤ 300000
theorem El.but {t : Addr} {H H' : Hp} {v : V} (h : El t H v) (u : But t H H') : El t H' v := let ⟨d, q, r⟩ := h; ⟨d, q.same (mask_but u), r⟩
theorem Th.but {t : Addr} {H H' : Hp} {v : V} (h : Th t H v) (u : But t H H') : Th t H' v := let ⟨d, q, r⟩ := h; ⟨d, q.same (mask_but u), r⟩
theorem El.th {t : Addr} {H : Hp} {v : V} (h : El t H v) : Th t H v := let ⟨d, q, r1, r2, r3⟩ := h; ⟨d, q, r1, by omega, by omega⟩
theorem el_non {t : Addr} {H : Hp} : El t H .non := ⟨.none, .non, rfl, by decide, by decide +kernel⟩
theorem el_bl {t : Addr} {H : Hp} (b : Bool) : El t H (.bl b) := ⟨.bool b, .bl b, by simp only [PyData.showable], by simp only [PyData.depth]; omega, by cases b <;> decide +kernel⟩
theorem el_int {t : Addr} {H : Hp} {i : Int} (h : i.natAbs < 2 ^ 1000) : El t H (.int i) := ⟨.int i, .int i, (rp_int h).sh, by simp only [PyData.depth]; omega, by have := shown_int h; omega⟩
theorem el_emp {t : Addr} {H : Hp} {a : Addr} (h : H a = some (.dK [])) (n : a ≠ t) : El t H (.ref a) := ⟨.dict [], .emp (by rw [mask_ne n]; exact h), by decide, by decide, by decide +kernel⟩
/-- items all told -/
theorem els {t : Addr} {H : Hp} : ∀ {xs : List V}, (∀ x ∈ xs, El t H x) → ∃ ds, DqAll (mask t H) xs ds ∧ PyData.showableAll ds = true ∧ PyData.depthAll ds ≤ 1 ∧ ∀ d ∈ ds, d.shown.length ≤ 1100
  | [], _ => ⟨[], .nil, by simp only [PyData.showableAll], by simp only [PyData.depthAll]; omega, fun d hd => (List.not_mem_nil hd).elim⟩
  | x :: xs, h => by
    obtain ⟨d, q, r1, r2, r3⟩ := h x List.mem_cons_self
    obtain ⟨ds, p1, p2, p3, p4⟩ := els (xs := xs) fun y hy => h y (List.mem_cons_of_mem _ hy)
    refine ⟨d :: ds, .cons q p1, by simp only [PyData.showableAll, r1, p2, Bool.and_self], by simp only [PyData.depthAll]; omega, fun e he => ?_⟩
    rcases List.mem_cons.mp he with z | z
    · rw [z]
      exact r3
    · exact p4 e z
theorem th_list {t : Addr} {H : Hp} {p : Addr} {xs : List V} (h : H p = some (.lst xs)) (n : p ≠ t) (hl : xs.length ≤ 200) (hx : ∀ x ∈ xs, El t H x) : Th t H (.ref p) := by
  obtain ⟨ds, p1, p2, p3, p4⟩ := els hx
  have e := p1.length
  refine ⟨.list ds, .lst (by rw [mask_ne n]; exact h) p1, by simp only [PyData.showable, p2], by simp only [PyData.depth]; omega, ?_⟩
  have := shown_list p4
  omega
theorem shown_tuple {B : Nat} {ds : List PyData} (h : ∀ d ∈ ds, d.shown.length ≤ B) : (PyData.tuple ds).shown.length ≤ (B + 2) * ds.length + 3 := by
  simp only [PyData.shown]
  have e3 : (((if (PyData.shownAll ds).length == 1 then ",)" else ")" : String) : Str)).length ≤ 2 := by split <;> decide +kernel
  have e1 : ((("(" : String) : Str)).length = 1 := rfl
  unfold tupleText
  rw [strLen_append, strLen_append, e1]
  have h2 : piled (PyData.shownAll ds) ≤ (B + 2) * ds.length := by
    unfold piled
    have := sum_bound (B := B + 2) (l := (PyData.shownAll ds).map fun t => t.length + 2) fun x hx => by
      obtain ⟨s, hs, rfl⟩ := List.mem_map.mp hx
      rw [shownAll_map] at hs
      obtain ⟨d, hd, rfl⟩ := List.mem_map.mp hs
      have := h d hd
      omega
    rw [List.length_map, shownAll_map, List.length_map] at this
    rw [shownAll_map] at *
    exact this
  by_cases z : PyData.shownAll ds = []
  · rw [z] at e3 ⊢
    have : (Str.join ", " []).length = 0 := by decide +kernel
    omega
  · have := join_length_add (PyData.shownAll ds) z
    omega
theorem th_tuple {t : Addr} {H : Hp} {p : Addr} {xs : List V} (h : H p = some (.tup xs)) (n : p ≠ t) (hl : xs.length ≤ 200) (hx : ∀ x ∈ xs, El t H x) : Th t H (.ref p) := by
  obtain ⟨ds, p1, p2, p3, p4⟩ := els hx
  have e := p1.length
  refine ⟨.tuple ds, .tup (by rw [mask_ne n]; exact h) p1, by simp only [PyData.showable, p2], by simp only [PyData.depth]; omega, ?_⟩
  have := shown_tuple p4
  omega
/-- [thing] -/
theorem th_one {t : Addr} {H : Hp} {p b : Addr} {ns : List Int} (h : H p = some (.lst [.ref b])) (n : p ≠ t) (hb : H b = some (.lst (ns.map V.int))) (nb : b ≠ t) (hl : ns.length ≤ 40) (hx : ∀ n ∈ ns, n.natAbs < 2 ^ 1000) : Th t H (.ref p) := by
  obtain ⟨ds, p1, p2, p3, p4⟩ := els (t := t) (H := H) (xs := ns.map V.int) fun x hxx => by
    obtain ⟨m, hm, rfl⟩ := List.mem_map.mp hxx
    exact el_int (hx m hm)
  have e := p1.length
  rw [List.length_map] at e
  have z := shown_list p4
  refine ⟨.list [.list ds], .lst (by rw [mask_ne n]; exact h) (.cons (.lst (by rw [mask_ne nb]; exact hb) p1) .nil), by simp only [PyData.showable, PyData.showableAll, p2, Bool.and_self], by simp only [PyData.depth, PyData.depthAll]; omega, ?_⟩
  have z2 := shown_list (B := 1102 * 40 + 3) (ds := [.list ds]) fun d hd => by
    rw [List.mem_singleton.mp hd]
    omega
  exact Nat.le_trans z2 (by show (1102 * 40 + 3 + 2) * 1 + 3 ≤ 300000; decide)
/-- [1], (1,) as items -/
theorem el_list1 {t : Addr} {H : Hp} {p : Addr} (h : H p = some (.lst [.int 1])) (n : p ≠ t) : El t H (.ref p) := ⟨.list [.int 1], .lst (by rw [mask_ne n]; exact h) (.cons (.int 1) .nil), by decide, by decide, by decide +kernel⟩
theorem el_list0 {t : Addr} {H : Hp} {p : Addr} (h : H p = some (.lst [])) (n : p ≠ t) : El t H (.ref p) := ⟨.list [], .lst (by rw [mask_ne n]; exact h) .nil, by decide, by decide, by decide +kernel⟩
theorem el_tup1 {t : Addr} {H : Hp} {p : Addr} (h : H p = some (.tup [.int 1])) (n : p ≠ t) : El t H (.ref p) := ⟨.tuple [.int 1], .tup (by rw [mask_ne n]; exact h) (.cons (.int 1) .nil), by decide, by decide, by decide +kernel⟩
theorem el_tup0 {t : Addr} {H : Hp} {p : Addr} (h : H p = some (.tup [])) (n : p ≠ t) : El t H (.ref p) := ⟨.tuple [], .tup (by rw [mask_ne n]; exact h) .nil, by decide, by decide, by decide +kernel⟩
theorem el_ints {t : Addr} {H : Hp} {ns : List Int} (h : ∀ n ∈ ns, n.natAbs < 2 ^ 1000) : ∀ x ∈ ns.map V.int, El t H x := fun x hx => by
  obtain ⟨m, hm, rfl⟩ := List.mem_map.mp hx
  exact el_int (h m hm)
theorem _root_.L2.Same.seqT {K : PySem.W.Frag} {H H' : Hp} {a : Addr} {xs : List V} (s : Same H H') (h : H a = some (.tup xs)) : SqT K H' a xs := SqT.of (s _ _ h)
end Sd

namespace Sd
open PySem PySem.Spec PyProof.Rows L2

/-! ### polynomials, lowest power first -/
/-- f times low taken away from l at s, s + 1 .. s + j - 1 -/
def subI (low : List Int) (f : Int) (s : Nat) : Nat → List Int → List Int
  | 0, l => l
  | j + 1, l => (subI low f s j l).set (s + j) ((subI low f s j l).getD (s + j) 0 - f * low.getD j 0)
/-- so many steps of the division, from the top: quotient behind, rest in front -/
def divN (low : List Int) : Nat → List Int → List Int
  | 0, l => l
  | k + 1, l => divN low k (subI low (l.getD (low.length - 1 + k) 0) k (low.length - 1) l)
def divL (low l : List Int) : List Int := divN low (l.length - (low.length - 1)) l
def quo (low l : List Int) : List Int := (divL low l).drop (low.length - 1)
def rst (low l : List Int) : List Int := (divL low l).take (low.length - 1)
theorem subI_len (low : List Int) (f : Int) (s : Nat) : ∀ (j : Nat) (l : List Int), (subI low f s j l).length = l.length
  | 0, _ => rfl
  | j + 1, l => by
    rw [subI, List.length_set, subI_len low f s j l]
theorem divN_len (low : List Int) : ∀ (k : Nat) (l : List Int), (divN low k l).length = l.length
  | 0, _ => rfl
  | k + 1, l => by
    rw [divN, divN_len low k, subI_len]
theorem divL_len (low l : List Int) : (divL low l).length = l.length := divN_len _ _ _
theorem quo_len (low l : List Int) : (quo low l).length = l.length - (low.length - 1) := by
  unfold quo
  rw [List.length_drop, divL_len]
theorem rst_len (low l : List Int) : (rst low l).length = min (low.length - 1) l.length := by
  unfold rst
  rw [List.length_take, divL_len]
/-- what lies behind stays -/
theorem subI_get (low : List Int) (f : Int) (s : Nat) : ∀ (j : Nat) (l : List Int) (i : Nat), s + j ≤ i → (subI low f s j l)[i]? = l[i]?
  | 0, _, _, _ => rfl
  | j + 1, l, i, h => by
    rw [subI, List.getElem?_set_ne (by omega)]
    exact subI_get low f s j l i (by omega)
theorem subI_drop (low : List Int) (f : Int) (s j : Nat) (l : List Int) {i : Nat} (h : s + j ≤ i) : (subI low f s j l).drop i = l.drop i := by
  refine List.ext_getElem? fun k => ?_
  rw [List.getElem?_drop, List.getElem?_drop, subI_get low f s j l (i + k) (by omega)]
/-- the table of C(1) to C(40) -/
def cycT : List (List Int) := [[], [-1, 1], [1, 1], [1, 1, 1], [1, 0, 1], [1, 1, 1, 1, 1], [1, -1, 1], [1, 1, 1, 1, 1, 1, 1], [1, 0, 0, 0, 1], [1, 0, 0, 1, 0, 0, 1], [1, -1, 1, -1, 1], [1, 1, 1, 1, 1, 1, 1, 1, 1, 1, 1], [1, 0, -1, 0, 1], [1, 1, 1, 1, 1, 1, 1, 1, 1, 1, 1, 1, 1], [1, -1, 1, -1, 1, -1, 1], [1, -1, 0, 1, -1, 1, 0, -1, 1], [1, 0, 0, 0, 0, 0, 0, 0, 1], [1, 1, 1, 1, 1, 1, 1, 1, 1, 1, 1, 1, 1, 1, 1, 1, 1], [1, 0, 0, -1, 0, 0, 1], [1, 1, 1, 1, 1, 1, 1, 1, 1, 1, 1, 1, 1, 1, 1, 1, 1, 1, 1], [1, 0, -1, 0, 1, 0, -1, 0, 1], [1, -1, 0, 1, -1, 0, 1, 0, -1, 1, 0, -1, 1], [1, -1, 1, -1, 1, -1, 1, -1, 1, -1, 1], [1, 1, 1, 1, 1, 1, 1, 1, 1, 1, 1, 1, 1, 1, 1, 1, 1, 1, 1, 1, 1, 1, 1], [1, 0, 0, 0, -1, 0, 0, 0, 1], [1, 0, 0, 0, 0, 1, 0, 0, 0, 0, 1, 0, 0, 0, 0, 1, 0, 0, 0, 0, 1], [1, -1, 1, -1, 1, -1, 1, -1, 1, -1, 1, -1, 1], [1, 0, 0, 0, 0, 0, 0, 0, 0, 1, 0, 0, 0, 0, 0, 0, 0, 0, 1], [1, 0, -1, 0, 1, 0, -1, 0, 1, 0, -1, 0, 1], [1, 1, 1, 1, 1, 1, 1, 1, 1, 1, 1, 1, 1, 1, 1, 1, 1, 1, 1, 1, 1, 1, 1, 1, 1, 1, 1, 1, 1], [1, 1, 0, -1, -1, -1, 0, 1, 1], [1, 1, 1, 1, 1, 1, 1, 1, 1, 1, 1, 1, 1, 1, 1, 1, 1, 1, 1, 1, 1, 1, 1, 1, 1, 1, 1, 1, 1, 1, 1], [1, 0, 0, 0, 0, 0, 0, 0, 0, 0, 0, 0, 0, 0, 0, 0, 1], [1, -1, 0, 1, -1, 0, 1, -1, 0, 1, -1, 1, 0, -1, 1, 0, -1, 1, 0, -1, 1], [1, -1, 1, -1, 1, -1, 1, -1, 1, -1, 1, -1, 1, -1, 1, -1, 1], [1, -1, 0, 0, 0, 1, -1, 1, -1, 0, 1, -1, 1, -1, 1, 0, -1, 1, -1, 1, 0, 0, 0, -1, 1], [1, 0, 0, 0, 0, 0, -1, 0, 0, 0, 0, 0, 1], [1, 1, 1, 1, 1, 1, 1, 1, 1, 1, 1, 1, 1, 1, 1, 1, 1, 1, 1, 1, 1, 1, 1, 1, 1, 1, 1, 1, 1, 1, 1, 1, 1, 1, 1, 1, 1], [1, -1, 1, -1, 1, -1, 1, -1, 1, -1, 1, -1, 1, -1, 1, -1, 1, -1, 1], [1, -1, 0, 1, -1, 0, 1, -1, 0, 1, -1, 0, 1, 0, -1, 1, 0, -1, 1, 0, -1, 1, 0, -1, 1], [1, 0, 0, 0, -1, 0, 0, 0, 1, 0, 0, 0, -1, 0, 0, 0, 1]]
def cyc (p : Nat) : List Int := cycT.getD p []
/-- low coefficients are 1, 0 or -1 -/
def Unt (l : List Int) : Prop := ∀ x ∈ l, -1 ≤ x ∧ x ≤ 1
theorem cyc_all : ∀ p, p < 41 → 1 ≤ p → (2 ≤ (cyc p).length ∧ (cyc p).length ≤ p + 1 ∧ (cyc p).all (fun x => decide (-1 ≤ x ∧ x ≤ 1)) = true) := by decide +kernel
theorem cyc_len {p : Nat} (h1 : 1 ≤ p) (h : p ≤ 40) : 2 ≤ (cyc p).length ∧ (cyc p).length ≤ p + 1 := ⟨(cyc_all p (by omega) h1).1, (cyc_all p (by omega) h1).2.1⟩
theorem cyc_unt {p : Nat} (h1 : 1 ≤ p) (h : p ≤ 40) : Unt (cyc p) := fun x hx => of_decide_eq_true (List.all_eq_true.mp (cyc_all p (by omega) h1).2.2 x hx)
/-- x ** p - 1 -/
def xn1 (p : Nat) : List Int := [-1] ++ List.replicate (p - 1) 0 ++ [1]
theorem xn1_len {p : Nat} (h : 1 ≤ p) : (xn1 p).length = p + 1 := by
  unfold xn1
  rw [List.length_append, List.length_append, List.length_replicate]
  show 1 + (p - 1) + 1 = p + 1
  omega
/-- x ** p - 1 without C(1), C(2) .. C(k) -/
def rootF (p : Nat) : Nat → List Int
  | 0 => xn1 p
  | k + 1 => if p % (k + 1) = 0 then quo (cyc (k + 1)) (rootF p k) else rootF p k
theorem root_all : ∀ p, p < 41 → 1 ≤ p → rootF p (p - 1) = cyc p := by decide +kernel
theorem root_cyc {p : Nat} (h1 : 1 ≤ p) (h : p ≤ 40) : rootF p (p - 1) = cyc p := root_all p (by omega) h1
theorem rootF_len (p : Nat) (h : 1 ≤ p) : ∀ k, (rootF p k).length ≤ p + 1
  | 0 => by rw [rootF, xn1_len h]; exact Nat.le_refl _
  | k + 1 => by
    have := rootF_len p h k
    rw [rootF]
    split
    · rw [quo_len]; omega
    · exact this
/-- the divisors of n up to k -/
def divs (n : Nat) : Nat → List Nat
  | 0 => []
  | k + 1 => if n % (k + 1) = 0 then divs n k ++ [k + 1] else divs n k
theorem divs_mem {n : Nat} : ∀ {k d : Nat}, d ∈ divs n k ↔ 1 ≤ d ∧ d ≤ k ∧ n % d = 0
  | 0, d => by
    rw [divs]
    exact ⟨fun h => (List.not_mem_nil h).elim, fun h => by omega⟩
  | k + 1, d => by
    rw [divs]
    by_cases c : n % (k + 1) = 0
    · rw [if_pos c, List.mem_append, divs_mem (k := k), List.mem_singleton]
      constructor
      · rintro (⟨a, b, e⟩ | rfl)
        · exact ⟨a, by omega, e⟩
        · exact ⟨by omega, Nat.le_refl _, c⟩
      · rintro ⟨a, b, e⟩
        by_cases z : d = k + 1
        · exact .inr z
        · exact .inl ⟨a, by omega, e⟩
    · rw [if_neg c, divs_mem (k := k)]
      constructor
      · rintro ⟨a, b, e⟩
        exact ⟨a, by omega, e⟩
      · rintro ⟨a, b, e⟩
        refine ⟨a, ?_, e⟩
        have : d ≠ k + 1 := fun z => c (by rw [← z]; exact e)
        omega
theorem divs_len {n : Nat} : ∀ k, (divs n k).length ≤ k
  | 0 => Nat.le_refl _
  | k + 1 => by
    have := divs_len (n := n) k
    rw [divs]
    split
    · rw [List.length_append]
      show _ + 1 ≤ _
      omega
    · omega
/-- x ** p - 1 without all C(d), d of a list that divides p -/
def foldQ (p : Nat) (ds : List Nat) : List Int := ds.foldl (fun a d => if p % d = 0 then quo (cyc d) a else a) (xn1 p)
theorem foldQ_snoc (p : Nat) (ds : List Nat) (d : Nat) : foldQ p (ds ++ [d]) = if p % d = 0 then quo (cyc d) (foldQ p ds) else foldQ p ds := by
  unfold foldQ
  rw [List.foldl_append]
  rfl
theorem foldQ_divs {n p : Nat} (hp : n % p = 0) : ∀ k, foldQ p (divs n k) = rootF p k
  | 0 => rfl
  | k + 1 => by
    rw [divs, rootF]
    by_cases c : n % (k + 1) = 0
    · rw [if_pos c, foldQ_snoc, foldQ_divs hp k]
    · rw [if_neg c, foldQ_divs hp k, if_neg]
      intro z
      exact c (Nat.mod_eq_zero_of_dvd (Nat.dvd_trans (Nat.dvd_of_mod_eq_zero z) (Nat.dvd_of_mod_eq_zero hp)))
theorem foldQ_len {p : Nat} (h : 1 ≤ p) : ∀ ds : List Nat, ∀ a : List Int, a.length ≤ p + 1 → (ds.foldl (fun a d => if p % d = 0 then quo (cyc d) a else a) a).length ≤ p + 1
  | [], a, ha => ha
  | d :: ds, a, ha => by
    rw [List.foldl_cons]
    refine foldQ_len h ds _ ?_
    split
    · rw [quo_len]; omega
    · exact ha
/-- the blind divisors -/
def blB (ns : List Int) (d : Nat) : Bool := (rst (cyc d) ns).all fun x => decide (x = 0)
def blindN (ns : List Int) (k : Nat) : List Nat := (divs ns.length k).filter (blB ns)
def blindL (ns : List Int) : List Nat := blindN ns ns.length
/-- the product of C(d) for all that are not blind -/
def hidQ (ns : List Int) : List Int := (blindL ns).foldl (fun a d => quo (cyc d) a) (xn1 ns.length)
def degS (ds : List Nat) : Nat := (ds.map fun d => (cyc d).length - 1).sum
theorem deg_all : ∀ n, n < 41 → 1 ≤ n → degS (divs n n) = n := by decide +kernel
theorem degS_filter (p : Nat → Bool) : ∀ ds : List Nat, degS (ds.filter p) ≤ degS ds
  | [] => Nat.le_refl _
  | d :: ds => by
    have := degS_filter p ds
    rw [List.filter_cons]
    split
    · unfold degS at *
      rw [List.map_cons, List.sum_cons, List.map_cons, List.sum_cons]
      omega
    · unfold degS at *
      rw [List.map_cons, List.sum_cons]
      omega
theorem fold_len : ∀ (ds : List Nat) (a : List Int), degS ds ≤ a.length → (ds.foldl (fun a d => quo (cyc d) a) a).length = a.length - degS ds
  | [], a, _ => rfl
  | d :: ds, a, h => by
    unfold degS at h
    rw [List.map_cons, List.sum_cons] at h
    rw [List.foldl_cons, fold_len ds _ (by rw [quo_len]; unfold degS; omega), quo_len]
    unfold degS
    rw [List.map_cons, List.sum_cons]
    omega
theorem blind_deg {ns : List Int} (h1 : 1 ≤ ns.length) (h : ns.length ≤ 40) : degS (blindL ns) ≤ ns.length := by
  have := degS_filter (blB ns) (divs ns.length ns.length)
  rw [deg_all ns.length (by omega) h1] at this
  exact this
theorem hidQ_len {ns : List Int} (h1 : 1 ≤ ns.length) (h : ns.length ≤ 40) : (hidQ ns).length = ns.length + 1 - degS (blindL ns) := by
  have := blind_deg h1 h
  unfold hidQ
  rw [fold_len _ _ (by rw [xn1_len h1]; omega), xn1_len h1]
theorem blind_mem {ns : List Int} {d : Nat} (h : d ∈ blindL ns) : 1 ≤ d ∧ d ≤ ns.length ∧ ns.length % d = 0 := divs_mem.mp (List.mem_filter.mp h).1
theorem degS_pos {ns : List Int} (h : ns.length ≤ 40) : degS (blindL ns) = 0 ↔ blindL ns = [] := by
  constructor
  · intro z
    cases e : blindL ns with
    | nil => rfl
    | cons d ds =>
      exfalso
      have hd := blind_mem (ns := ns) (d := d) (by rw [e]; exact List.mem_cons_self)
      have := (cyc_len hd.1 (by omega)).1
      rw [e] at z
      unfold degS at z
      rw [List.map_cons, List.sum_cons] at z
      omega
  · intro z
    rw [z]
    rfl
theorem divs_sorted {n : Nat} : ∀ {k i d e : Nat}, (divs n k)[i]? = some d → e ∈ (divs n k).take i → e < d
  | 0, _, _, _, h, _ => by
    rw [divs] at h
    cases h
  | k + 1, i, d, e, h, he => by
    rw [divs] at h he
    by_cases c : n % (k + 1) = 0
    · rw [if_pos c] at h he
      by_cases z : i < (divs n k).length
      · rw [List.getElem?_append_left z] at h
        rw [List.take_append_of_le_length (Nat.le_of_lt z)] at he
        exact divs_sorted h he
      · have hi : i = (divs n k).length := by
          have := (List.getElem?_eq_some_iff.mp h).1
          rw [List.length_append] at this
          have t : i < (divs n k).length + 1 := this
          omega
        subst hi
        rw [List.getElem?_append_right (Nat.le_refl _), Nat.sub_self] at h
        have hd : k + 1 = d := Option.some.inj h
        rw [List.take_left] at he
        have := (divs_mem.mp he).2.1
        omega
    · rw [if_neg c] at h he
      exact divs_sorted h he
theorem divs_lt {n k i d e : Nat} (h : (divs n k)[i]? = some d) (he : e ∈ (divs n k).take i) : e < d := divs_sorted h he
theorem degI : ∀ {ds : List Nat}, (∀ d ∈ ds, 1 ≤ d ∧ d ≤ 40) → (ds.map fun d => ((cyc d).length : Int) - 1).sum = (degS ds : Int)
  | [], _ => rfl
  | d :: ds, h => by
    have hd := h d List.mem_cons_self
    have hl := (cyc_len hd.1 hd.2).1
    rw [List.map_cons, List.sum_cons, degI fun x hx => h x (List.mem_cons_of_mem _ hx)]
    unfold degS
    rw [List.map_cons, List.sum_cons]
    omega
end Sd

namespace Sd
open PySem PySem.Spec PyProof.Rows L2

/-! ### rules: any of a list of ints, xs[i] -= .., a dict that is locked and left so, a dict comprehension over its items -/
section
variable {X : Cx}
theorem truth_ints {K : PySem.W.Frag} {prog : Program} {w : World} {A : Around} {ns : List Int} {its : List Value} (r : Vals (ns.map V.int) its) :
    TruthOf prog w A (fun i v => its.toArray[i]? = some v) (fun i => (ns.map fun n => decide (n ≠ 0)).getD i false) := fun i v s Q E hv hq => by
  have hv' : its[i]? = some v := by simpa using hv
  have hl := r.length
  rw [List.length_map] at hl
  have hi : i < ns.length := by
    rw [hl]
    exact (List.getElem?_eq_some_iff.mp hv').1
  obtain ⟨w1, e1, r1⟩ := r.get (i := i) (x := .int ns[i]) (by rw [List.getElem?_map, List.getElem?_eq_getElem hi]; rfl)
  rw [hv'] at e1
  cases e1
  obtain ⟨t, rfl⟩ := r1
  have hg : (ns.map fun n => decide (n ≠ 0)).getD i false = decide (ns[i] ≠ 0) := by
    rw [List.getD_eq_getElem?_getD, List.getElem?_map, List.getElem?_eq_getElem hi]
    rfl
  have hq' : Q ((ns.map fun n => decide (n ≠ 0)).getD i false) s := hq
  rw [hg] at hq'
  refine PySem.P.truthy_int ?_
  have e : (ns[i] != 0) = decide (ns[i] ≠ 0) := by
    by_cases c : ns[i] = 0
    · rw [c]; rfl
    · rw [decide_eq_true c]
      exact bne_iff_ne.mpr c
  first
    | exact hq'
    | (rw [e]; exact hq')
def rAnyI (K : PySem.W.Frag) : List V → Hp → VK → Prop := fun vs H Q => ∃ (a : Addr) (ns : List Int), vs = [V.ref a] ∧ SqL K H a (ns.map V.int) ∧ Q (.bl (!ns.all fun x => decide (x = 0))) H
theorem any_not_all : ∀ ns : List Int, (ns.map fun n => decide (n ≠ 0)).any id = !ns.all fun x => decide (x = 0)
  | [] => rfl
  | n :: ns => by
    rw [List.map_cons, List.any_cons, List.all_cons, any_not_all ns, Bool.not_and]
    congr 1
    by_cases c : n = 0
    · rw [decide_eq_true c]; subst c; rfl
    · rw [decide_eq_false c]
      exact decide_eq_true c
theorem cr_anyI {K : PySem.W.Frag} (hK : X.K = K) (hc : X.calm = true) : CallR X (.builtin "any") (rAnyI K) := by
  subst hK
  intro pins s σ H vs us Q I r h
  obtain ⟨a, ns, rfl, hs, q⟩ := h
  obtain ⟨its, rv, hl, _⟩ := I.list hs
  rw [Vals.ref1 r]
  refine call_any_walk (iter_any hl.isList fun s₂ e2 st hne => ?_)
  subst e2
  refine ⟨_, _, _, _, _, _, _, rfl, Walks.list (A := X.A.in1) (I.ok.hd hc) _ a hne its.toArray, st, truth_ints (K := X.K) rv, fun h' tk hk => ?_⟩
  refine ⟨.bl _, H, I.kept fun b o eo => hk b o (fun hmem => ?_) (Heap.get?_push_of_some _ eo), ?_, q⟩
  · rcases List.mem_cons.mp hmem with e1 | hmem
    · exact absurd (e1 ▸ Heap.lt_size eo) (Nat.lt_irrefl _)
    · cases hmem
  · show Value.bool _ = Value.bool _
    have e := any_range (ns.map fun n => decide (n ≠ 0))
    rw [← any_not_all, ← e, List.size_toArray, ← rv.length, List.length_map, List.length_map]
/-- xs[i], read by an augmented assignment -/
def rGetL (K : PySem.W.Frag) : V → V → Hp → VK → Prop := fun o i H Q => ∃ (p : Addr) (xs : List V) (k : Int) (z : V), o = .ref p ∧ i = .int k ∧ SqL K H p xs ∧ 0 ≤ k ∧ xs[k.toNat]? = some z ∧ Q z H
theorem get_listP {K : PySem.W.Frag} (hK : X.K = K) : PGet X (rGetL K) := by
  subst hK
  intro pins s σ H o i ov iv Q I ro ri h
  obtain ⟨p, xs, k, z, rfl, rfl, hq, h0, he, q⟩ := h
  cases ro
  obtain ⟨t, rfl⟩ := ri
  obtain ⟨its, r, pl, hz⟩ := I.list hq
  obtain ⟨w, ew, rw'⟩ := r.get he
  have hlt : k.toNat < its.length := (List.getElem?_eq_some_iff.mp ew).1
  have hn := line63
  have hl := r.length
  exact wpAny_getItem_list pl.isList h0 (by omega) (by simpa using ew) ⟨z, H, I, rw', q⟩
/-- the dict that an expression gives is locked from then on -/
def tLk (td : TE) : TE := fun σ H Q => td σ H fun x H1 => ∃ d kvs, x = .ref d ∧ H1 d = some (.dK kvs) ∧ ∀ od, Q x (upd H1 d (.frz od (.dK kvs)))
theorem pe_lk {e : Expr} {td : TE} (h : PE X e td) : PE X e (tLk td) := by
  refine ⟨fun pins s σ H Q I hw => ?_⟩
  refine thn (h.run pins s σ H _ I hw) fun v s1 ⟨x, H1, I1, r, d, kvs, ex, hd, q⟩ => ?_
  obtain ⟨od, I2⟩ := I1.lock hd trivial
  exact ⟨x, _, I2, r, q od⟩
theorem ixT {K : PySem.W.Frag} (h : X.K = K) : IxR X (rIxT K) := h ▸ ix_tup
theorem dc_it {J : It} {n : Nat} {G : Hp → Prop} {Y : Nat → Hp → V → Hp → Prop} (w : Walk J n G Y) {g : TG} {tt : TT} {tk tv : TE} {vs : List Nat} {σ : L2.St} {H1 : Hp} {D : Addr} {Qd : Hp → Prop} (Pv : Nat → Hp → Prop) (h0 : Pv 0 (upd H1 D (.dK []))) (hG : ∀ i H, i ≤ n → Pv i H → G H)
    (hs : ∀ i x H H', i < n → Pv i H → Y i H x H' → g x (wipe σ vs) H' fun σ2 H2 => wipe σ2 vs = wipe σ vs ∧ tt σ2 H2 fun b H3 =>
      if b = true then tk σ2 H3 fun y H4 => tv σ2 H4 fun z H5 => ∃ kvs k, y = kV k ∧ H5 D = some (.dK kvs) ∧ kvs.length < sizeLine ∧ Pv (i + 1) (upd H5 D (.dK (putK kvs k z))) else Pv (i + 1) H3) (hd : ∀ H, Pv n H → Qd H) :
    ∃ W : Nat → Nat → Hp → Prop, (∃ m, W 0 m (upd H1 D (.dK []))) ∧ ∀ i m H, W i m H →
      (J.stop i H ∧ Qd H) ∨ (J.go i H ∧ ∃ Nx : Hp → Prop, (∀ H', Nx H' → ∃ m', m' < m ∧ W (i + 1) m' H') ∧ ∀ x H', J.yld i H x H' → g x (wipe σ vs) H' fun σ2 H2 => wipe σ2 vs = wipe σ vs ∧ tt σ2 H2 fun b H3 =>
        if b = true then tk σ2 H3 fun y H4 => tv σ2 H4 fun z H5 => ∃ kvs k, y = kV k ∧ H5 D = some (.dK kvs) ∧ kvs.length < sizeLine ∧ Nx (upd H5 D (.dK (putK kvs k z))) else Nx H3) := by
  refine ⟨fun i m H => m = n - i ∧ i ≤ n ∧ Pv i H, ⟨n, by simp, Nat.zero_le _, h0⟩, ?_⟩
  rintro i m H ⟨rfl, hi, p⟩
  have q := hG i H hi p
  by_cases hlt : i < n
  · exact .inr ⟨w.goes i H hlt q, Pv (i + 1), fun H' p' => ⟨n - (i + 1), by omega, rfl, hlt, p'⟩, fun x H' y => hs i x H H' hlt p (w.yields i H x H' hlt q y)⟩
  · have e : i = n := by omega
    subst e
    exact .inl ⟨w.stops H q, hd H p⟩
end
/-! ### dicts from divisors to lists -/
inductive Tabl (H : Hp) : List (Key × V) → List Nat → Prop
  | nil : Tabl H [] []
  | cons {d : Nat} {r : Addr} {kvs : List (Key × V)} {ds : List Nat} : H r = some (.lst ((cyc d).map V.int)) → Tabl H kvs ds → Tabl H ((.inl (d : Int), .ref r) :: kvs) (d :: ds)
theorem Tabl.same {H H' : Hp} (s : Same H H') : ∀ {kvs : List (Key × V)} {ds : List Nat}, Tabl H kvs ds → Tabl H' kvs ds
  | _, _, .nil => .nil
  | _, _, .cons h t => .cons (s _ _ h) (t.same s)
theorem Tabl.but {H H' : Hp} {T : Addr} (hT : ∀ xs, H T ≠ some (.lst xs)) (s : But T H H') : ∀ {kvs : List (Key × V)} {ds : List Nat}, Tabl H kvs ds → Tabl H' kvs ds
  | _, _, .nil => .nil
  | _, _, .cons h t => .cons (s _ _ h (fun e => hT _ (by rw [← e]; exact h))) (t.but hT s)
theorem Tabl.len {H : Hp} : ∀ {kvs : List (Key × V)} {ds : List Nat}, Tabl H kvs ds → kvs.length = ds.length
  | _, _, .nil => rfl
  | _, _, .cons _ t => by rw [List.length_cons, List.length_cons, t.len]
theorem Tabl.at {H : Hp} : ∀ {kvs : List (Key × V)} {ds : List Nat} {i : Nat}, Tabl H kvs ds → i < ds.length → ∃ d r, ds[i]? = some d ∧ kvs[i]? = some (.inl (d : Int), .ref r) ∧ H r = some (.lst ((cyc d).map V.int))
  | _, _, i, .nil, h => absurd h (Nat.not_lt_zero _)
  | _, _, 0, .cons h t, _ => ⟨_, _, rfl, rfl, h⟩
  | _, _, i + 1, .cons h t, l => t.at (i := i) (Nat.lt_of_succ_lt_succ l)
theorem Tabl.snoc {H : Hp} {d : Nat} {r : Addr} (h : H r = some (.lst ((cyc d).map V.int))) : ∀ {kvs : List (Key × V)} {ds : List Nat}, Tabl H kvs ds → Tabl H (kvs ++ [(.inl (d : Int), .ref r)]) (ds ++ [d])
  | _, _, .nil => .cons h .nil
  | _, _, .cons h1 t => .cons h1 (t.snoc h)
theorem Tabl.put {H : Hp} {d : Nat} : ∀ {kvs : List (Key × V)} {ds : List Nat}, Tabl H kvs ds → (∀ e ∈ ds, e < d) → (kvs.any fun kv => decide (kv.1 = (.inl (d : Int) : Key))) = false
  | _, _, .nil, _ => rfl
  | _, _, @Tabl.cons _ e r kvs ds _ t, h => by
    rw [List.any_cons, t.put fun x hx => h x (List.mem_cons_of_mem _ hx), Bool.or_false]
    refine decide_eq_false fun z => ?_
    have h1 := h e List.mem_cons_self
    have h2 : (e : Int) = (d : Int) := Sum.inl.inj z
    omega
theorem Tabl.putK {H : Hp} {d : Nat} {v : V} {kvs : List (Key × V)} {ds : List Nat} (t : Tabl H kvs ds) (h : ∀ e ∈ ds, e < d) : putK kvs (.inl (d : Int)) v = kvs ++ [(.inl (d : Int), v)] := by
  unfold L2.putK
  rw [if_neg (by rw [t.put h]; exact Bool.false_ne_true)]
theorem eqv_dI0 (a : List Int) : PyData.eqv (dI a) (dI []) = a.isEmpty := by cases a <;> rfl
end Sd

namespace Sd
open PySem PySem.Spec PyProof.Rows L2

/-! ### things without dicts within, beside a tank -/
def NDk : PyData → Prop
  | .list ds => PyData.hasDictAll ds = false ∧ PyData.canLayAll0 ds = true
  | _ => True
def E9 (t : Addr) (H : Hp) (v : V) : Prop := ∃ d, Dq (mask t H) v d ∧ d.showable = true ∧ d.depth ≤ 1 ∧ d.shown.length ≤ 1100 ∧ d.hasDict = false ∧ d.canLay0 = true
def T9 (t : Addr) (H : Hp) (v : V) : Prop := ∃ d, Dq (mask t H) v d ∧ d.showable = true ∧ d.depth ≤ 3 ∧ d.shown.length ≤ 300000 ∧ NDk d
theorem E9.but {t : Addr} {H H' : Hp} {v : V} (h : E9 t H v) (u : But t H H') : E9 t H' v := let ⟨d, q, r⟩ := h; ⟨d, q.same (mask_but u), r⟩
theorem T9.but {t : Addr} {H H' : Hp} {v : V} (h : T9 t H v) (u : But t H H') : T9 t H' v := let ⟨d, q, r⟩ := h; ⟨d, q.same (mask_but u), r⟩
theorem ndk_of {d : PyData} (h : d.hasDict = false ∧ d.canLay0 = true) : NDk d := by
  cases d <;> first | trivial | (obtain ⟨h1, h2⟩ := h; simp only [PyData.hasDict] at h1; simp only [PyData.canLay0] at h2; exact ⟨h1, h2⟩)
theorem E9.th {t : Addr} {H : Hp} {v : V} (h : E9 t H v) : T9 t H v := let ⟨d, q, r1, r2, r3, r4⟩ := h; ⟨d, q, r1, by omega, by omega, ndk_of r4⟩
theorem e9_non {t : Addr} {H : Hp} : E9 t H .non := ⟨.none, .non, rfl, by decide, by decide +kernel, by decide, by decide⟩
theorem e9_bl {t : Addr} {H : Hp} (b : Bool) : E9 t H (.bl b) := ⟨.bool b, .bl b, by simp only [PyData.showable], by simp only [PyData.depth]; omega, by cases b <;> decide +kernel, by simp only [PyData.hasDict], by simp only [PyData.canLay0]⟩
theorem e9_int {t : Addr} {H : Hp} {i : Int} (h : i.natAbs < 2 ^ 1000) : E9 t H (.int i) := ⟨.int i, .int i, (rp_int h).sh, by simp only [PyData.depth]; omega, by have := shown_int h; omega, by simp only [PyData.hasDict], by simp only [PyData.canLay0]⟩
theorem e9_str0 {t : Addr} {H : Hp} : E9 t H (.str "0") := ⟨.str "0", .str "0", by simp only [PyData.showable], by simp only [PyData.depth]; omega, by decide +kernel, by simp only [PyData.hasDict], by decide +kernel⟩
theorem t9_emp {t : Addr} {H : Hp} {a : Addr} (h : H a = some (.dK [])) (n : a ≠ t) : T9 t H (.ref a) := ⟨.dict [], .emp (by rw [mask_ne n]; exact h), by decide, by decide, by decide +kernel, trivial⟩
theorem e9s {t : Addr} {H : Hp} : ∀ {xs : List V}, (∀ x ∈ xs, E9 t H x) → ∃ ds, DqAll (mask t H) xs ds ∧ PyData.showableAll ds = true ∧ PyData.depthAll ds ≤ 1 ∧ (∀ d ∈ ds, d.shown.length ≤ 1100) ∧ PyData.hasDictAll ds = false ∧ PyData.canLayAll0 ds = true
  | [], _ => ⟨[], .nil, by simp only [PyData.showableAll], by simp only [PyData.depthAll]; omega, fun d hd => (List.not_mem_nil hd).elim, by simp only [PyData.hasDictAll], by simp only [PyData.canLayAll0]⟩
  | x :: xs, h => by
    obtain ⟨d, q, r1, r2, r3, r4, r5⟩ := h x List.mem_cons_self
    obtain ⟨ds, p1, p2, p3, p4, p5, p6⟩ := e9s (xs := xs) fun y hy => h y (List.mem_cons_of_mem _ hy)
    refine ⟨d :: ds, .cons q p1, by simp only [PyData.showableAll, r1, p2, Bool.and_self], by simp only [PyData.depthAll]; omega, fun e he => ?_, by simp only [PyData.hasDictAll, r4, p5, Bool.or_self], by simp only [PyData.canLayAll0, r5, p6, Bool.and_self]⟩
    rcases List.mem_cons.mp he with z | z
    · rw [z]
      exact r3
    · exact p4 e z
theorem t9_list {t : Addr} {H : Hp} {p : Addr} {xs : List V} (h : H p = some (.lst xs)) (n : p ≠ t) (hl : xs.length ≤ 200) (hx : ∀ x ∈ xs, E9 t H x) : T9 t H (.ref p) := by
  obtain ⟨ds, p1, p2, p3, p4, p5⟩ := e9s hx
  have e := p1.length
  refine ⟨.list ds, .lst (by rw [mask_ne n]; exact h) p1, by simp only [PyData.showable, p2], by simp only [PyData.depth]; omega, ?_, p5⟩
  have := shown_list p4
  omega
theorem t9_tuple {t : Addr} {H : Hp} {p : Addr} {xs : List V} (h : H p = some (.tup xs)) (n : p ≠ t) (hl : xs.length ≤ 200) (hx : ∀ x ∈ xs, E9 t H x) : T9 t H (.ref p) := by
  obtain ⟨ds, p1, p2, p3, p4, p5⟩ := e9s hx
  have e := p1.length
  refine ⟨.tuple ds, .tup (by rw [mask_ne n]; exact h) p1, by simp only [PyData.showable, p2], by simp only [PyData.depth]; omega, ?_, trivial⟩
  have := shown_tuple p4
  omega
theorem e9_ints {t : Addr} {H : Hp} {ns : List Int} (h : ∀ n ∈ ns, n.natAbs < 2 ^ 1000) : ∀ x ∈ ns.map V.int, E9 t H x := fun x hx => by
  obtain ⟨m, hm, rfl⟩ := List.mem_map.mp hx
  exact e9_int (h m hm)
theorem t9_ints {t : Addr} {H : Hp} {p : Addr} {ns : List Int} (h : H p = some (.lst (ns.map V.int))) (n : p ≠ t) (hl : ns.length ≤ 200) (hx : ∀ n ∈ ns, n.natAbs < 2 ^ 1000) : T9 t H (.ref p) :=
  t9_list h n (by rw [List.length_map]; exact hl) (e9_ints hx)
theorem t9_rep {t : Addr} {H : Hp} {p : Addr} {k : Nat} {v : Int} (h : H p = some (.lst (List.replicate k [V.int v]).flatten)) (n : p ≠ t) (hl : k ≤ 200) (hv : v.natAbs < 2 ^ 1000) : T9 t H (.ref p) := by
  rw [rep_one] at h
  exact t9_ints h n (by rw [List.length_replicate]; exact hl) fun m hm => by rw [(List.mem_replicate.mp hm).2]; exact hv
theorem rep_any (v : V) : ∀ k : Nat, (List.replicate k [v]).flatten = List.replicate k v
  | 0 => rfl
  | k + 1 => by
    rw [List.replicate_succ, List.replicate_succ, List.flatten_cons, rep_any v k]
    rfl
/-- [ints] -/
theorem t9_one {t : Addr} {H : Hp} {p b : Addr} {ns : List Int} (h : H p = some (.lst [.ref b])) (n : p ≠ t) (hb : H b = some (.lst (ns.map V.int))) (nb : b ≠ t) (hl : ns.length ≤ 40) (hx : ∀ n ∈ ns, n.natAbs < 2 ^ 1000) : T9 t H (.ref p) := by
  obtain ⟨ds, p1, p2, p3, p4, p5, p6⟩ := e9s (t := t) (H := H) (xs := ns.map V.int) fun x hxx => by
    obtain ⟨m, hm, rfl⟩ := List.mem_map.mp hxx
    exact e9_int (hx m hm)
  have e := p1.length
  rw [List.length_map] at e
  have z := shown_list p4
  refine ⟨.list [.list ds], .lst (by rw [mask_ne n]; exact h) (.cons (.lst (by rw [mask_ne nb]; exact hb) p1) .nil), by simp only [PyData.showable, PyData.showableAll, p2, Bool.and_self], by simp only [PyData.depth, PyData.depthAll]; omega, ?_, by show PyData.hasDictAll [.list ds] = false ∧ PyData.canLayAll0 [.list ds] = true; simp only [PyData.hasDictAll, PyData.hasDict, p5, Bool.or_self, PyData.canLayAll0, PyData.canLay0, p6, Bool.and_self, and_self]⟩
  have z2 := shown_list (B := 1102 * 40 + 3) (ds := [.list ds]) fun d hd => by
    rw [List.mem_singleton.mp hd]
    omega
  exact Nat.le_trans z2 (by show (1102 * 40 + 3 + 2) * 1 + 3 ≤ 300000; decide)
/-- [0], (0,) as items -/
theorem e9_list0 {t : Addr} {H : Hp} {p : Addr} (h : H p = some (.lst [.int 0])) (n : p ≠ t) : E9 t H (.ref p) := ⟨.list [.int 0], .lst (by rw [mask_ne n]; exact h) (.cons (.int 0) .nil), by decide, by decide, by decide +kernel, by decide, by decide⟩
theorem e9_tup0 {t : Addr} {H : Hp} {p : Addr} (h : H p = some (.tup [.int 0])) (n : p ≠ t) : E9 t H (.ref p) := ⟨.tuple [.int 0], .tup (by rw [mask_ne n]; exact h) (.cons (.int 0) .nil), by decide, by decide, by decide +kernel, by decide, by decide⟩
/-! ### two that change -/
def But2 (t f : Addr) (H H' : Hp) : Prop := ∀ b o, H b = some o → b ≠ t → b ≠ f → H' b = some o
theorem but2_mask {t f : Addr} {H H' : Hp} (u : But2 t f H H') : But t (mask f H) (mask f H') := fun b o e n => by
  unfold mask at e ⊢
  split at e
  · cases e
  · rename_i nf
    rw [if_neg nf]
    exact u b o e n nf
theorem but_mask {t f : Addr} {H H' : Hp} (u : But t H H') : But t (mask f H) (mask f H') := but2_mask fun b o e n _ => u b o e n
theorem mask_in {t f : Addr} {H H' : Hp} (u : But t H H') (h : H f = none) : But t H (mask f H') := fun b o e n => by
  have : b ≠ f := ne_of_none e h
  rw [mask_ne this]
  exact u b o e n
theorem T9.out {t f : Addr} {H : Hp} {v : V} (h : T9 t (mask f H) v) : T9 t H v := h.but (But.of (mask_same f H))
theorem cut_takeV (xs : List V) (s : Int) (h0 : 0 ≤ s) : cutV xs none (some s) = xs.take s.toNat := by
  obtain ⟨k, rfl⟩ : ∃ k : Nat, s = (k : Int) := ⟨s.toNat, by omega⟩
  unfold cutV
  rw [HT.sIx_none, HT.sIx_nat, Int.toNat_natCast, List.drop_zero, Nat.sub_zero]
  rcases Nat.le_total k xs.length with z | z
  · rw [Nat.min_eq_left z]
  · rw [Nat.min_eq_right z, List.take_of_length_le (Nat.le_refl _), List.take_of_length_le z]
theorem cut_memV {xs : List V} {lo hi : Option Int} {x : V} (h : x ∈ cutV xs lo hi) : x ∈ xs := List.mem_of_mem_drop (List.mem_of_mem_take h)
/-! ### from told data to what is compared -/
mutual
theorem Dq.dp {K : PySem.W.Frag} {H : Hp} : ∀ {v : V} {d : PyData}, Dq H v d → d.hasDict = false → Dp K H v d
  | _, _, .non, _ => .non
  | _, _, .bl b, _ => .bl b
  | _, _, .int i, _ => .int i
  | _, _, .str x, _ => .str x
  | _, _, .lst h1 h2, n => .lst (SqL.of h1) (DqAll.dp h2 (by simp only [PyData.hasDict] at n; exact n))
  | _, _, .tup h1 h2, n => .tup (SqT.of h1) (DqAll.dp h2 (by simp only [PyData.hasDict] at n; exact n))
  | _, _, .emp _, n => by
    simp only [PyData.hasDict] at n
    cases n
theorem DqAll.dp {K : PySem.W.Frag} {H : Hp} : ∀ {vs : List V} {ds : List PyData}, DqAll H vs ds → PyData.hasDictAll ds = false → DpAll K H vs ds
  | _, _, .nil, _ => .nil
  | _, _, .cons h1 h2, n => by
    simp only [PyData.hasDictAll, Bool.or_eq_false_iff] at n
    exact .cons (Dq.dp h1 n.1) (DqAll.dp h2 n.2)
end
theorem eqv_nil (ds : List PyData) : PyData.eqv (.list ds) (.list []) = ds.isEmpty := by cases ds <;> rfl
/-! ### bounds -/
theorem subI_ab {b : Nat} {low : List Int} {f : Int} {s : Nat} (hU : Unt low) (hf : f.natAbs < 2 ^ b) : ∀ (j : Nat) {l : List Int}, Ab b l → Ab (b + 1) (subI low f s j l)
  | 0, l, h => h.mono (Nat.le_succ b)
  | j + 1, l, h => fun n hn => by
    rw [subI] at hn
    rcases List.mem_or_eq_of_mem_set hn with z | z
    · exact subI_ab hU hf j h n z
    · have h1 : ((subI low f s j l).getD (s + j) 0).natAbs < 2 ^ b := by
        rw [List.getD_eq_getElem?_getD, subI_get low f s j l (s + j) (Nat.le_refl _)]
        cases e : l[s + j]? with
        | none => exact Nat.pos_of_ne_zero (by have := Nat.one_le_two_pow (n := b); omega)
        | some x => exact h x (List.mem_of_getElem? e)
      have h2 : (f * low.getD j 0).natAbs < 2 ^ b := by
        rw [List.getD_eq_getElem?_getD]
        cases e : low[j]? with
        | none =>
          show (f * 0).natAbs < 2 ^ b
          rw [Int.mul_zero]
          exact Nat.lt_of_le_of_lt (Nat.zero_le _) hf
        | some x =>
          have hx := hU x (List.mem_of_getElem? e)
          have : x = -1 ∨ x = 0 ∨ x = 1 := by omega
          show (f * x).natAbs < 2 ^ b
          rcases this with rfl | rfl | rfl <;> omega
      rw [Nat.pow_succ]
      omega
theorem divN_ab {low : List Int} (hU : Unt low) : ∀ (k b : Nat) {l : List Int}, Ab b l → Ab (b + k) (divN low k l)
  | 0, _, _, h => h
  | k + 1, b, l, h => by
    rw [divN]
    have hf : (l.getD (low.length - 1 + k) 0).natAbs < 2 ^ b := by
      rw [List.getD_eq_getElem?_getD]
      cases e : l[low.length - 1 + k]? with
      | none => exact Nat.pos_of_ne_zero (by have := Nat.one_le_two_pow (n := b); omega)
      | some x => exact h x (List.mem_of_getElem? e)
    have := divN_ab hU k (b + 1) (subI_ab hU hf (low.length - 1) (s := k) h)
    rw [show b + (k + 1) = b + 1 + k by omega]
    exact this
theorem quo_ab {low l : List Int} (hU : Unt low) {b : Nat} (h : Ab b l) : Ab (b + l.length) (quo low l) := fun n hn => by
  have := divN_ab hU (l.length - (low.length - 1)) b h n (List.mem_of_mem_drop hn)
  exact Nat.lt_of_lt_of_le this (pow_up (by omega))
theorem divs_few : ∀ n, n < 41 → (divs n n).length ≤ 9 := by decide +kernel
theorem foldq_ab {n : Nat} : ∀ (ds : List Nat) (a : List Int) (b : Nat), (∀ d ∈ ds, 1 ≤ d ∧ d ≤ 40) → a.length ≤ n + 1 → Ab b a → Ab (b + (n + 1) * ds.length) (ds.foldl (fun a d => quo (cyc d) a) a)
  | [], a, b, _, _, h => h
  | d :: ds, a, b, hd, hl, h => by
    have h1 := hd d List.mem_cons_self
    rw [List.foldl_cons]
    have h2 := quo_ab (cyc_unt h1.1 h1.2) h
    have := foldq_ab (n := n) ds (quo (cyc d) a) (b + (n + 1)) (fun x hx => hd x (List.mem_cons_of_mem _ hx)) (by rw [quo_len]; omega) (h2.mono (by omega))
    rw [List.length_cons, Nat.mul_succ]
    rw [show b + ((n + 1) * ds.length + (n + 1)) = b + (n + 1) + (n + 1) * ds.length by omega]
    exact this
theorem xn1_ab (n : Nat) : Ab 1 (xn1 n) := fun x hx => by
  unfold xn1 at hx
  rcases List.mem_append.mp hx with h | h
  · rcases List.mem_append.mp h with h | h
    · rw [List.mem_singleton.mp h]
      decide
    · rw [(List.mem_replicate.mp h).2]
      decide
  · rw [List.mem_singleton.mp h]
    decide
theorem hidQ_ab {ns : List Int} (l1 : 1 ≤ ns.length) (h : ns.length ≤ 40) : Ab 400 (hidQ ns) := by
  have h1 := foldq_ab (n := ns.length) (blindL ns) (xn1 ns.length) 1 (fun d hd => by have := blind_mem hd; omega) (by rw [xn1_len l1]; exact Nat.le_refl _) (xn1_ab _)
  have h2 : (blindL ns).length ≤ 9 := Nat.le_trans (List.length_filter_le _ _) (divs_few _ (by omega))
  have h3 : (ns.length + 1) * (blindL ns).length ≤ 41 * 9 := Nat.mul_le_mul (by omega) h2
  exact Ab.mono h1 (by omega)
end Sd

namespace Sd
open PySem PySem.Spec PyProof.Rows L2

/-! ### polynomials that act on sequences -/
abbrev Sq := Int → Int
def act : List Int → Sq → Sq
  | [], _, _ => 0
  | a :: p, s, i => a * s i + act p s (i + 1)
theorem act_congr {s t : Sq} : ∀ {p : List Int} {i i' : Int}, (∀ j : Nat, j < p.length → s (i + j) = t (i' + j)) → act p s i = act p t i'
  | [], _, _, _ => rfl
  | a :: p, i, i', h => by
    have h0 := h 0 (Nat.succ_pos _)
    have e0 : s i = t i' := by
      have : s (i + ((0 : Nat) : Int)) = t (i' + ((0 : Nat) : Int)) := h0
      rw [show i + ((0 : Nat) : Int) = i by omega, show i' + ((0 : Nat) : Int) = i' by omega] at this
      exact this
    have ih := act_congr (s := s) (t := t) (p := p) (i := i + 1) (i' := i' + 1) fun j hj => by
      have := h (j + 1) (Nat.succ_lt_succ hj)
      rw [show i + ((j + 1 : Nat) : Int) = i + 1 + (j : Int) by omega, show i' + ((j + 1 : Nat) : Int) = i' + 1 + (j : Int) by omega] at this
      exact this
    rw [act, act, e0, ih]
theorem act_shift (p : List Int) (s : Sq) (c i : Int) : act p (fun k => s (k + c)) i = act p s (i + c) :=
  act_congr fun j _ => by show s (i + j + c) = s (i + c + j); rw [show i + (j : Int) + c = i + c + j by omega]
theorem act_add : ∀ (p : List Int) (s t : Sq) (i : Int), act p (fun k => s k + t k) i = act p s i + act p t i
  | [], _, _, _ => rfl
  | a :: p, s, t, i => by
    rw [act, act, act, act_add p s t, Int.mul_add]
    omega
theorem act_mul : ∀ (p : List Int) (c : Int) (s : Sq) (i : Int), act p (fun k => c * s k) i = c * act p s i
  | [], c, _, _ => (Int.mul_zero c).symm
  | a :: p, c, s, i => by
    rw [act, act, act_mul p c s, Int.mul_add, ← Int.mul_assoc, ← Int.mul_assoc, Int.mul_comm a c]
theorem act_zero (p : List Int) (i : Int) : act p (fun _ => 0) i = 0 := by
  have := act_mul p 0 (fun _ => 0) i
  exact (by simpa using this)
theorem act_null {p : List Int} {s : Sq} (h : ∀ i, s i = 0) (i : Int) : act p s i = 0 := by
  rw [show s = fun _ => 0 from funext h]
  exact act_zero p i
theorem act_comm : ∀ (p q : List Int) (s : Sq) (i : Int), act p (act q s) i = act q (act p s) i
  | [], q, s, i => by
    have e : act [] s = fun _ => 0 := rfl
    rw [e, act_zero]
    rfl
  | a :: p, q, s, i => by
    have e : act (a :: p) s = fun k => a * s k + act p s (k + 1) := rfl
    rw [e, act_add q (fun k => a * s k) (fun k => act p s (k + 1)), act_mul, act_shift, ← act_comm p q s (i + 1)]
    rfl
theorem act_append : ∀ (p q : List Int) (s : Sq) (i : Int), act (p ++ q) s i = act p s i + act q s (i + p.length)
  | [], q, s, i => by
    show act q s i = 0 + act q s (i + ((0 : Nat) : Int))
    rw [Int.zero_add, show i + ((0 : Nat) : Int) = i by omega]
  | a :: p, q, s, i => by
    rw [List.cons_append, act, act, act_append p q s, List.length_cons, show i + 1 + (p.length : Int) = i + ((p.length + 1 : Nat) : Int) by omega]
    omega
theorem act_zeros (s : Sq) : ∀ (k : Nat) (i : Int), act (List.replicate k 0) s i = 0
  | 0, _ => rfl
  | k + 1, i => by
    rw [List.replicate_succ, act, act_zeros s k, Int.zero_mul, Int.zero_add]
theorem act_set : ∀ (p : List Int) (m : Nat) (v : Int) (s : Sq) (i : Int), m < p.length → act (p.set m v) s i = act p s i + (v - p.getD m 0) * s (i + m)
  | [], _, _, _, _, h => absurd h (Nat.not_lt_zero _)
  | a :: p, 0, v, s, i, _ => by
    show v * s i + act p s (i + 1) = a * s i + act p s (i + 1) + (v - a) * s (i + ((0 : Nat) : Int))
    rw [show i + ((0 : Nat) : Int) = i by omega, Int.sub_mul]
    omega
  | a :: p, m + 1, v, s, i, h => by
    have ih := act_set p m v s (i + 1) (Nat.lt_of_succ_lt_succ h)
    show a * s i + act (p.set m v) s (i + 1) = a * s i + act p s (i + 1) + (v - p.getD m 0) * s (i + ((m + 1 : Nat) : Int))
    rw [ih, show i + 1 + (m : Int) = i + ((m + 1 : Nat) : Int) by omega]
    omega
/-! ### division -/
theorem subI_take {low : List Int} {f : Int} {s n : Nat} : ∀ (j : Nat) (l : List Int), s + j ≤ n → n ≤ l.length → (subI low f s j l).take n = subI low f s j (l.take n)
  | 0, _, _, _ => rfl
  | j + 1, l, h, hn => by
    rw [subI, subI, List.take_set, subI_take j l (by omega) hn]
    congr 2
    rw [← subI_take j l (by omega) hn, List.getD_eq_getElem?_getD, List.getD_eq_getElem?_getD, List.getElem?_take_of_lt (by omega)]
theorem act_subI {low : List Int} {f : Int} {k : Nat} (s : Sq) (i : Int) : ∀ (j : Nat) (l : List Int), j ≤ low.length → k + j ≤ l.length → act (subI low f k j l) s i = act l s i - f * act (low.take j) s (i + k)
  | 0, l, _, _ => by
    show act l s i = act l s i - f * 0
    rw [Int.mul_zero, Int.sub_zero]
  | j + 1, l, h, hl => by
    obtain ⟨c, hc⟩ : ∃ c, low[j]? = some c := ⟨_, List.getElem?_eq_getElem (by omega)⟩
    rw [subI, act_set _ _ _ _ _ (by rw [subI_len]; omega), act_subI s i j l (by omega) (by omega), List.take_add_one, hc, getD_at hc]
    show _ = act l s i - f * act (low.take j ++ [c]) s (i + k)
    rw [act_append, List.length_take, show min j low.length = j by omega]
    show _ = act l s i - f * (act (low.take j) s (i + k) + (c * s (i + k + j) + 0))
    rw [show i + (k : Int) + (j : Int) = i + ((k + j : Nat) : Int) by omega, Int.mul_add, Int.add_zero, ← Int.mul_assoc]
    have : ((subI low f k j l).getD (k + j) 0 - f * c - (subI low f k j l).getD (k + j) 0) * s (i + ((k + j : Nat) : Int)) = -(f * c * s (i + ((k + j : Nat) : Int))) := by
      rw [show (subI low f k j l).getD (k + j) 0 - f * c - (subI low f k j l).getD (k + j) 0 = -(f * c) by omega, Int.neg_mul]
    rw [this]
    omega
theorem divN_get (low : List Int) : ∀ (k : Nat) (l : List Int) (i : Nat), low.length - 1 + k ≤ i → (divN low k l)[i]? = l[i]?
  | 0, _, _, _ => rfl
  | k + 1, l, i, h => by
    rw [divN, divN_get low k _ i (by omega), subI_get low _ _ _ l i (by omega)]
/-- the highest coefficient is 1 -/
def Mon (low : List Int) : Prop := ∃ p, low = p ++ [1]
theorem Mon.len {low : List Int} (h : Mon low) : low.take (low.length - 1) ++ [1] = low := by
  obtain ⟨p, rfl⟩ := h
  rw [List.length_append]
  show (p ++ [1]).take (p.length + 1 - 1) ++ [1] = p ++ [1]
  rw [Nat.add_sub_cancel, List.take_left]
theorem act_divN {low : List Int} (hM : Mon low) (s : Sq) (i : Int) : ∀ (k : Nat) (l : List Int), low.length - 1 + k ≤ l.length →
    act (l.take (low.length - 1 + k)) s i = act ((divN low k l).take (low.length - 1)) s i + act (((divN low k l).drop (low.length - 1)).take k) (act low s) i
  | 0, l, _ => by
    show act (l.take (low.length - 1)) s i = act (l.take (low.length - 1)) s i + act ((l.drop (low.length - 1)).take 0) (act low s) i
    rw [List.take_zero]
    show _ = _ + 0
    rw [Int.add_zero]
  | k + 1, l, hl => by
    have hl1 : 1 ≤ low.length := by
      obtain ⟨p, rfl⟩ := hM
      rw [List.length_append]
      show 1 ≤ p.length + 1
      omega
    obtain ⟨f, hf⟩ : ∃ f, l[low.length - 1 + k]? = some f := ⟨_, List.getElem?_eq_getElem (by omega)⟩
    have hf' : l.getD (low.length - 1 + k) 0 = f := getD_at hf
    have ih := act_divN hM s i k (subI low f k (low.length - 1) l) (by rw [subI_len]; omega)
    have e1 : l.take (low.length - 1 + (k + 1)) = l.take (low.length - 1 + k) ++ [f] := by
      rw [← Nat.add_assoc, List.take_add_one, hf]
      rfl
    have hlt : (l.take (low.length - 1 + k)).length = low.length - 1 + k := by rw [List.length_take]; omega
    rw [subI_take (n := low.length - 1 + k) _ _ (by omega) (by omega), act_subI s i (low.length - 1) _ (by omega) (by omega)] at ih
    rw [divN, hf']
    have hg : (divN low k (subI low f k (low.length - 1) l))[low.length - 1 + k]? = some f := by
      rw [divN_get low k _ _ (Nat.le_refl _), subI_get low f k _ l _ (by omega)]
      exact hf
    have e2 : ((divN low k (subI low f k (low.length - 1) l)).drop (low.length - 1)).take (k + 1) = ((divN low k (subI low f k (low.length - 1) l)).drop (low.length - 1)).take k ++ [f] := by
      rw [List.take_add_one, List.getElem?_drop, hg]
      rfl
    have hlk : (((divN low k (subI low f k (low.length - 1) l)).drop (low.length - 1)).take k).length = k := by
      rw [List.length_take, List.length_drop, divN_len, subI_len]
      omega
    have em : act low s (i + k) = act (low.take (low.length - 1)) s (i + k) + s (i + k + (low.length - 1 : Nat)) := by
      have := act_append (low.take (low.length - 1)) [1] s (i + k)
      rw [hM.len, List.length_take, show min (low.length - 1) low.length = low.length - 1 by omega] at this
      rw [this]
      show _ + (1 * s _ + 0) = _
      rw [Int.one_mul, Int.add_zero]
    rw [e1, act_append, hlt, e2, act_append, hlk]
    show act (l.take (low.length - 1 + k)) s i + (f * s (i + ((low.length - 1 + k : Nat) : Int)) + 0) = _ + (_ + (f * act low s (i + k) + 0))
    rw [em, Int.mul_add, show i + ((low.length - 1 + k : Nat) : Int) = i + (k : Int) + ((low.length - 1 : Nat) : Int) by omega]
    omega
theorem act_div {low : List Int} (hM : Mon low) (l : List Int) (s : Sq) (i : Int) : act l s i = act (rst low l) s i + act (quo low l) (act low s) i := by
  by_cases c : low.length - 1 ≤ l.length
  · have := act_divN hM s i (l.length - (low.length - 1)) l (by omega)
    rw [List.take_of_length_le (by omega)] at this
    rw [this]
    unfold rst quo divL
    rw [List.take_of_length_le (i := l.length - (low.length - 1)) (by rw [List.length_drop, divN_len]; exact Nat.le_refl _)]
  · unfold rst quo divL
    rw [show l.length - (low.length - 1) = 0 by omega]
    show act l s i = act (l.take (low.length - 1)) s i + act (l.drop (low.length - 1)) (act low s) i
    rw [List.take_of_length_le (by omega), List.drop_of_length_le (by omega)]
    show _ = _ + 0
    rw [Int.add_zero]
theorem act_all0 {p : List Int} (h : (p.all fun x => decide (x = 0)) = true) (s : Sq) (i : Int) : act p s i = 0 := by
  have e : p = List.replicate p.length 0 := List.eq_replicate_iff.mpr ⟨rfl, fun b hb => of_decide_eq_true (List.all_eq_true.mp h b hb)⟩
  rw [e]
  exact act_zeros s _ i
theorem act_exact {low l : List Int} (hM : Mon low) (h : ((rst low l).all fun x => decide (x = 0)) = true) (s : Sq) (i : Int) : act l s i = act (quo low l) (act low s) i := by
  rw [act_div hM, act_all0 h, Int.zero_add]
end Sd

namespace Sd
open PySem PySem.Spec PyProof.Rows L2

/-! ### facts of C(1) to C(40) -/
theorem cyc_mon0 : ∀ p, p < 41 → 1 ≤ p → (cyc p).getLast? = some 1 := by decide +kernel
theorem cyc_mon {p : Nat} (h1 : 1 ≤ p) (h : p ≤ 40) : Mon (cyc p) := by
  have := cyc_mon0 p (by omega) h1
  obtain ⟨q, hq⟩ := List.getLast?_eq_some_iff.mp this
  exact ⟨q, hq⟩
def all0 (l : List Int) : Bool := l.all fun x => decide (x = 0)
theorem cyc_xn0 : ∀ p, p < 41 → 1 ≤ p → all0 (rst (cyc p) (xn1 p)) = true := by decide +kernel
def phi (g : Nat) : Nat → List Int
  | 0 => [1]
  | k + 1 => (1 :: List.replicate (g - 1) 0) ++ phi g k
theorem cyc_phi0 : ∀ d, d < 41 → ∀ g, g < d → 1 ≤ g → d % g = 0 → all0 (rst (cyc d) (phi g (d / g - 1))) = true := by decide +kernel
def chain : List Nat → List Int → Bool
  | [], a => decide (a = [1])
  | d :: ds, a => all0 (rst (cyc d) a) && chain ds (quo (cyc d) a)
theorem chain0 : ∀ n, n < 41 → 1 ≤ n → chain (divs n n) (xn1 n) = true := by decide +kernel
end Sd

namespace Sd
open PySem PySem.Spec PyProof.Rows L2

/-! ### many act one behind the other -/
def acts : List Nat → Sq → Sq
  | [], s => s
  | d :: ds, s => acts ds (act (cyc d) s)
theorem acts_congr {s t : Sq} (h : ∀ i, s i = t i) (ds : List Nat) (i : Int) : acts ds s i = acts ds t i := by rw [show s = t from funext h]
theorem acts_act : ∀ (ds : List Nat) (p : List Int) (s : Sq) (i : Int), acts ds (act p s) i = act p (acts ds s) i
  | [], _, _, _ => rfl
  | d :: ds, p, s, i => by
    rw [acts, acts, acts_congr (t := act p (act (cyc d) s)) (fun k => act_comm (cyc d) p s k), acts_act ds p]
theorem acts_null {s : Sq} (h : ∀ i, s i = 0) : ∀ (ds : List Nat) (i : Int), acts ds s i = 0
  | [], i => h i
  | d :: ds, i => acts_null (s := act (cyc d) s) (act_null h) ds i
theorem acts_filter (p : Nat → Bool) : ∀ (ds : List Nat) (s : Sq) (i : Int), acts ds s i = acts (ds.filter p) (acts (ds.filter fun d => !p d) s) i
  | [], _, _ => rfl
  | d :: ds, s, i => by
    rw [acts, acts_filter p ds, List.filter_cons, List.filter_cons]
    cases h : p d with
    | true =>
      rw [if_pos rfl, if_neg (by decide), acts]
      exact acts_congr (fun k => acts_act _ _ _ _) _ _
    | false =>
      rw [if_neg (by decide), if_pos (by decide), acts]
theorem xn1_act {n : Nat} (h : 1 ≤ n) (s : Sq) (i : Int) : act (xn1 n) s i = s (i + n) - s i := by
  unfold xn1
  rw [act_append, act_append, act_zeros, List.length_append, List.length_replicate]
  show -1 * s i + 0 + 0 + (1 * s (i + ((1 + (n - 1) : Nat) : Int)) + 0) = _
  rw [show ((1 + (n - 1) : Nat) : Int) = (n : Int) by omega, Int.one_mul]
  omega
theorem chain_act : ∀ {ds : List Nat} {a : List Int}, (∀ d ∈ ds, 1 ≤ d ∧ d ≤ 40) → chain ds a = true → ∀ (s : Sq) (i : Int), act a s i = acts ds s i
  | [], a, _, h, s, i => by
    have e : a = [1] := of_decide_eq_true h
    rw [e]
    show 1 * s i + 0 = s i
    omega
  | d :: ds, a, hd, h, s, i => by
    have h' := (Bool.and_eq_true _ _).mp h
    have h1 := hd d List.mem_cons_self
    rw [act_exact (cyc_mon h1.1 h1.2) h'.1, chain_act (fun x hx => hd x (List.mem_cons_of_mem _ hx)) h'.2]
    rfl
theorem all_act {n : Nat} (h1 : 1 ≤ n) (h : n ≤ 40) (s : Sq) (i : Int) : acts (divs n n) s i = s (i + n) - s i := by
  rw [← chain_act (a := xn1 n) (fun d hd => by have := divs_mem.mp hd; omega) (chain0 n (by omega) h1), xn1_act h1]
/-! ### what two different ones both kill is 0 -/
def PerS (w : Sq) (d : Nat) : Prop := ∀ i, w (i + d) = w i
theorem PerS.mul {w : Sq} {d : Nat} (h : PerS w d) : ∀ (k : Nat) (i : Int), w (i + ((k * d : Nat) : Int)) = w i
  | 0, i => by rw [Nat.zero_mul, show i + ((0 : Nat) : Int) = i by omega]
  | k + 1, i => by
    rw [Nat.succ_mul, show i + ((k * d + d : Nat) : Int) = i + ((k * d : Nat) : Int) + (d : Int) by omega, h, h.mul k]
theorem PerS.mod {w : Sq} {d e : Nat} (hd : PerS w d) (he : PerS w e) : PerS w (e % d) := fun i => by
  have h1 := hd.mul (e / d) (i + ((e % d : Nat) : Int))
  have h2 : i + ((e % d : Nat) : Int) + ((e / d * d : Nat) : Int) = i + (e : Int) := by
    have := Nat.mod_add_div e d
    rw [Nat.mul_comm] at this
    omega
  rw [h2, he] at h1
  exact h1.symm
theorem PerS.gcd {w : Sq} (d e : Nat) : PerS w d → PerS w e → PerS w (Nat.gcd d e) := by
  induction d, e using Nat.gcd.induction with
  | H0 e => intro _ he; rw [Nat.gcd_zero_left]; exact he
  | H1 d e _ ih => intro hd he; rw [Nat.gcd_rec]; exact ih (hd.mod he) hd
theorem phi_act {w : Sq} {g : Nat} (h1 : 1 ≤ g) (h : PerS w g) : ∀ (k : Nat) (i : Int), act (phi g k) w i = ((k : Int) + 1) * w i
  | 0, i => by
    show 1 * w i + 0 = ((0 : Nat) + 1 : Int) * w i
    rw [show (((0 : Nat) : Int) + 1) = 1 by omega, Int.add_zero]
  | k + 1, i => by
    rw [phi, act_append, List.length_cons, List.length_replicate, phi_act h1 h k]
    rw [show i + ((g - 1 + 1 : Nat) : Int) = i + (g : Int) by omega, h i]
    show 1 * w i + act (List.replicate (g - 1) 0) w (i + 1) + ((k : Int) + 1) * w i = (((k + 1 : Nat) : Int) + 1) * w i
    rw [act_zeros, show (((k + 1 : Nat) : Int) + 1) = 1 + ((k : Int) + 1) by omega, Int.add_mul 1]
    omega
theorem cyc_per {w : Sq} {d : Nat} (h1 : 1 ≤ d) (h : d ≤ 40) (hw : ∀ i, act (cyc d) w i = 0) : PerS w d := fun i => by
  have e := act_exact (cyc_mon h1 h) (cyc_xn0 d (by omega) h1) w i
  rw [act_null hw, xn1_act h1] at e
  omega
theorem cyc_low {w : Sq} {d g : Nat} (h : d ≤ 40) (hg : g < d) (hg1 : 1 ≤ g) (hz : d % g = 0) (hw : ∀ i, act (cyc d) w i = 0) (hp : PerS w g) (i : Int) : w i = 0 := by
  have e := act_exact (cyc_mon (by omega) h) (cyc_phi0 d (by omega) g hg hg1 hz) w i
  rw [act_null hw, phi_act hg1 hp] at e
  have : 0 < d / g := Nat.div_pos (by omega) hg1
  rcases Int.mul_eq_zero.mp e with z | z
  · omega
  · exact z
theorem two_kill {w : Sq} {d e : Nat} (d1 : 1 ≤ d) (d40 : d ≤ 40) (e1 : 1 ≤ e) (e40 : e ≤ 40) (ne : d ≠ e) (hd : ∀ i, act (cyc d) w i = 0) (he : ∀ i, act (cyc e) w i = 0) (i : Int) : w i = 0 := by
  have hg := PerS.gcd d e (cyc_per d1 d40 hd) (cyc_per e1 e40 he)
  have g1 : 1 ≤ Nat.gcd d e := Nat.gcd_pos_of_pos_left e d1
  have gd := Nat.gcd_dvd_left d e
  have ge := Nat.gcd_dvd_right d e
  by_cases c : Nat.gcd d e < d
  · exact cyc_low d40 c g1 (Nat.mod_eq_zero_of_dvd gd) hd hg i
  · have hd' : Nat.gcd d e = d := Nat.le_antisymm (Nat.le_of_dvd d1 gd) (by omega)
    rw [hd'] at ge hg
    have : d ≤ e := Nat.le_of_dvd e1 ge
    exact cyc_low e40 (by omega) d1 (Nat.mod_eq_zero_of_dvd ge) he hg i
theorem peel {d : Nat} (d1 : 1 ≤ d) (d40 : d ≤ 40) : ∀ {T : List Nat} {w : Sq}, (∀ e ∈ T, e ≠ d ∧ 1 ≤ e ∧ e ≤ 40) → (∀ i, act (cyc d) w i = 0) → (∀ i, acts T w i = 0) → ∀ i, w i = 0
  | [], _, _, _, h, i => h i
  | e :: T, w, ht, hd, h, i => by
    obtain ⟨h1, h2, h3⟩ := ht e List.mem_cons_self
    have hw1 : ∀ k, act (cyc e) w k = 0 := peel d1 d40 (T := T) (w := act (cyc e) w) (fun x hx => ht x (List.mem_cons_of_mem _ hx)) (fun k => by rw [act_comm, act_null hd]) h
    exact two_kill d1 d40 h2 h3 (fun z => h1 z.symm) hd hw1 i
theorem divs_one {n : Nat} : ∀ {k d : Nat}, d ∈ divs n k → (divs n k).filter (fun e => decide (e = d)) = [d]
  | 0, d, h => by
    rw [divs] at h
    exact (List.not_mem_nil h).elim
  | k + 1, d, h => by
    rw [divs] at h ⊢
    by_cases c : n % (k + 1) = 0
    · rw [if_pos c] at h ⊢
      rw [List.filter_append]
      by_cases z : d = k + 1
      · subst z
        have e1 : (divs n k).filter (fun e => decide (e = k + 1)) = [] := List.filter_eq_nil_iff.mpr fun a ha => by
          have := (divs_mem.mp ha).2.1
          intro y
          have := of_decide_eq_true y
          omega
        rw [e1, List.filter_cons, if_pos (decide_eq_true rfl), List.filter_nil, List.nil_append]
      · have hm : d ∈ divs n k := by
          rcases List.mem_append.mp h with y | y
          · exact y
          · exact absurd (List.mem_singleton.mp y) z
        rw [divs_one hm, List.filter_cons, if_neg (by intro y; exact z (of_decide_eq_true y).symm), List.filter_nil, List.append_nil]
    · rw [if_neg c] at h ⊢
      exact divs_one h
/-- each of some kills what the others leave: the rest kill it -/
theorem kill {n : Nat} (n1 : 1 ≤ n) (n40 : n ≤ 40) {u : Sq} (hp : PerS u n) : ∀ (T : List Nat), (∀ d ∈ T, d ∈ divs n n ∧ ∀ i, acts ((divs n n).filter fun e => decide (e ≠ d)) u i = 0) → ∀ i, acts ((divs n n).filter fun e => decide (e ∉ T)) u i = 0
  | [], _, i => by
    have e : (divs n n).filter (fun e => decide (e ∉ ([] : List Nat))) = divs n n := List.filter_eq_self.mpr fun a _ => decide_eq_true (List.not_mem_nil)
    rw [e, all_act n1 n40, hp]
    omega
  | d :: T, h, i => by
    have hT := kill n1 n40 hp T fun x hx => h x (List.mem_cons_of_mem _ hx)
    obtain ⟨hd, hk⟩ := h d List.mem_cons_self
    have hd40 := divs_mem.mp hd
    by_cases c : d ∈ T
    · have e : (divs n n).filter (fun e => decide (e ∉ d :: T)) = (divs n n).filter (fun e => decide (e ∉ T)) := List.filter_congr fun a _ => decide_eq_decide.mpr ⟨fun y z => y (List.mem_cons_of_mem _ z), fun y z => by
        rcases List.mem_cons.mp z with w | w
        · subst w; exact y c
        · exact y w⟩
      rw [e]
      exact hT i
    · refine peel (d := d) hd40.1 (by omega) (T := (divs n n).filter fun e => decide (e ∈ T)) (w := acts ((divs n n).filter fun e => decide (e ∉ d :: T)) u) (fun e he => ?_) (fun k => ?_) (fun k => ?_) i
      · have h1 := List.mem_filter.mp he
        have h2 := of_decide_eq_true h1.2
        have h3 := divs_mem.mp h1.1
        exact ⟨fun z => c (by rw [← z]; exact h2), h3.1, by omega⟩
      · have h1 := acts_filter (fun e => decide (e ≠ d)) ((divs n n).filter fun e => decide (e ∉ T)) u k
        rw [hT k, List.filter_filter, List.filter_filter] at h1
        have e1 : (divs n n).filter (fun a => decide (a ≠ d) && decide (a ∉ T)) = (divs n n).filter fun e => decide (e ∉ d :: T) := List.filter_congr fun a _ => by
          rw [← Bool.decide_and]
          exact decide_eq_decide.mpr ⟨fun y z => by rcases List.mem_cons.mp z with w | w; exact y.1 w; exact y.2 w, fun y => ⟨fun z => y (by rw [z]; exact List.mem_cons_self), fun z => y (List.mem_cons_of_mem _ z)⟩⟩
        have e2 : (divs n n).filter (fun a => (!decide (a ≠ d)) && decide (a ∉ T)) = [d] := by
          rw [← divs_one hd]
          refine List.filter_congr fun a _ => ?_
          by_cases y : a = d
          · subst y
            rw [decide_eq_false (fun z => z rfl), decide_eq_true c, decide_eq_true rfl]
            rfl
          · rw [decide_eq_true y, decide_eq_false y]
            rfl
        rw [e1, e2] at h1
        have h2 : acts ((divs n n).filter fun e => decide (e ∉ d :: T)) (acts [d] u) k = act (cyc d) (acts ((divs n n).filter fun e => decide (e ∉ d :: T)) u) k := acts_act _ _ _ _
        rw [← h2]
        exact h1.symm
      · have h1 := acts_filter (fun e => decide (e ∈ T)) ((divs n n).filter fun e => decide (e ≠ d)) u k
        rw [hk k, List.filter_filter, List.filter_filter] at h1
        have e1 : (divs n n).filter (fun a => decide (a ∈ T) && decide (a ≠ d)) = (divs n n).filter fun e => decide (e ∈ T) := List.filter_congr fun a _ => by
          rw [← Bool.decide_and]
          exact decide_eq_decide.mpr ⟨fun y => y.1, fun y => ⟨y, fun z => c (by rw [← z]; exact y)⟩⟩
        have e2 : (divs n n).filter (fun a => (!decide (a ∈ T)) && decide (a ≠ d)) = (divs n n).filter fun e => decide (e ∉ d :: T) := List.filter_congr fun a _ => by
          rw [← decide_not, ← Bool.decide_and]
          exact decide_eq_decide.mpr ⟨fun y z => by rcases List.mem_cons.mp z with w | w; exact y.2 w; exact y.1 w, fun y => ⟨fun z => y (List.mem_cons_of_mem _ z), fun z => y (by rw [z]; exact List.mem_cons_self)⟩⟩
        rw [e1, e2] at h1
        exact h1.symm
/-! ### the disc as a sequence -/
def dlt (n : Nat) : Sq := fun i => if i % (n : Int) = 0 then 1 else 0
theorem dlt_per {n : Nat} : PerS (dlt n) n := fun i => by
  unfold dlt
  rw [Int.add_emod_right]
theorem act_dlt {n : Nat} (h1 : 1 ≤ n) : ∀ (p : List Int), p.length ≤ n → ∀ i : Int, act p (dlt n) i = p.getD (((-i) % (n : Int)).toNat) 0
  | [], _, i => by
    rw [List.getD_eq_getElem?_getD, List.getElem?_nil]
    rfl
  | a :: p, h, i => by
    rw [List.length_cons] at h
    rw [act, act_dlt h1 p (by omega)]
    have hm := mod_in (i := -i) (show 0 < n by omega)
    have hm2 := mod_in (i := -(i + 1)) (show 0 < n by omega)
    by_cases c : i % (n : Int) = 0
    · have e0 : (-i) % (n : Int) = 0 := Int.emod_eq_zero_of_dvd (Int.dvd_neg.mpr (Int.dvd_of_emod_eq_zero c))
      have e1 : (-(i + 1)) % (n : Int) = n - 1 := by
        have : (-(i + 1)) % (n : Int) = (((-i) % (n : Int)) + ((n : Int) - 1)) % (n : Int) := by
          rw [Int.emod_add_emod, show -i + ((n : Int) - 1) = -(i + 1) + (n : Int) by omega, Int.add_emod_right]
        rw [this, e0, Int.zero_add, Int.emod_eq_of_lt (by omega) (by omega)]
      rw [e0, e1]
      show a * dlt n i + p.getD ((n : Int) - 1).toNat 0 = a
      have e2 : p.getD ((n : Int) - 1).toNat 0 = 0 := by
        rw [List.getD_eq_getElem?_getD, List.getElem?_eq_none (by omega)]
        rfl
      rw [e2]
      unfold dlt
      rw [if_pos c]
      omega
    · have hpos : 0 < (-i) % (n : Int) := by
        rcases Int.lt_or_eq_of_le hm.1 with y | y
        · exact y
        · exact absurd (Int.emod_eq_zero_of_dvd (Int.dvd_neg.mp (Int.dvd_of_emod_eq_zero y.symm))) c
      have e1 : (-(i + 1)) % (n : Int) = (-i) % (n : Int) - 1 := by
        have : (-(i + 1)) % (n : Int) = (((-i) % (n : Int)) - 1) % (n : Int) := by
          rw [Int.emod_sub_emod, show -i - 1 = -(i + 1) by omega]
        rw [this, Int.emod_eq_of_lt (by omega) (by omega)]
      rw [e1]
      have e3 : ((-i) % (n : Int)).toNat = ((-i) % (n : Int) - 1).toNat + 1 := by omega
      rw [e3, List.getD_cons_succ]
      unfold dlt
      rw [if_neg c, Int.mul_zero, Int.zero_add]
/-- all that are not blind kill a disc, counted backwards -/
theorem blind_kill {ns : List Int} (l1 : 1 ≤ ns.length) (l40 : ns.length ≤ 40) (i : Int) : acts ((divs ns.length ns.length).filter fun e => decide (e ∉ blindL ns)) (act ns (dlt ns.length)) i = 0 := by
  refine kill l1 l40 (fun k => ?_) (blindL ns) (fun d hd => ⟨(List.mem_filter.mp hd).1, fun k => ?_⟩) i
  · have := act_shift ns (dlt ns.length) ns.length k
    rw [← this]
    exact act_congr fun j _ => dlt_per _
  · have hm := blind_mem hd
    have hb : blB ns d = true := (List.mem_filter.mp hd).2
    have e1 : act ns (dlt ns.length) = act (quo (cyc d) ns) (act (cyc d) (dlt ns.length)) := funext fun m => act_exact (cyc_mon hm.1 (by omega)) hb _ m
    rw [e1, acts_act]
    refine act_null (fun m => ?_) k
    have h1 := acts_filter (fun e => decide (e ≠ d)) (divs ns.length ns.length) (dlt ns.length) m
    have e2 : (divs ns.length ns.length).filter (fun a => !decide (a ≠ d)) = [d] := by
      rw [← divs_one (List.mem_filter.mp hd).1]
      refine List.filter_congr fun a _ => ?_
      by_cases y : a = d
      · rw [decide_eq_true y, decide_eq_false (fun z => z y)]
        rfl
      · rw [decide_eq_false y, decide_eq_true y]
        rfl
    rw [all_act l1 l40, dlt_per, e2] at h1
    have h2 : acts ((divs ns.length ns.length).filter fun e => decide (e ≠ d)) (acts [d] (dlt ns.length)) m = acts ((divs ns.length ns.length).filter fun e => decide (e ≠ d)) (act (cyc d) (dlt ns.length)) m := rfl
    rw [← h2, ← h1]
    omega
/-! ### products -/
/-- f times q added to l at s, s + 1 .. -/
def addI (q : List Int) (f : Int) (s : Nat) : Nat → List Int → List Int
  | 0, l => l
  | j + 1, l => (addI q f s j l).set (s + j) ((addI q f s j l).getD (s + j) 0 + f * q.getD j 0)
def mulN (p q : List Int) : Nat → List Int
  | 0 => List.replicate (p.length + q.length - 1) 0
  | i + 1 => addI q (p.getD i 0) i q.length (mulN p q i)
def mulL (p q : List Int) : List Int := mulN p q p.length
theorem addI_len (q : List Int) (f : Int) (s : Nat) : ∀ (j : Nat) (l : List Int), (addI q f s j l).length = l.length
  | 0, _ => rfl
  | j + 1, l => by
    rw [addI, List.length_set, addI_len q f s j l]
theorem mulN_len (p q : List Int) : ∀ i, (mulN p q i).length = p.length + q.length - 1
  | 0 => List.length_replicate
  | i + 1 => by rw [mulN, addI_len, mulN_len p q i]
theorem act_addI {q : List Int} {f : Int} {k : Nat} (s : Sq) (i : Int) : ∀ (j : Nat) (l : List Int), j ≤ q.length → k + j ≤ l.length → act (addI q f k j l) s i = act l s i + f * act (q.take j) s (i + k)
  | 0, l, _, _ => by
    show act l s i = act l s i + f * 0
    rw [Int.mul_zero, Int.add_zero]
  | j + 1, l, h, hl => by
    obtain ⟨c, hc⟩ : ∃ c, q[j]? = some c := ⟨_, List.getElem?_eq_getElem (by omega)⟩
    rw [addI, act_set _ _ _ _ _ (by rw [addI_len]; omega), act_addI s i j l (by omega) (by omega), List.take_add_one, hc, getD_at hc]
    show _ = act l s i + f * act (q.take j ++ [c]) s (i + k)
    rw [act_append, List.length_take, show min j q.length = j by omega]
    show _ = act l s i + f * (act (q.take j) s (i + k) + (c * s (i + k + j) + 0))
    rw [show i + (k : Int) + (j : Int) = i + ((k + j : Nat) : Int) by omega, Int.mul_add, Int.add_zero, ← Int.mul_assoc]
    rw [show (addI q f k j l).getD (k + j) 0 + f * c - (addI q f k j l).getD (k + j) 0 = f * c by omega]
    omega
theorem act_mulN (p q : List Int) (hq : 1 ≤ q.length) (s : Sq) (i : Int) : ∀ k, k ≤ p.length → act (mulN p q k) s i = act (p.take k) (act q s) i
  | 0, _ => by
    rw [mulN, act_zeros]
    rfl
  | k + 1, h => by
    obtain ⟨c, hc⟩ : ∃ c, p[k]? = some c := ⟨_, List.getElem?_eq_getElem (by omega)⟩
    rw [mulN, act_addI s i q.length _ (Nat.le_refl _) (by rw [mulN_len]; omega), act_mulN p q hq s i k (by omega), List.take_add_one, hc, getD_at hc, List.take_of_length_le (Nat.le_refl _)]
    show _ = act (p.take k ++ [c]) (act q s) i
    rw [act_append, List.length_take, show min k p.length = k by omega]
    show _ = _ + (c * act q s (i + k) + 0)
    omega
theorem act_mulL (p q : List Int) (hq : 1 ≤ q.length) (s : Sq) (i : Int) : act (mulL p q) s i = act p (act q s) i := by
  unfold mulL
  rw [act_mulN p q hq s i p.length (Nat.le_refl _), List.take_of_length_le (Nat.le_refl _)]
/-- the product of C(d), one behind the other -/
def prodL (ds : List Nat) : List Int := ds.foldl (fun a d => mulL a (cyc d)) [1]
theorem prodL_snoc (ds : List Nat) (d : Nat) : prodL (ds ++ [d]) = mulL (prodL ds) (cyc d) := by
  unfold prodL
  rw [List.foldl_append]
  rfl
theorem fold_act : ∀ (ds : List Nat) (a : List Int), (∀ d ∈ ds, 1 ≤ d ∧ d ≤ 40) → ∀ (s : Sq) (i : Int), act (ds.foldl (fun a d => mulL a (cyc d)) a) s i = act a (acts ds s) i
  | [], _, _, _, _ => rfl
  | d :: ds, a, h, s, i => by
    have h1 := h d List.mem_cons_self
    have hl := (cyc_len h1.1 h1.2).1
    rw [List.foldl_cons, fold_act ds _ (fun x hx => h x (List.mem_cons_of_mem _ hx)), act_mulL _ _ (by omega)]
    refine act_congr fun j _ => ?_
    exact (acts_act ds (cyc d) s _).symm
theorem prodL_act {ds : List Nat} (h : ∀ d ∈ ds, 1 ≤ d ∧ d ≤ 40) (s : Sq) (i : Int) : act (prodL ds) s i = acts ds s i := by
  unfold prodL
  rw [fold_act ds [1] h]
  show 1 * acts ds s i + 0 = _
  omega
end Sd

namespace Sd
open PySem PySem.Spec PyProof.Rows L2

/-! ### bounds of products and rests -/
/-- small enough to be a factor of any number -/
def Sml (l : List Int) : Prop := ∀ x ∈ l, x.natAbs < 2 ^ 62
theorem Unt.sml {l : List Int} (h : Unt l) : Sml l := fun x hx => by
  have := h x hx
  exact Nat.lt_of_lt_of_le (m := 2) (by omega) (by decide)
def Bd (B : Nat) (l : List Int) : Prop := ∀ x ∈ l, x.natAbs ≤ B
theorem addI_get (q : List Int) (f : Int) (s : Nat) : ∀ (j : Nat) (l : List Int) (i : Nat), s + j ≤ i → (addI q f s j l)[i]? = l[i]?
  | 0, _, _, _ => rfl
  | j + 1, l, i, h => by
    rw [addI, List.getElem?_set_ne (by omega)]
    exact addI_get q f s j l i (by omega)
theorem addI_bd {A B : Nat} {q : List Int} {f : Int} {s : Nat} (hU : Unt q) (hf : f.natAbs ≤ B) : ∀ (j : Nat) {l : List Int}, Bd A l → Bd (A + B) (addI q f s j l)
  | 0, l, h => fun x hx => Nat.le_trans (h x hx) (Nat.le_add_right _ _)
  | j + 1, l, h => fun n hn => by
    rw [addI] at hn
    rcases List.mem_or_eq_of_mem_set hn with z | z
    · exact addI_bd hU hf j h n z
    · have h1 : ((addI q f s j l).getD (s + j) 0).natAbs ≤ A := by
        rw [List.getD_eq_getElem?_getD, addI_get q f s j l (s + j) (Nat.le_refl _)]
        cases e : l[s + j]? with
        | none => exact Nat.zero_le _
        | some x => exact h x (List.mem_of_getElem? e)
      have h2 : (f * q.getD j 0).natAbs ≤ B := by
        rw [List.getD_eq_getElem?_getD]
        cases e : q[j]? with
        | none =>
          show (f * 0).natAbs ≤ B
          rw [Int.mul_zero]
          exact Nat.zero_le _
        | some x =>
          have hx := hU x (List.mem_of_getElem? e)
          have : x = -1 ∨ x = 0 ∨ x = 1 := by omega
          show (f * x).natAbs ≤ B
          rcases this with rfl | rfl | rfl <;> omega
      omega
theorem mulN_bd {B : Nat} {p q : List Int} (hU : Unt q) (hp : Bd B p) : ∀ i, Bd (i * B) (mulN p q i)
  | 0 => fun x hx => by
    rw [mulN] at hx
    rw [(List.mem_replicate.mp hx).2]
    exact Nat.zero_le _
  | i + 1 => by
    rw [mulN, Nat.succ_mul]
    refine addI_bd hU ?_ _ (mulN_bd hU hp i)
    rw [List.getD_eq_getElem?_getD]
    cases e : p[i]? with
    | none => exact Nat.zero_le _
    | some x => exact hp x (List.mem_of_getElem? e)
theorem fold_bd : ∀ (ds : List Nat) (a : List Int) (B : Nat), (∀ d ∈ ds, 1 ≤ d ∧ d ≤ 40) → 1 ≤ a.length → a.length + degS ds ≤ 41 → Bd B a → Bd (B * 41 ^ ds.length) (ds.foldl (fun a d => mulL a (cyc d)) a) ∧ (ds.foldl (fun a d => mulL a (cyc d)) a).length = a.length + degS ds
  | [], a, B, _, _, _, h => ⟨by rw [List.length_nil, Nat.pow_zero, Nat.mul_one]; exact h, rfl⟩
  | d :: ds, a, B, hd, ha, hl, h => by
    have h1 := hd d List.mem_cons_self
    have hc := cyc_len h1.1 h1.2
    unfold degS at hl
    rw [List.map_cons, List.sum_cons] at hl
    have hm : (mulL a (cyc d)).length = a.length + ((cyc d).length - 1) := by
      unfold mulL
      rw [mulN_len]
      omega
    have hb : Bd (B * 41) (mulL a (cyc d)) := fun x hx => by
      have := mulN_bd (cyc_unt h1.1 h1.2) h a.length x hx
      exact Nat.le_trans this (by rw [Nat.mul_comm]; exact Nat.mul_le_mul_left _ (by omega))
    obtain ⟨i1, i2⟩ := fold_bd ds (mulL a (cyc d)) (B * 41) (fun x hx => hd x (List.mem_cons_of_mem _ hx)) (by omega) (by rw [hm]; unfold degS; omega) hb
    rw [List.foldl_cons]
    refine ⟨?_, ?_⟩
    · rw [List.length_cons, Nat.pow_succ, Nat.mul_comm (41 ^ ds.length), ← Nat.mul_assoc]
      exact i1
    · rw [i2, hm]
      unfold degS
      rw [List.map_cons, List.sum_cons]
      omega
/-- those that are not blind -/
def seenL (ns : List Int) : List Nat := (divs ns.length ns.length).filter fun e => decide (e ∉ blindL ns)
theorem seen_mem {ns : List Int} {d : Nat} (h : d ∈ seenL ns) : 1 ≤ d ∧ d ≤ ns.length ∧ ns.length % d = 0 := divs_mem.mp (List.mem_filter.mp h).1
theorem seen_deg {ns : List Int} (l1 : 1 ≤ ns.length) (l40 : ns.length ≤ 40) : degS (seenL ns) ≤ ns.length := by
  have := degS_filter (fun e => decide (e ∉ blindL ns)) (divs ns.length ns.length)
  rw [deg_all ns.length (by omega) l1] at this
  exact this
def seenP (ns : List Int) : List Int := prodL (seenL ns)
theorem seenP_len {ns : List Int} (l1 : 1 ≤ ns.length) (l40 : ns.length ≤ 40) : (seenP ns).length = 1 + degS (seenL ns) := by
  have h := seen_deg l1 l40
  exact (fold_bd (seenL ns) [1] 1 (fun d hd => by have := seen_mem hd; omega) (Nat.le_refl _) (by show 1 + _ ≤ 41; omega) (fun x hx => by rw [List.mem_singleton.mp hx]; decide)).2
theorem seenP_sml {ns : List Int} (l1 : 1 ≤ ns.length) (l40 : ns.length ≤ 40) : Sml (seenP ns) := fun x hx => by
  have h := seen_deg l1 l40
  have h1 := (fold_bd (seenL ns) [1] 1 (fun d hd => by have := seen_mem hd; omega) (Nat.le_refl _) (by show 1 + _ ≤ 41; omega) (fun x hx => by rw [List.mem_singleton.mp hx]; decide)).1 x hx
  have h2 : (seenL ns).length ≤ 9 := Nat.le_trans (List.length_filter_le _ _) (divs_few _ (by omega))
  have h3 : 1 * 41 ^ (seenL ns).length ≤ 41 ^ 9 := by rw [Nat.one_mul]; exact Nat.pow_le_pow_right (by decide) h2
  exact Nat.lt_of_le_of_lt (Nat.le_trans h1 h3) (by decide)
theorem fold_mon : ∀ (ds : List Nat) (a : List Int), (∀ d ∈ ds, 1 ≤ d ∧ d ≤ 40) → 1 ≤ a.length → Mon a → Mon (ds.foldl (fun a d => mulL a (cyc d)) a)
  | [], a, _, _, h => h
  | d :: ds, a, hd, ha, h => by
    have h1 := hd d List.mem_cons_self
    have hc := cyc_len h1.1 h1.2
    rw [List.foldl_cons]
    have hm : (mulL a (cyc d)).length = a.length + ((cyc d).length - 1) := by
      unfold mulL
      rw [mulN_len]
      omega
    refine fold_mon ds _ (fun x hx => hd x (List.mem_cons_of_mem _ hx)) (by omega) ?_
    -- the last number of a product
    obtain ⟨p, hp⟩ := h
    obtain ⟨q, hq⟩ := cyc_mon h1.1 h1.2
    have hl : (mulL a (cyc d))[a.length + (cyc d).length - 2]? = some 1 := by
      have hap : a.length = p.length + 1 := by rw [hp, List.length_append]; rfl
      have hcq : (cyc d).length = q.length + 1 := by rw [hq, List.length_append]; rfl
      unfold mulL
      rw [hap, mulN]
      have ea : a.getD p.length 0 = 1 := by
        rw [hp, List.getD_eq_getElem?_getD, List.getElem?_append_right (Nat.le_refl _), Nat.sub_self]
        rfl
      rw [ea, hcq, addI]
      have hidx : p.length + 1 + (q.length + 1) - 2 = p.length + q.length := by omega
      rw [hidx]
      have ec : (cyc d).getD q.length 0 = 1 := by
        rw [hq, List.getD_eq_getElem?_getD, List.getElem?_append_right (Nat.le_refl _), Nat.sub_self]
        rfl
      have e0 : (addI (cyc d) 1 p.length q.length (mulN a (cyc d) p.length)).getD (p.length + q.length) 0 = 0 := by
        rw [List.getD_eq_getElem?_getD, addI_get _ _ _ _ _ _ (Nat.le_refl _), mulN_top (a := a) (c := cyc d) (i := p.length) (k := p.length + q.length) (by omega) (by omega) (by omega)]
        rfl
      rw [List.getElem?_set_self (by rw [addI_len, mulN_len]; omega), e0, ec]
      rfl
    refine ⟨(mulL a (cyc d)).take (a.length + (cyc d).length - 2), ?_⟩
    have h2 : (mulL a (cyc d)).take (a.length + (cyc d).length - 2 + 1) = (mulL a (cyc d)).take (a.length + (cyc d).length - 2) ++ [1] := by
      rw [List.take_add_one, hl]
      rfl
    rw [← h2, List.take_of_length_le (by rw [hm]; omega)]
where
  mulN_top {a c : List Int} (hc : 1 ≤ c.length) : ∀ {i k : Nat}, i + c.length - 1 ≤ k → k < a.length + c.length - 1 → (mulN a c i)[k]? = some 0
    | 0, k, _, hk => by
      rw [mulN, List.getElem?_replicate, if_pos hk]
    | i + 1, k, h, hk => by
      rw [mulN, addI_get _ _ _ _ _ _ (by omega)]
      exact mulN_top hc (by omega) hk

/-! ### the rests, the rows -/
theorem subI_abS {b : Nat} {low : List Int} {f : Int} {s : Nat} (hU : Sml low) (hf : f.natAbs < 2 ^ b) : ∀ (j : Nat) {l : List Int}, Ab b l → Ab (b + 63) (subI low f s j l)
  | 0, l, h => h.mono (Nat.le_add_right _ _)
  | j + 1, l, h => fun n hn => by
    rw [subI] at hn
    rcases List.mem_or_eq_of_mem_set hn with z | z
    · exact subI_abS hU hf j h n z
    · have hp : 0 < 2 ^ b := Nat.two_pow_pos b
      have h1 : ((subI low f s j l).getD (s + j) 0).natAbs < 2 ^ b := by
        rw [List.getD_eq_getElem?_getD, subI_get low f s j l (s + j) (Nat.le_refl _)]
        cases e : l[s + j]? with
        | none => exact hp
        | some x => exact h x (List.mem_of_getElem? e)
      have h2 : (f * low.getD j 0).natAbs < 2 ^ (b + 62) := by
        rw [List.getD_eq_getElem?_getD]
        cases e : low[j]? with
        | none =>
          show (f * 0).natAbs < _
          rw [Int.mul_zero]
          exact Nat.two_pow_pos _
        | some x => exact wide_lt hf (hU x (List.mem_of_getElem? e))
      have h3 : (2 : Nat) ^ b ≤ 2 ^ (b + 62) := pow_up (by omega)
      rw [show b + 63 = (b + 62) + 1 by omega, Nat.pow_succ]
      omega
theorem divN_abS {low : List Int} (hU : Sml low) : ∀ (k b : Nat) {l : List Int}, Ab b l → Ab (b + 63 * k) (divN low k l)
  | 0, _, _, h => h
  | k + 1, b, l, h => by
    rw [divN]
    have hf : (l.getD (low.length - 1 + k) 0).natAbs < 2 ^ b := by
      rw [List.getD_eq_getElem?_getD]
      cases e : l[low.length - 1 + k]? with
      | none => exact Nat.two_pow_pos b
      | some x => exact h x (List.mem_of_getElem? e)
    have := divN_abS hU k (b + 63) (subI_abS hU hf (low.length - 1) (s := k) h)
    rw [show b + 63 * (k + 1) = b + 63 + 63 * k by omega]
    exact this
theorem rst_abS {low l : List Int} (hU : Sml low) {b : Nat} (h : Ab b l) : Ab (b + 63 * l.length) (rst low l) := fun n hn => by
  have := divN_abS hU (l.length - (low.length - 1)) b h n (List.mem_of_mem_take hn)
  exact Nat.lt_of_lt_of_le this (pow_up (by omega))
/-- x ** m -/
def powL (m : Nat) : List Int := List.replicate m 0 ++ [1]
theorem powL_len (m : Nat) : (powL m).length = m + 1 := by
  unfold powL
  rw [List.length_append, List.length_replicate]
  rfl
theorem powL_ab (m : Nat) : Ab 1 (powL m) := fun x hx => by
  unfold powL at hx
  rcases List.mem_append.mp hx with h | h
  · rw [(List.mem_replicate.mp h).2]
    decide
  · rw [List.mem_singleton.mp h]
    decide
theorem powL_act (m : Nat) (s : Sq) (i : Int) : act (powL m) s i = s (i + m) := by
  unfold powL
  rw [act_append, act_zeros, List.length_replicate]
  show 0 + (1 * s (i + m) + 0) = _
  omega
/-- x ** m less its rest -/
def fillL (P : List Int) (n m : Nat) : List Int := (((rst P (powL m)).map fun x => -x) ++ List.replicate (n - (rst P (powL m)).length) 0).set m 1
def stepL (P : List Int) (n p : Nat) : List Int := (fillL P n (n - 1 - p)).reverse
theorem rst_powL {P : List Int} {m : Nat} (h : P.length - 1 ≤ m) : (rst P (powL m)).length = P.length - 1 := by
  rw [rst_len, powL_len]
  omega
theorem fillL_len {P : List Int} {n m : Nat} (h : P.length - 1 ≤ m) (hm : m < n) : (fillL P n m).length = n := by
  unfold fillL
  rw [List.length_set, List.length_append, List.length_map, List.length_replicate, rst_powL h]
  omega
theorem act_neg : ∀ (p : List Int) (s : Sq) (i : Int), act (p.map fun x => -x) s i = -act p s i
  | [], _, _ => rfl
  | a :: p, s, i => by
    rw [List.map_cons, act, act, act_neg p, Int.neg_mul]
    omega
theorem fillL_act {P : List Int} (hM : Mon P) {n m : Nat} (h : P.length - 1 ≤ m) (hm : m < n) (s : Sq) (i : Int) : act (fillL P n m) s i = act (quo P (powL m)) (act P s) i := by
  have hr := rst_powL h
  have e := act_div hM (powL m) s i
  rw [powL_act] at e
  unfold fillL
  rw [act_set _ _ _ _ _ (by rw [List.length_append, List.length_map, List.length_replicate, hr]; omega), act_append, act_neg, act_zeros]
  have e0 : (((rst P (powL m)).map fun x => -x) ++ List.replicate (n - (rst P (powL m)).length) 0).getD m 0 = 0 := by
    rw [List.getD_eq_getElem?_getD, List.getElem?_append_right (by rw [List.length_map, hr]; omega), List.getElem?_replicate]
    split <;> rfl
  rw [e0]
  omega
theorem fillL_ab {P : List Int} (hS : Sml P) {n m : Nat} (hm : m < 40) : Ab 2600 (fillL P n m) := fun x hx => by
  unfold fillL at hx
  rcases List.mem_or_eq_of_mem_set hx with z | z
  · rcases List.mem_append.mp z with h | h
    · obtain ⟨y, hy, rfl⟩ := List.mem_map.mp h
      have h1 := rst_abS hS (powL_ab m) y hy
      rw [powL_len] at h1
      have h2 := Nat.lt_of_lt_of_le h1 (pow_up (a := 1 + 63 * (m + 1)) (b := 2600) (by omega))
      rw [Int.natAbs_neg]
      exact h2
    · rw [(List.mem_replicate.mp h).2]
      exact Nat.two_pow_pos _
  · rw [z]
    exact Nat.lt_of_lt_of_le (m := 2 ^ 1) (by decide) (pow_up (by decide))
theorem prods_act : ∀ (p q : List Int), p.length ≤ q.length → (prods p q).sum = act p (fun i => q.getD i.toNat 0) 0
  | [], q, _ => by
    show (List.zipWith (· * ·) [] q).sum = 0
    rw [List.zipWith_nil_left]
    rfl
  | a :: p, [], h => absurd h (Nat.not_succ_le_zero _)
  | a :: p, b :: q, h => by
    have ih := prods_act p q (Nat.le_of_succ_le_succ h)
    show (List.zipWith (· * ·) (a :: p) (b :: q)).sum = a * b + act p (fun i => (b :: q).getD i.toNat 0) (0 + 1)
    rw [List.zipWith_cons_cons, List.sum_cons]
    show a * b + (prods p q).sum = _
    rw [ih]
    refine congrArg (a * b + ·) (act_congr fun j _ => ?_)
    show q.getD (0 + (j : Int)).toNat 0 = (b :: q).getD (0 + 1 + (j : Int)).toNat 0
    rw [show (0 + 1 + (j : Int)).toNat = (0 + (j : Int)).toNat + 1 by omega, List.getD_cons_succ]
theorem prods_rev {p q : List Int} (h : p.length = q.length) : (prods p.reverse q).sum = (prods p q.reverse).sum := by
  have e : prods p.reverse q = (prods p q.reverse).reverse := by
    unfold prods
    rw [List.reverse_zipWith (by rw [List.length_reverse]; exact h), List.reverse_reverse]
  rw [e, List.sum_reverse]
/-- a row in steps has no light -/
theorem step_dark {ns : List Int} (l1 : 1 ≤ ns.length) (l40 : ns.length ≤ 40) {p : Nat} (hp : p < ns.length - degS (seenL ns)) (t : Int) : lightV ns (stepL (seenP ns) ns.length p) t = 0 := by
  have hd := seen_deg l1 l40
  have hPl := seenP_len l1 l40
  have hM : Mon (seenP ns) := fold_mon (seenL ns) [1] (fun d hd => by have := seen_mem hd; omega) (Nat.le_refl _) ⟨[], rfl⟩
  have hm1 : (seenP ns).length - 1 ≤ ns.length - 1 - p := by omega
  have hm2 : ns.length - 1 - p < ns.length := by omega
  have hfl := fillL_len hm1 hm2
  have hl : (stepL (seenP ns) ns.length p).length = ns.length := by
    unfold stepL
    rw [List.length_reverse, hfl]
  rw [light_swap hl]
  unfold lightV stepL
  rw [prods_rev (by rw [rot_len, hfl]), prods_act _ _ (by rw [List.length_reverse, rot_len, hfl]; exact Nat.le_refl _)]
  have e : act (fillL (seenP ns) ns.length (ns.length - 1 - p)) (fun i => (rot ns (-t)).reverse.getD i.toNat 0) 0 = act (fillL (seenP ns) ns.length (ns.length - 1 - p)) (act ns (dlt ns.length)) (-((ns.length : Int) - 1 + t)) := act_congr fun j hj => by
    rw [hfl] at hj
    show (rot ns (-t)).reverse.getD (0 + (j : Int)).toNat 0 = act ns (dlt ns.length) (-((ns.length : Int) - 1 + t) + (j : Int))
    rw [act_dlt l1 ns (Nat.le_refl _), show (0 + (j : Int)).toNat = j by omega, List.getD_eq_getElem?_getD, List.getElem?_reverse (by rw [rot_len]; exact hj), rot_len, rot_at (by omega)]
    show ns.getD _ 0 = ns.getD _ 0
    rw [show ((ns.length - 1 - j : Nat) : Int) - -t = -(-((ns.length : Int) - 1 + t) + (j : Int)) by omega]
  rw [e, fillL_act hM hm1 hm2]
  refine act_null (fun i => ?_) _
  unfold seenP
  rw [prodL_act (fun d hd => by have := seen_mem hd; omega)]
  exact blind_kill l1 l40 i
end Sd

namespace Sd
open PySem PySem.Spec PyProof.Rows L2

/-! ### lights of sums of rows -/
/-- one row and a multiple of another -/
def linL (t : Int) (a b : List Int) : List Int := List.zipWith (fun x y => x + t * y) a b
theorem linL_len {t : Int} {a b : List Int} (h : a.length = b.length) : (linL t a b).length = a.length := by
  unfold linL
  rw [List.length_zipWith]
  omega
theorem linL_at {t : Int} {a b : List Int} {i : Nat} {x y : Int} (h1 : a[i]? = some x) (h2 : b[i]? = some y) : (linL t a b)[i]? = some (x + t * y) := by
  unfold linL
  rw [List.getElem?_zipWith, h1, h2]
theorem linL_get {t : Int} {a b : List Int} (h : a.length = b.length) {i : Nat} (hi : i < a.length) : (linL t a b).getD i 0 = a.getD i 0 + t * b.getD i 0 :=
  getD_at (linL_at (at_getD hi) (at_getD (by omega)))
theorem linL_ab {t : Int} {a b : List Int} {k j m : Nat} (ha : Ab k a) (hb : Ab j b) (ht : t.natAbs < 2 ^ m) : Ab (k + j + m + 1) (linL t a b) := fun x hx => by
  unfold linL at hx
  obtain ⟨i, hi, e⟩ := List.mem_iff_getElem.mp hx
  rw [List.length_zipWith] at hi
  rw [List.getElem_zipWith] at e
  have h1 := ha _ (List.getElem_mem (show i < a.length by omega))
  have h2 := hb _ (List.getElem_mem (show i < b.length by omega))
  rw [← e]
  have h3 := wide_lt ht h2
  have p1 : (2 : Nat) ^ k ≤ 2 ^ (k + j + m) := pow_up (by omega)
  have p2 : (2 : Nat) ^ (m + j) ≤ 2 ^ (k + j + m) := pow_up (by omega)
  rw [Nat.pow_succ]
  omega
theorem light_act {ns ms : List Int} (hl : ns.length = ms.length) (t : Int) : lightV ns ms t = act ns (fun i => (rot ms t).getD i.toNat 0) 0 := by
  unfold lightV
  exact prods_act ns (rot ms t) (by rw [rot_len]; omega)
theorem light_lin {ns a b : List Int} (ha : ns.length = a.length) (hb : ns.length = b.length) (t u : Int) : lightV ns (linL t a b) u = lightV ns a u + t * lightV ns b u := by
  have hab : a.length = b.length := by omega
  rw [light_act (by rw [linL_len hab]; exact ha), light_act ha, light_act hb, ← act_mul, ← act_add]
  refine act_congr fun j hj => ?_
  show (rot (linL t a b) u).getD (0 + (j : Int)).toNat 0 = (rot a u).getD (0 + (j : Int)).toNat 0 + t * (rot b u).getD (0 + (j : Int)).toNat 0
  rw [show (0 + (j : Int)).toNat = j by omega, rot_get (by rw [linL_len hab]; omega), rot_get (by omega), rot_get (by omega), linL_len hab, ← hab]
  have hm := mod_in (i := (j : Int) - u) (show 0 < a.length by omega)
  exact linL_get hab (by omega)
theorem lights_lin {ns a b : List Int} (ha : ns.length = a.length) (hb : ns.length = b.length) (t : Int) : lightsV ns (linL t a b) = linL t (lightsV ns a) (lightsV ns b) := by
  refine ext_getD (by rw [linL_len (by rw [lightsV_len, lightsV_len]), lightsV_len, lightsV_len]) fun j hj => ?_
  rw [lightsV_len] at hj
  rw [lights_get hj, linL_get (by rw [lightsV_len, lightsV_len]) (by rw [lightsV_len]; exact hj), lights_get hj, lights_get hj]
  exact light_lin ha hb t j
theorem lights_dark {ns a b : List Int} (ha : ns.length = a.length) (hb : ns.length = b.length) (hz : ∀ t, lightV ns b t = 0) (t : Int) : lightsV ns (linL t a b) = lightsV ns a := by
  refine ext_getD (by rw [lightsV_len, lightsV_len]) fun j hj => ?_
  rw [lightsV_len] at hj
  rw [lights_get hj, lights_get hj, light_lin ha hb, hz, Int.mul_zero, Int.add_zero]
theorem act_const : ∀ (p : List Int) (c i : Int), act p (fun _ => c) i = p.sum * c
  | [], c, _ => by
    show 0 = 0 * c
    rw [Int.zero_mul]
  | a :: p, c, i => by
    rw [act, act_const p c, List.sum_cons, Int.add_mul]
theorem light_part {ns ms : List Int} (hl : ns.length = ms.length) : ∀ k : Nat, ((List.range k).map fun (t : Nat) => lightV ns ms (t : Int)).sum = act ns (fun i => ((List.range k).map fun (t : Nat) => (rot ms (t : Int)).getD i.toNat 0).sum) 0
  | 0 => by
    show 0 = act ns (fun _ => 0) 0
    rw [act_zero]
  | k + 1 => by
    rw [List.range_succ, List.map_append, List.sum_append, light_part hl k]
    have e : (fun i : Int => ((List.range k ++ [k]).map fun (t : Nat) => (rot ms (t : Int)).getD i.toNat 0).sum) = fun i => ((List.range k).map fun (t : Nat) => (rot ms (t : Int)).getD i.toNat 0).sum + (rot ms (k : Int)).getD i.toNat 0 := funext fun i => by
      rw [List.map_append, List.sum_append]
      show _ + ((rot ms (k : Int)).getD i.toNat 0 + 0) = _
      rw [Int.add_zero]
    rw [e, act_add, ← light_act hl]
    show _ + (lightV ns ms k + 0) = _
    rw [Int.add_zero]
theorem neg_mod_mod (j t : Int) {n : Int} : -((t - j) % n) % n = (j - t) % n := by
  rw [show j - t = -(t - j) by omega]
  have e : -((t - j) % n) = -(t - j) + n * ((t - j) / n) := by
    rw [Int.emod_def]
    omega
  rw [e, Int.add_mul_emod_self_left]
theorem lights_sum {ns ms : List Int} (hl : ns.length = ms.length) : (lightsV ns ms).sum = ns.sum * ms.sum := by
  unfold lightsV
  rw [light_part hl, ← act_const ns ms.sum 0]
  refine act_congr fun j hj => ?_
  show ((List.range ns.length).map fun (t : Nat) => (rot ms (t : Int)).getD (0 + (j : Int)).toNat 0).sum = ms.sum
  rw [show (0 + (j : Int)).toNat = j by omega]
  have e : ((List.range ns.length).map fun (t : Nat) => (rot ms (t : Int)).getD j 0) = rot (mir ms) (j : Int) := by
    refine ext_getD (by rw [List.length_map, List.length_range, rot_len, mir_len]; exact hl) fun t ht => ?_
    rw [List.length_map, List.length_range] at ht
    rw [List.getD_eq_getElem?_getD, List.getElem?_map, List.getElem?_range ht]
    show (rot ms (t : Int)).getD j 0 = _
    have hm := mod_in (i := (t : Int) - (j : Int)) (show 0 < ms.length by omega)
    rw [rot_get (by omega), rot_get (by rw [mir_len]; omega), mir_len, mir_get (by omega), Int.toNat_of_nonneg hm.1]
    rw [neg_mod_mod j t]
  rw [e, sum_rot, sum_mir]
theorem light_lone {ns : List Int} {s : Nat} (hs : s < ns.length) (t : Int) : lightV ns ((List.replicate ns.length 0).set s 1) t = ns.getD ((((s : Int) + t) % (ns.length : Int)).toNat) 0 := by
  have hl : ns.length = ((List.replicate ns.length (0 : Int)).set s 1).length := by rw [List.length_set, List.length_replicate]
  rw [light_swap hl.symm, light_act hl.symm, act_set _ _ _ _ _ (by rw [List.length_replicate]; exact hs), act_zeros, List.getD_eq_getElem?_getD, List.getElem?_replicate, if_pos hs]
  show 0 + (1 - 0) * (rot ns (-t)).getD (0 + (s : Int)).toNat 0 = _
  rw [show (0 + (s : Int)).toNat = s by omega, rot_get hs, show (s : Int) - -t = s + t by omega]
  omega
theorem lights_lone {ns : List Int} {s : Nat} (hs : s < ns.length) : lightsV ns ((List.replicate ns.length 0).set s 1) = rot ns (0 - (s : Int)) := by
  refine ext_getD (by rw [lightsV_len, rot_len]) fun j hj => ?_
  rw [lightsV_len] at hj
  rw [lights_get hj, light_lone hs, rot_get hj, show (j : Int) - (0 - (s : Int)) = s + j by omega]
end Sd

namespace Sd
open PySem PySem.Spec PyProof.Rows L2

/-! ### texts -/
def mkS (l : List Nat) : Str := ⟨l.toArray⟩
theorem tl_mk (l : List Nat) : TL.tl (mkS l) = l := rfl
theorem mk_tl (x : Str) : mkS (TL.tl x) = x := TL.ext_tl rfl
theorem mk_inj {a b : List Nat} : mkS a = mkS b ↔ a = b := ⟨fun e => by
  have := congrArg TL.tl e
  exact this, fun e => by rw [e]⟩
theorem mk_app (a b : List Nat) : mkS a ++ mkS b = mkS (a ++ b) := TL.ext_tl (by rw [TL.tl_append]; rfl)
theorem mk_len (l : List Nat) : (mkS l).length = l.length := by
  rw [TL.len_tl]
  rfl
/-- the signs of an int -/
def intL (n : Int) : List Nat := if n < 0 then 45 :: TL.numL n.natAbs else TL.numL n.natAbs
def intS (n : Int) : Str := mkS (intL n)
theorem tl_ofString (s : String) : TL.tl (Str.ofString s) = s.toList.map Char.toNat := by
  rw [PySem.Str.ofString_eq_toList]
theorem str_int (n : Int) : Str.ofString (toString n) = intS n := by
  refine TL.ext_tl ?_
  rw [show TL.tl (intS n) = intL n from rfl]
  unfold intL
  by_cases h : n < 0
  · rw [if_pos h, PyProof.Rows.toString_neg h, tl_ofString, String.toList_append, List.map_append]
    have e : (0 : Int) - n = ((n.natAbs : Nat) : Int) := by omega
    have t := TL.tl_num n.natAbs
    rw [tl_ofString] at t
    rw [e, t]
    rfl
  · rw [if_neg h]
    have e : n = ((n.natAbs : Nat) : Int) := by omega
    have t := TL.tl_num n.natAbs
    rw [← e] at t
    exact t
theorem numL_head : ∀ n : Nat, 0 < n → (TL.numL n).head? ≠ some 48 := fun n => by
  induction n using Nat.strongRecOn with
  | _ n ih =>
    intro hn
    by_cases h : n < 10
    · rw [TL.numL_lt h]
      intro e
      have := Option.some.inj e
      omega
    · rw [TL.numL_step (by omega)]
      have hp := ih (n / 10) (by omega) (by omega)
      cases e : TL.numL (n / 10) with
      | nil => exact absurd e (TL.numL_ne _)
      | cons c r =>
        rw [e] at hp
        exact hp
theorem intL_pos {n : Int} (h : 0 ≤ n) : intL n = TL.numL n.natAbs := if_neg (by omega)
theorem intL_neg {n : Int} (h : n < 0) : intL n = 45 :: TL.numL n.natAbs := if_pos h
theorem intL_ne (n : Int) : intL n ≠ [] := by
  unfold intL
  split
  · exact fun e => nomatch e
  · exact TL.numL_ne _
theorem intL_free {n : Int} {s : Nat} (h : s < 48 ∨ 57 < s) (h2 : s ≠ 45) : s ∉ intL n := fun hm => by
  unfold intL at hm
  split at hm
  · rcases List.mem_cons.mp hm with e | e
    · exact h2 e
    · exact TL.numL_free h e
  · exact TL.numL_free h hm
theorem intL_len {n : Int} {k : Nat} (hk : 0 < k) (h : n.natAbs < 10 ^ k) : (intL n).length ≤ k + 1 := by
  have := TL.numL_len hk h
  unfold intL
  split
  · rw [List.length_cons]
    omega
  · omega
theorem num_digit {c : Nat} (h0 : 48 ≤ c) (h1 : c ≤ 57) : Unicode.isDigit c = true := by
  have : ∀ d : Nat, d < 10 → Unicode.isDigit (48 + d) = true := by decide +kernel
  have e := this (c - 48) (by omega)
  rw [show 48 + (c - 48) = c by omega] at e
  exact e
theorem all_tl (x : Str) (p : Nat → Bool) : x.cps.all p = (TL.tl x).all p := by
  rw [← Array.all_toList]
theorem dig_isascii (n : Nat) : Txt.isascii (mkS (TL.numL n)) = true := by
  unfold Txt.isascii
  rw [all_tl, List.all_eq_true]
  intro c hc
  have := TL.numL_digits n c hc
  exact decide_eq_true (by omega)
theorem dig_isdigit (n : Nat) : Txt.isdigit (mkS (TL.numL n)) = true := by
  unfold Txt.isdigit
  rw [Bool.and_eq_true]
  refine ⟨decide_eq_true ?_, ?_⟩
  · rw [mk_len]
    exact List.length_pos_iff.mpr (TL.numL_ne n)
  · rw [all_tl, List.all_eq_true]
    intro c hc
    have := TL.numL_digits n c hc
    exact num_digit (by omega) (by omega)
theorem starts_one (l : List Nat) (c : Nat) : Txt.startswith (mkS l) (mkS [c]) = decide (l.head? = some c) := by
  unfold Txt.startswith
  rw [mk_len, mk_len, PySem.StrLaws.subAt_eq, mk_len]
  show (decide (0 + 1 ≤ l.length) && (List.take 1 (l.drop 0) == [c])) = _
  cases l with
  | nil => rfl
  | cons x r =>
    show (decide (0 + 1 ≤ r.length + 1) && ([x] == [c])) = decide (some x = some c)
    rw [decide_eq_true (by omega), Bool.true_and]
    by_cases h : x = c
    · subst h
      rw [decide_eq_true rfl]
      exact beq_self_eq_true _
    · rw [decide_eq_false (fun e => h (Option.some.inj e))]
      exact beq_eq_false_iff_ne.mpr fun e => h (List.cons.inj e).1
theorem int_reads {n : Int} (h : n.natAbs < 10 ^ 600) : PySem.intText? (intS n) = some n := by
  by_cases h0 : n < 0
  · have e := PySem.intText_neg (x := intS n) (cs := TL.numL n.natAbs) (by show intL n = _; exact intL_neg h0) (TL.numL_digits _) (TL.numL_ne _) (by
      rw [TL.len_tl]
      show (intL n).length ≤ 4300
      have := intL_len (by decide) h
      omega)
    rw [e, TL.numL_val]
    exact congrArg some (by omega)
  · have e := PySem.intText_digits (x := intS n) (by show NumText.AllDigits (intL n); rw [intL_pos (by omega)]; exact TL.numL_digits _) (by show intL n ≠ []; exact intL_ne n) (by
      rw [TL.len_tl]
      show (intL n).length ≤ 4300
      have := intL_len (by decide) h
      omega)
    rw [e]
    show some ((NumText.digitsVal (intL n) : Nat) : Int) = some n
    rw [intL_pos (by omega), TL.numL_val]
    exact congrArg some (by omega)
/-- words joined by a sign -/
def spS : Str := mkS [32]
def wordsS (ws : List (List Nat)) : Str := Txt.join spS (ws.map mkS)
theorem tl_words (ws : List (List Nat)) : TL.tl (wordsS ws) = TL.joinL [32] ws := by
  unfold wordsS
  rw [TL.join_eq, TL.tl_join, List.map_map]
  have e : ws.map (TL.tl ∘ mkS) = ws := by
    conv => rhs; rw [← List.map_id ws]
    exact List.map_congr_left fun _ _ => rfl
  rw [e]
  rfl
theorem words_split {ws : List (List Nat)} (hne : ws ≠ []) (hf : ∀ w ∈ ws, 32 ∉ w) : Txt.split (wordsS ws) spS = ws.map mkS :=
  TL.split_join (s := 32) (S := []) rfl (by decide +kernel) (fun e => hne (List.map_eq_nil_iff.mp e)) fun p hp => by
    obtain ⟨w, hw, rfl⟩ := List.mem_map.mp hp
    exact hf w hw
theorem joinL_len {k : Nat} : ∀ {ws : List (List Nat)}, (∀ w ∈ ws, w.length ≤ k) → (TL.joinL [32] ws).length ≤ (k + 1) * ws.length
  | [], _ => Nat.zero_le _
  | [p], h => by
    show p.length ≤ (k + 1) * 1
    have := h p (List.mem_singleton.mpr rfl)
    omega
  | p :: q :: r, h => by
    show (p ++ ([32] ++ TL.joinL [32] (q :: r))).length ≤ (k + 1) * ((q :: r).length + 1)
    have h1 := h p List.mem_cons_self
    have h2 := joinL_len (ws := q :: r) fun w hw => h w (List.mem_cons_of_mem _ hw)
    rw [List.length_append, List.length_append, Nat.mul_add]
    show p.length + (1 + _) ≤ _
    omega
theorem words_len {k : Nat} {ws : List (List Nat)} (h : ∀ w ∈ ws, w.length ≤ k) : (wordsS ws).length ≤ (k + 1) * ws.length := by
  rw [TL.len_tl, tl_words]
  exact joinL_len h
theorem join_fits {k : Nat} {ws : List (List Nat)} (h : ∀ w ∈ ws, w.length ≤ k) (hk : k ≤ 1000) (hn : ws.length ≤ 1000) : ((ws.map mkS).map (·.length)).sum + (ws.map mkS).length * spS.length ≤ 16777216 := by
  have h1 : ((ws.map mkS).map (·.length)).sum ≤ k * ws.length := by
    have := sum_bound (B := k) (l := (ws.map mkS).map (·.length)) fun x hx => by
      obtain ⟨y, hy, rfl⟩ := List.mem_map.mp hx
      obtain ⟨w, hw, rfl⟩ := List.mem_map.mp hy
      rw [mk_len]
      exact h w hw
    rw [List.length_map, List.length_map] at this
    exact this
  have h2 : k * ws.length ≤ 1000 * 1000 := Nat.mul_le_mul hk hn
  have h3 : spS.length = 1 := by rw [show spS = mkS [32] from rfl, mk_len]; rfl
  rw [List.length_map, h3]
  omega
/-- looks, as words -/
def lookL (p : Int × Int) : List Nat := intL p.1 ++ (61 :: intL p.2)
theorem look_free (p : Int × Int) : 32 ∉ lookL p := fun h => by
  unfold lookL at h
  rcases List.mem_append.mp h with e | e
  · exact intL_free (.inl (by decide)) (by decide) e
  · rcases List.mem_cons.mp e with e | e
    · exact absurd e (by decide)
    · exact intL_free (.inl (by decide)) (by decide) e
theorem look_cut (p : Int × Int) : Txt.partition (mkS (lookL p)) (mkS [61]) = (intS p.1, mkS [61], intS p.2) := by
  have e : mkS (lookL p) = intS p.1 ++ mkS [61] ++ intS p.2 := by
    unfold intS lookL
    rw [mk_app, mk_app, List.append_assoc]
    rfl
  rw [e]
  exact TL.partition_app (s := 61) (S := []) rfl (show 61 ∉ intL p.1 from intL_free (.inr (by decide)) (by decide))
theorem look_len {p : Int × Int} {k : Nat} (hk : 0 < k) (h1 : p.1.natAbs < 10 ^ k) (h2 : p.2.natAbs < 10 ^ k) : (lookL p).length ≤ 2 * k + 3 := by
  have a := intL_len hk h1
  have b := intL_len hk h2
  unfold lookL
  rw [List.length_append, List.length_cons]
  omega
/-! ### a text, many times -/
theorem op_mulS {X : Cx} : OpR X (binaryOp .Mult) (fun x y H Q => ∃ (a : Str) (n : Int), x = .str a ∧ y = .int n ∧ MulOk a n ∧ Q (.str (Txt.mul a n)) H) := by
  intro pins s σ H x y v u Q I rx ry h
  obtain ⟨a, n, rfl, rfl, hm, q⟩ := h
  obtain ⟨t, rfl⟩ := rx
  obtain ⟨t', rfl⟩ := ry
  exact PySem.SB.mul hm fun t'' k => ⟨.str _, H, I.tok _, ⟨_, rfl⟩, q⟩
/-! ### the written signs -/
theorem cSp : Str.ofString " " = spS := TL.ext_tl (by rw [tl_ofString]; rfl)
theorem cDash : Str.ofString "-" = mkS [45] := TL.ext_tl (by rw [tl_ofString]; rfl)
theorem cZero : Str.ofString "0" = mkS [48] := TL.ext_tl (by rw [tl_ofString]; rfl)
theorem cEq : Str.ofString "=" = mkS [61] := TL.ext_tl (by rw [tl_ofString]; rfl)
theorem cNone : Str.ofString "" = mkS [] := TL.ext_tl (by rw [tl_ofString]; rfl)
theorem join_one (y x : Str) : Txt.join y [x] = x := by
  rw [TL.join_eq]
  rfl
theorem join_none (y : Str) : Txt.join y [] = mkS [] := by
  rw [TL.join_eq]
  rfl
theorem cut_tail (c : Nat) (l : List Nat) : cutS (mkS (c :: l)) (some 1) none = mkS l := by
  unfold cutS
  have e1 : HT.sIx (mkS (c :: l)).length 0 (some 1) = 1 := by
    have := HT.sIx_nat (mkS (c :: l)).length 0 1
    rw [mk_len, List.length_cons] at this ⊢
    rw [show (some (1 : Int)) = some ((1 : Nat) : Int) from rfl, this]
    omega
  rw [e1, HT.sIx_none, mk_len]
  show mkS (((c :: l).drop 1).take ((c :: l).length - 1)) = mkS l
  rw [List.drop_one, List.tail_cons, List.length_cons, Nat.add_sub_cancel, List.take_length]
theorem spl_le {n k : Nat} (h : n ≤ k) (hk : k ≤ 1000000) : n ≤ sizeLine := Nat.le_trans h (Nat.le_trans hk (by decide))
theorem abs10 {n : Int} {k : Nat} (h : n.natAbs < 10 ^ k) (hk : k ≤ 100) : n.natAbs < 2 ^ 1000 := Nat.lt_of_lt_of_le h (Nat.le_trans (Nat.pow_le_pow_right (by decide) hk) (by decide +kernel))
theorem abs_log {n : Int} {k : Nat} (h : n.natAbs < 10 ^ k) (hk : k ≤ 100) : n.natAbs.log2 < 1920 := Nat.lt_trans (PySem.Flt.log2_lt_of (by decide) (abs10 h hk)) (by decide)
/-- pairs of ints, in tuples -/
inductive Prs (H : Hp) : List V → List (Int × Int) → Prop
  | nil : Prs H [] []
  | cons {t : Addr} {p : Int × Int} {vs : List V} {ps : List (Int × Int)} (h : H t = some (.tup [.int p.1, .int p.2])) (r : Prs H vs ps) : Prs H (.ref t :: vs) (p :: ps)
theorem Prs.up {H H1 : Hp} {vs : List V} {ps : List (Int × Int)} (h : Prs H vs ps) (s : Same H H1) : Prs H1 vs ps := by
  induction h with
  | nil => exact .nil
  | cons h _ ih => exact .cons (s _ _ h) ih
theorem Prs.len {H : Hp} {vs : List V} {ps : List (Int × Int)} (h : Prs H vs ps) : vs.length = ps.length := by
  induction h with
  | nil => rfl
  | cons _ _ ih => rw [List.length_cons, List.length_cons, ih]
theorem Prs.at {H : Hp} {vs : List V} {ps : List (Int × Int)} (h : Prs H vs ps) : ∀ {i : Nat} {v : V}, vs[i]? = some v → ∃ t p, v = .ref t ∧ ps[i]? = some p ∧ H t = some (.tup [.int p.1, .int p.2]) := by
  induction h with
  | nil => exact fun e => nomatch e
  | cons h _ ih =>
    intro i v e
    cases i with
    | zero => exact ⟨_, _, (Option.some.inj e).symm, rfl, h⟩
    | succ i => exact ih e
theorem Prs.snoc {H : Hp} {vs : List V} {ps : List (Int × Int)} {t : Addr} {p : Int × Int} (h : Prs H vs ps) (e : H t = some (.tup [.int p.1, .int p.2])) : Prs H (vs ++ [.ref t]) (ps ++ [p]) := by
  induction h with
  | nil => exact .cons e .nil
  | cons h _ ih => exact .cons h ih
def dP (p : Int × Int) : PyData := .tuple [.int p.1, .int p.2]
theorem Prs.dp {K : PySem.W.Frag} {H : Hp} {vs : List V} {ps : List (Int × Int)} (h : Prs H vs ps) : DpAll K H vs (ps.map dP) := by
  induction h with
  | nil => exact .nil
  | cons h _ ih => exact .cons (.tup (SqT.of h) (.cons (.int _) (.cons (.int _) .nil))) ih
/-- f'..', its parts one behind the other -/
def tJoined (ts : List TE) : TE := fun σ H Q => tJs ts Str.empty σ H fun out H1 => Q (.str out) H1
theorem pe_joinedN {X : Cx} {v1 v2 : Expr} {rest : List Expr} {ts : List TE} {pos : Pos} (h : PJ X (v1 :: v2 :: rest) ts) : PE X (.JoinedStr (v1 :: v2 :: rest) pos) (tJoined ts) := pe_joined h
end Sd

namespace Sd
open PySem PySem.Spec PyProof.Rows L2

/-! ### data that repr can show, with bounds -/
structure Dat (k B : Nat) (d : PyData) : Prop where
  rp : RP d
  dp : d.depth ≤ k
  le : d.shown.length ≤ B
theorem Dat.mono {k B k' B' : Nat} {d : PyData} (h : Dat k B d) (hk : k ≤ k') (hB : B ≤ B') : Dat k' B' d := ⟨h.rp, Nat.le_trans h.dp hk, Nat.le_trans h.le hB⟩
theorem Dat.fits {k B : Nat} {d : PyData} (h : Dat k B d) (hB : B ≤ 16000000) : d.shown.length ≤ sizeLine := fit_le (Nat.le_trans h.le hB)
theorem dat_int {i : Int} {k : Nat} (h : i.natAbs < 10 ^ k) (hk : k ≤ 100) : Dat 0 1001 (.int i) := ⟨rp_int (abs10 h hk), by simp only [PyData.depth]; omega, shown_int (abs10 h hk)⟩
theorem dat_str {x : Str} {n : Nat} (h : ∀ c ∈ TL.tl x, c < 128) (hl : x.length ≤ n) : Dat 0 (10 * n + 2) (.str x) := by
  refine ⟨⟨by simp only [PyData.showable], by simp only [PyData.hasDict], ?_, by simp only [PyData.depth]; omega⟩, by simp only [PyData.depth]; omega, ?_⟩
  · simp only [PyData.canLay0]
    unfold PyData.strOk
    rw [all_tl, List.all_eq_true]
    exact fun c hc => decide_eq_true (Nat.lt_of_lt_of_le (h c hc) (by decide))
  simp only [PyData.shown]
  have := PySem.StrLaws.reprText_len x fun c hc => Nat.lt_of_lt_of_le (h c hc) (by decide)
  omega
theorem rps_dat {k B : Nat} : ∀ {ds : List PyData}, (∀ d ∈ ds, Dat k B d) → RPs k ds
  | [], _ => RPs.nil
  | d :: ds, h => RPs.cons (h d List.mem_cons_self).rp (h d List.mem_cons_self).dp (rps_dat fun x hx => h x (List.mem_cons_of_mem _ hx))
theorem dat_list {k B n : Nat} {ds : List PyData} (h : ∀ d ∈ ds, Dat k B d) (hk : k ≤ 30) (hn : ds.length ≤ n) : Dat (k + 1) ((B + 2) * n + 3) (.list ds) := by
  obtain ⟨a, b⟩ := (rps_dat h).list (by omega)
  refine ⟨a, b, ?_⟩
  have := shown_list (B := B) (ds := ds) fun d hd => (h d hd).le
  have := Nat.mul_le_mul_left (B + 2) hn
  omega
theorem dat_tup {k B n : Nat} {ds : List PyData} (h : ∀ d ∈ ds, Dat k B d) (hk : k ≤ 30) (hn : ds.length ≤ n) : Dat (k + 1) ((B + 2) * n + 3) (.tuple ds) := by
  have hs := rps_dat h
  have hd : (PyData.tuple ds).depth ≤ k + 1 := by
    simp only [PyData.depth]
    have := hs.dp
    omega
  refine ⟨⟨?_, ?_, ?_, by omega⟩, hd, ?_⟩
  · simp only [PyData.showable, hs.sh]
  · simp only [PyData.hasDict, hs.nd]
  · simp only [PyData.canLay0, hs.cl]
  · simp only [PyData.shown]
    have h1 := tupleText_len_le (PyData.shownAll ds)
    have h2 : ((PyData.shownAll ds).map (·.length)).sum ≤ B * ds.length := by
      rw [shownAll_map, List.map_map]
      have := sum_bound (B := B) (l := ds.map ((fun x => x.length) ∘ PyData.shown)) fun x hx => by
        obtain ⟨d, hd, rfl⟩ := List.mem_map.mp hx
        exact (h d hd).le
      rw [List.length_map] at this
      exact this
    have h3 : (PyData.shownAll ds).length = ds.length := by rw [shownAll_map, List.length_map]
    rw [h3] at h1
    have h4 := Nat.mul_le_mul_left (B + 2) hn
    have h5 : (B + 2) * ds.length = B * ds.length + 2 * ds.length := Nat.add_mul _ _ _
    omega
theorem dat_ints {ns : List Int} {k n : Nat} (h : ∀ x ∈ ns, x.natAbs < 10 ^ k) (hk : k ≤ 100) (hn : ns.length ≤ n) : Dat 1 (1003 * n + 3) (dI ns) :=
  dat_list (k := 0) (B := 1001) (fun d hd => by
    obtain ⟨x, hx, rfl⟩ := List.mem_map.mp hd
    exact dat_int (h x hx) hk) (by decide) (by rw [List.length_map]; exact hn)
theorem dat_pairs {ps : List (Int × Int)} {k n : Nat} (h : ∀ p ∈ ps, p.1.natAbs < 10 ^ k ∧ p.2.natAbs < 10 ^ k) (hk : k ≤ 100) (hn : ps.length ≤ n) : Dat 2 (2011 * n + 3) (.list (ps.map dP)) :=
  dat_list (k := 1) (B := 2009) (fun d hd => by
    obtain ⟨p, hp, rfl⟩ := List.mem_map.mp hd
    exact dat_tup (k := 0) (B := 1001) (n := 2) (fun d hd => by
      simp only [List.mem_cons, List.not_mem_nil, or_false] at hd
      rcases hd with rfl | rfl
      · exact dat_int (h p hp).1 hk
      · exact dat_int (h p hp).2 hk) (by decide) (Nat.le_refl _)) (by decide) (by rw [List.length_map]; exact hn)
theorem intL_low (n : Int) : ∀ c ∈ intL n, c < 128 := fun c hc => by
  unfold intL at hc
  split at hc
  · rcases List.mem_cons.mp hc with e | e
    · omega
    · have := TL.numL_digits _ c e
      omega
  · have := TL.numL_digits _ c hc
    omega
theorem lookL_low (p : Int × Int) : ∀ c ∈ lookL p, c < 128 := fun c hc => by
  unfold lookL at hc
  rcases List.mem_append.mp hc with e | e
  · exact intL_low _ c e
  · rcases List.mem_cons.mp e with e | e
    · omega
    · exact intL_low _ c e
theorem joinL_low : ∀ {ws : List (List Nat)}, (∀ x ∈ ws, ∀ c ∈ x, c < 128) → ∀ c ∈ TL.joinL [32] ws, c < 128
  | [], _ => fun c hc => (List.not_mem_nil hc).elim
  | [p], h => h p (List.mem_singleton.mpr rfl)
  | p :: q :: r, h => fun c hc => by
    have hc : c ∈ p ++ ([32] ++ TL.joinL [32] (q :: r)) := hc
    rcases List.mem_append.mp hc with e | e
    · exact h p List.mem_cons_self c e
    · rcases List.mem_append.mp e with e | e
      · rw [List.mem_singleton.mp e]
        omega
      · exact joinL_low (fun x hx => h x (List.mem_cons_of_mem _ hx)) c e
theorem dat_words {ws : List (List Nat)} {k n : Nat} (h : ∀ x ∈ ws, x.length ≤ k ∧ ∀ c ∈ x, c < 128) (hn : ws.length ≤ n) : Dat 0 (10 * ((k + 1) * n) + 2) (.str (wordsS ws)) := by
  refine dat_str (fun c hc => ?_) ?_
  · rw [tl_words] at hc
    exact joinL_low (fun x hx => (h x hx).2) c hc
  · exact Nat.le_trans (words_len fun x hx => (h x hx).1) (Nat.mul_le_mul_left _ hn)
theorem dat_row {ns : List Int} {k n : Nat} (hk : 0 < k) (h : ∀ x ∈ ns, x.natAbs < 10 ^ k) (hn : ns.length ≤ n) : Dat 0 (10 * ((k + 1 + 1) * n) + 2) (.str (wordsS (ns.map intL))) :=
  dat_words (fun x hx => by
    obtain ⟨m, hm, rfl⟩ := List.mem_map.mp hx
    exact ⟨intL_len hk (h m hm), intL_low m⟩) (by rw [List.length_map]; exact hn)
theorem dat_looks {ps : List (Int × Int)} {k n : Nat} (hk : 0 < k) (h : ∀ p ∈ ps, p.1.natAbs < 10 ^ k ∧ p.2.natAbs < 10 ^ k) (hn : ps.length ≤ n) : Dat 0 (10 * ((2 * k + 3 + 1) * n) + 2) (.str (wordsS (ps.map lookL))) :=
  dat_words (fun x hx => by
    obtain ⟨p, hp, rfl⟩ := List.mem_map.mp hx
    exact ⟨look_len hk (h p hp).1 (h p hp).2, lookL_low p⟩) (by rw [List.length_map]; exact hn)
end Sd

namespace Sd
open PySem PySem.Spec PyProof.Rows L2
section
variable {P : Program} {w : World} {A : Around} {E : Value → Shared → Prop} {s : Shared}
/-- the set object just made -/
abbrev bareSet (w : World) : Obj := { cls := .type "set", dict := none, data := .set #[] 0 (.fresh 0 0 (!w.params.followText "set-order")) }
/-- what set.__init__ leaves -/
def InitI (w : World) (s : Shared) (ns : List Int) (s₂ : Shared) : Prop := ∃ h' tk c, s₂ = { s with heap := h', toks := tk } ∧ SetR w h' s.heap.objs.size (fun j => decide (j ∈ ns)) c ∧ c ≤ ns.length ∧ ∀ b o, s.heap.get? b = some o → h'.get? b = some o
/-- set.__init__ of a bare set with a list of ints -/
theorem init_ints {l : Addr} {items : Array Value} (ns : List Int) (hh : A.handled = none) (hl : s.heap.IsList l items) (hit : IntsAre items.toList ns) (hb : ns.length + 1 < scanBound) :
    codeAny (model P w) A (.call (.builtin "set.__init__") ⟨[.ref s.heap.objs.size, .ref l], []⟩) (wants (fun r s₂ => r = .none ∧ InitI w s ns s₂) E) { s with heap := s.heap.push (bareSet w) } := by
  have hS : (s.heap.push (bareSet w)).get? s.heap.objs.size = some (bareSet w) := Heap.get?_push_size _ rfl
  have hT : Shared.TypeIs { s with heap := s.heap.push (bareSet w) } (.ref s.heap.objs.size) "set" := ⟨_, hS, rfl⟩
  have hz : items.size = ns.length := by
    have q := IntsAre.length hit
    rwa [Array.length_toList] at q
  have val : ∀ (i : Nat) (v : Value), items[i]? = some v → ∃ k t, ns[i]? = some k ∧ v = .int k t := fun i v hv => by
    have hi : i < ns.length := by rw [← hz]; exact (Array.getElem?_eq_some_iff.mp hv).1
    obtain ⟨t, e⟩ := PyProof.Rows.IntsAre.int_at hit i v (by rw [Array.getElem?_toList]; exact hv)
    exact ⟨ns[i], t, List.getElem?_eq_getElem hi, by rw [e, List.getD_eq_getElem?_getD, List.getElem?_eq_getElem hi]; rfl⟩
  have isL : (s.heap.push (bareSet w)).IsList l items := hl.push _
  have lt : l < s.heap.objs.size := let ⟨_, h, _⟩ := hl; Heap.lt_size h
  refine codeAny_call_builtin F.called_set.init.plain F.entry_set_init (check_set_init_1 hT ?_)
  obtain ⟨ol, hol, hcl, nl, hdl⟩ := isL
  obtain ⟨ocls, odict, odata, oslots⟩ := ol
  simp only at hcl hdl
  subst hcl; subst hdl
  have sub1 := F.sub_list_set
  have sub2 := F.sub_list_frozenset
  have ne : (Value.type "list" == Value.type "dict") = false := by decide
  unfold Builtin.«set.__init__» noKeywords Builtin.Frozenset.updateFrom
  generalize hPI : pyIter = PI
  wp_walk
  subst hPI
  have isL : (s.heap.push (bareSet w)).IsList l items := ⟨_, hol, rfl, nl, rfl⟩
  have size1 : (s.heap.push (bareSet w)).objs.size = s.heap.objs.size + 1 := Heap.size_push ..
  have apart : l ≠ (s.heap.push (bareSet w)).objs.size := Nat.ne_of_lt (by rw [size1]; exact Nat.lt_succ_of_lt lt)
  have out : s.heap.objs.size ∉ [(s.heap.push (bareSet w)).objs.size, l] := fun h => by
    rcases List.mem_cons.mp h with e | e
    · rw [size1] at e
      exact absurd e (Nat.ne_of_lt (Nat.lt_succ_self _))
    · exact absurd (List.mem_singleton.mp e) (Nat.ne_of_gt lt)
  have h3 : A.in1.in1.handled = none := by simp [hh]
  refine wpAny_pyIter_list isL ?_
  refine wpAny_bind (wpAny_runValue ?_)
  refine set_update_ints ((Walks.list h3 _ l apart items).toS) s.heap.objs.size out ns hz hb val (items.size - 0) 0 _ (by omega) (Nat.zero_le _)
    ⟨⟨_, Heap.get?_push_size _ rfl, rfl, rfl⟩, (isL.push _)⟩ ?a1 ?a2
  case a1 =>
    have hg : ((s.heap.push (bareSet w)).push { cls := .type "list_iterator", data := .fields #[.ref l, .int 0 0] }).get? s.heap.objs.size = some (bareSet w) := Heap.get?_push_of_some _ hS
    exact ⟨0, Nat.le_refl 0, setR_new_at hg⟩
  case a2 =>
    intro s' c' hm hc' hS'
    obtain ⟨h', g2, d', tk', os'⟩ := s'
    have eg : g2 = s.gens := hm.gens
    have ed : d' = s.drawn := hm.drawn
    have eo : os' = s.os := hm.os
    subst eg ed eo
    refine wpAny_pure ?_
    refine wpAny_pure ⟨rfl, h', tk', c', rfl, hS', by omega, fun b o e => ?_⟩
    have b0 : b < s.heap.objs.size := Heap.lt_size e
    refine hm.heap b o (fun h => ?_) (Heap.get?_push_of_some _ (Heap.get?_push_of_some _ e))
    rcases List.mem_cons.mp h with z | z
    · exact absurd z (Nat.ne_of_lt b0)
    · have q := List.mem_singleton.mp z
      rw [size1] at q
      exact absurd q (Nat.ne_of_lt (Nat.lt_succ_of_lt b0))
/-- set(xs), xs a list of ints -/
theorem call_set_intsL {l : Addr} {items : Array Value} (ns : List Int) {Q : Value → Shared → Prop} (hh : A.handled = none) (hl : s.heap.IsList l items) (hit : IntsAre items.toList ns) (hb : ns.length + 1 < scanBound)
    (h : ∀ s₂, InitI w s ns s₂ → Q (.ref s.heap.objs.size) s₂) : wpAny (model P w) A (call (.type "set") [.ref l]) Q E s := by
  obtain ⟨c, tl, hmro⟩ := F.called_set.mro
  have hmade := F.called_set.made
  have hsub := F.called_set.sub
  have h1 := F.called_set.notType
  have h2 := F.called_set.canCreate
  have hct := F.typeCall_set_1 (.ref l)
  have hli := F.called_set.init.lookup
  have hbi := F.called_set.init.bind (.ref s.heap.objs.size)
  refine wpAny_call (codeAny_of_tree ?_)
  show wpAny _ _ (callAny (.type "set") _) _ _ _
  refine wpAny_pure ⟨Code.quiet_builtin _ (by decide +kernel), codeAny_builtin F.entry_type_call ?_⟩
  rw [Around.under_plain (weight_type_call_type "set" [.ref l] []) rfl]
  repeat (any_goals (first | assumption | wp_step))
  refine codeAny_mono (code_set_led1 (.ref l) (E := E) (Q₁ := fun obj s₁ => obj = .ref s.heap.objs.size ∧ s₁ = { s with heap := s.heap.push (bareSet w) }) ⟨rfl, rfl⟩) fun r s₁ hr => ?_
  rcases r with e | fl
  · exact hr
  cases fl with
  | ret obj =>
    obtain ⟨rfl, rfl⟩ := hr
    have hS : (s.heap.push (bareSet w)).get? s.heap.objs.size = some (bareSet w) := Heap.get?_push_size _ rfl
    have hT : Shared.TypeIs { s with heap := s.heap.push (bareSet w) } (.ref s.heap.objs.size) "set" := ⟨_, hS, rfl⟩
    repeat (any_goals (first | assumption | wp_step))
    refine codeAny_mono (init_ints (E := E) ns ?_ hl hit hb) fun r₂ s₂ hr₂ => ?_
    · simp [hh]
    rcases r₂ with e | fl₂
    · exact hr₂
    cases fl₂ with
    | ret r =>
      obtain ⟨rfl, hI⟩ := hr₂
      repeat (any_goals (first | assumption | wp_step))
      exact h _ hI
    | _ => exact hr₂.elim
  | _ => exact hr.elim
end
section
variable {X : Cx}
def rSetOfI (K : PySem.W.Frag) (w : World) : List V → Hp → VK → Prop := fun xs H Q => ∃ (l : Addr) (ns : List Int), xs = [V.ref l] ∧ SqL K H l (ns.map V.int) ∧ ns.length < 1000 ∧
  ∀ (a : Addr) (c : Nat), H a = none → c ≤ ns.length → Q (.ref a) (upd H a (SetO w a (fun j => decide (j ∈ ns)) c))
theorem cr_setOfI (hc : X.calm = true) : CallR X (.type "set") (rSetOfI X.K X.w) := by
  intro pins s σ H xs us Q I r h
  obtain ⟨l, ns, rfl, hl, hf, q⟩ := h
  rw [Vals.ref1 r]
  obtain ⟨its, rv, pl, hz⟩ := I.list hl
  have hn : H s.heap.objs.size = none := I.hok.fresh (Nat.le_refl _)
  refine call_set_intsL (P := X.prog) (w := X.w) ns (I.ok.hd hc) pl.isList (by simpa using intsAre_of rv) (by unfold scanBound; omega) fun s₂ hI => ?_
  obtain ⟨h', tk, c, rfl, R, hcn, k⟩ := hI
  exact ⟨.ref s.heap.objs.size, upd H s.heap.objs.size (SetO X.w s.heap.objs.size (fun j => decide (j ∈ ns)) c), I.laid (t' := tk) k (Nat.le_refl _) (setO_new R), rfl, q _ c hn hcn⟩
end
/-! ### a tank whose second number is greater -/
def Stk (H : Hp) (T : Addr) (c : Int) : Prop := ∃ x y z : Int, H T = some (.lst [.int x, .int y, .int z]) ∧ 0 ≤ x ∧ 0 ≤ y ∧ y < 170141183460469231731687303715884105727 ∧ 0 ≤ z ∧ z ≤ c
theorem Stk.some {H : Hp} {T : Addr} {c : Int} (h : Stk H T c) : ∃ o, H T = some o := let ⟨_, _, _, e, _⟩ := h; ⟨_, e⟩
theorem Stk.same {H H' : Hp} {T : Addr} {c : Int} (h : Stk H T c) (s : Same H H') : Stk H' T c := let ⟨x, y, z, e, r⟩ := h; ⟨x, y, z, s _ _ e, r⟩
theorem Stk.ne {H : Hp} {T p : Addr} {c : Int} (h : Stk H T c) (n : H p = none) : p ≠ T := fun e => by
  obtain ⟨o, q⟩ := h.some
  rw [e, q] at n
  cases n
theorem Stk.up {H : Hp} {T p : Addr} {c : Int} {o : HO} (h : Stk H T c) (n : H p = none) : Stk (upd H p o) T c := h.same (new_same n)
theorem Stk.mono {H : Hp} {T : Addr} {c d : Int} (h : Stk H T c) (l : c ≤ d) : Stk H T d := let ⟨x, y, z, e, a, b, r, f, g⟩ := h; ⟨x, y, z, e, a, b, r, f, by omega⟩
theorem Stk.over {H : Hp} {T p : Addr} {c : Int} {o : HO} (h : Stk H T c) (n : p ≠ T) : Stk (upd H p o) T c := let ⟨x, y, z, e, r⟩ := h; ⟨x, y, z, by rw [upd_ne n.symm]; exact e, r⟩
/-! ### a square of a great int -/
def CPow2 (i j : Int) : Prop := j = 2 ∧ 0 ≤ i ∧ i.natAbs < 2 ^ 200
theorem op_pow2 {X : Cx} : OpR X (binaryOp .Pow) (rI CPow2 fun i j => .int (i ^ j.toNat)) := opI fun i j t u s Q E hc q => by
  obtain ⟨rfl, h0, h1⟩ := hc
  by_cases e : (i == 0 || i == 1) = true
  · refine PySem.AutoIntOps.pow_1 (by decide) (by decide) e ?_
    have e2 : i ^ (2 : Int).toNat = i := by
      rcases (Bool.or_eq_true _ _).mp e with z | z
      · rw [eq_of_beq z]; rfl
      · rw [eq_of_beq z]; rfl
    rw [e2] at q
    exact q
  · refine PySem.AutoIntOps.pow_4 (by decide) (by decide) e ?_ ?_ q
    · intro z
      have := eq_of_beq z
      omega
    · intro z
      unfold Builtin.Int.intTooBig at z
      have z3 := of_decide_eq_true z
      have b : Builtin.Int.intBits i ≤ 201 := by
        unfold Builtin.Int.intBits
        have y := PySem.Flt.log2_lt_of (show 0 < 200 by decide) h1
        split <;> omega
      have e : bitsLine = 134217728 := by decide
      rw [e] at z3
      omega
/-! ### rows of bits, sums over bits -/
def bitR : Nat → Nat → List Int
  | 0, _ => []
  | n + 1, b => (((b / 2 ^ n) % 2 : Nat) : Int) :: bitR n b
theorem bitR_len : ∀ n b : Nat, (bitR n b).length = n
  | 0, _ => rfl
  | n + 1, b => by
    show (bitR n b).length + 1 = n + 1
    rw [bitR_len n b]
theorem bitR_at : ∀ {n b i : Nat}, i < n → (bitR n b)[i]? = some (((b / 2 ^ (n - 1 - i)) % 2 : Nat) : Int)
  | 0, _, _, h => absurd h (Nat.not_lt_zero _)
  | n + 1, b, 0, _ => by
    show some (((b / 2 ^ n) % 2 : Nat) : Int) = _
    rw [show n + 1 - 1 - 0 = n by omega]
  | n + 1, b, i + 1, h => by
    show (bitR n b)[i]? = _
    rw [bitR_at (show i < n by omega), show n + 1 - 1 - (i + 1) = n - 1 - i by omega]
theorem bitR_add : ∀ n q b : Nat, bitR n (2 ^ n * q + b) = bitR n b
  | 0, _, _ => rfl
  | n + 1, q, b => by
    show (((2 ^ (n + 1) * q + b) / 2 ^ n % 2 : Nat) : Int) :: bitR n (2 ^ (n + 1) * q + b) = ((b / 2 ^ n % 2 : Nat) : Int) :: bitR n b
    have e : 2 ^ (n + 1) * q = 2 ^ n * (2 * q) := by rw [Nat.pow_succ, Nat.mul_assoc]
    rw [e, bitR_add n (2 * q) b, Nat.mul_add_div (Nat.pow_pos (by decide)), Nat.mul_add_mod]
theorem bitR_01 : ∀ {n b : Nat} {x : Int}, x ∈ bitR n b → 0 ≤ x ∧ x ≤ 1
  | 0, _, _, h => absurd h List.not_mem_nil
  | n + 1, b, x, h => by
    rcases List.mem_cons.mp h with e | e
    · rw [e]
      have := Nat.mod_lt (b / 2 ^ n) (show 0 < 2 by decide)
      omega
    · exact bitR_01 e
def sumsB : List Int → List Int
  | [] => [0]
  | x :: r => sumsB r ++ (sumsB r).map (· + x)
theorem sumsB_len : ∀ xs : List Int, (sumsB xs).length = 2 ^ xs.length
  | [] => rfl
  | x :: r => by
    show (sumsB r ++ (sumsB r).map (· + x)).length = 2 ^ (r.length + 1)
    rw [List.length_append, List.length_map, sumsB_len r, Nat.pow_succ]
    omega
theorem sumsB_at : ∀ {xs : List Int} {b : Nat}, b < 2 ^ xs.length → (sumsB xs)[b]? = some (prods xs (bitR xs.length b)).sum
  | [], b, h => by
    obtain rfl : b = 0 := by
      have : b < 1 := h
      omega
    rfl
  | x :: r, b, h => by
    have h : b < 2 ^ (r.length + 1) := h
    rw [Nat.pow_succ] at h
    show (sumsB r ++ (sumsB r).map (· + x))[b]? = some (prods (x :: r) ((((b / 2 ^ r.length) % 2 : Nat) : Int) :: bitR r.length b)).sum
    show _ = some (x * (((b / 2 ^ r.length) % 2 : Nat) : Int) + (prods r (bitR r.length b)).sum)
    by_cases hb : b < 2 ^ r.length
    · rw [List.getElem?_append_left (by rw [sumsB_len]; exact hb), sumsB_at hb, Nat.div_eq_of_lt hb]
      show _ = some (x * 0 + _)
      rw [Int.mul_zero, Int.zero_add]
    · obtain ⟨c, rfl⟩ : ∃ c, b = 2 ^ r.length * 1 + c := ⟨b - 2 ^ r.length, by omega⟩
      have hc : c < 2 ^ r.length := by omega
      rw [List.getElem?_append_right (by rw [sumsB_len]; omega), sumsB_len, List.getElem?_map, show 2 ^ r.length * 1 + c - 2 ^ r.length = c by omega, sumsB_at hc, bitR_add, Nat.mul_add_div (Nat.pow_pos (by decide)), Nat.div_eq_of_lt hc]
      show some (_ + x) = some (x * 1 + _)
      rw [Int.mul_one, Int.add_comm]
theorem lights_at {ns : List Int} {t : Int} {b : Nat} (h1 : 1 ≤ ns.length) (h : b < 2 ^ ns.length) : (sumsB (rot ns (-t)))[b]? = some (lightV ns (bitR ns.length b) t) := by
  rw [sumsB_at (by rw [rot_len]; exact h), rot_len]
  have e := light_rot1 (ns := ns) (ms := bitR ns.length b) (bitR_len _ _).symm (-t) 0
  rw [show (0 : Int) - -t = t by omega] at e
  rw [← e]
  show _ = some (prods (rot ns (-t)) (rot (bitR ns.length b) 0)).sum
  rw [rot_zero]
/-- the numbers of the rows that fit -/
def okF (ns : List Int) (p : Int × Int) (b : Nat) : Bool := decide (lightV ns (bitR ns.length b) p.1 = p.2)
def fitsF (ns : List Int) (ps : List (Int × Int)) : List Nat := ps.foldl (fun F p => F.filter (okF ns p)) (List.range (2 ^ ns.length))
theorem fits_take {ns : List Int} {ps : List (Int × Int)} {i : Nat} {p : Int × Int} (h : ps[i]? = some p) : fitsF ns (ps.take (i + 1)) = (fitsF ns (ps.take i)).filter (okF ns p) := by
  unfold fitsF
  rw [List.take_add_one, h, List.foldl_append]
  rfl
theorem fits_all (ns : List Int) (ps : List (Int × Int)) : fitsF ns (ps.take ps.length) = fitsF ns ps := by rw [List.take_length]
theorem foldF_len {α : Type} (g : α → Nat → Bool) : ∀ (ps : List α) (F : List Nat), (ps.foldl (fun F p => F.filter (g p)) F).length ≤ F.length
  | [], F => Nat.le_refl _
  | p :: r, F => Nat.le_trans (foldF_len g r (F.filter (g p))) (List.length_filter_le _ _)
theorem foldF_mem {α : Type} (g : α → Nat → Bool) : ∀ (ps : List α) (F : List Nat) {b : Nat}, b ∈ ps.foldl (fun F p => F.filter (g p)) F → b ∈ F
  | [], F, _, h => h
  | p :: r, F, _, h => (List.mem_filter.mp (foldF_mem g r (F.filter (g p)) h)).1
theorem fits_len (ns : List Int) (ps : List (Int × Int)) : (fitsF ns ps).length ≤ 2 ^ ns.length := by
  have := foldF_len (okF ns) ps (List.range (2 ^ ns.length))
  rwa [List.length_range] at this
theorem fits_mem {ns : List Int} {ps : List (Int × Int)} {b : Nat} (h : b ∈ fitsF ns ps) : b < 2 ^ ns.length := List.mem_range.mp (foldF_mem (okF ns) ps _ h)
/-! ### lists of lists of ints -/
inductive LL (H : Hp) : List V → List (List Int) → Prop
  | nil : LL H [] []
  | cons {a : Addr} {r : List Int} {vs : List V} {S : List (List Int)} (h : H a = some (.lst (r.map V.int))) (t : LL H vs S) : LL H (.ref a :: vs) (r :: S)
theorem none_back {H H1 : Hp} {p : Addr} (s : Same H H1) (n : H1 p = none) : H p = none := by
  cases e : H p with
  | none => rfl
  | some o =>
    have := s _ _ e
    rw [n] at this
    cases this
theorem LL.up {H H1 : Hp} {vs : List V} {S : List (List Int)} (h : LL H vs S) (s : Same H H1) : LL H1 vs S := by
  induction h with
  | nil => exact .nil
  | cons h _ ih => exact .cons (s _ _ h) ih
theorem LL.len {H : Hp} {vs : List V} {S : List (List Int)} (h : LL H vs S) : vs.length = S.length := by
  induction h with
  | nil => rfl
  | cons _ _ ih => rw [List.length_cons, List.length_cons, ih]
theorem LL.at {H : Hp} {vs : List V} {S : List (List Int)} (h : LL H vs S) : ∀ {i : Nat} {v : V}, vs[i]? = some v → ∃ a r, v = .ref a ∧ S[i]? = some r ∧ H a = some (.lst (r.map V.int)) := by
  induction h with
  | nil => exact fun e => nomatch e
  | cons h _ ih =>
    intro i v e
    cases i with
    | zero => exact ⟨_, _, (Option.some.inj e).symm, rfl, h⟩
    | succ i => exact ih e
theorem LL.get {H : Hp} {vs : List V} {S : List (List Int)} (h : LL H vs S) : ∀ {i : Nat} {r : List Int}, S[i]? = some r → ∃ a, vs[i]? = some (.ref a) ∧ H a = some (.lst (r.map V.int)) := by
  induction h with
  | nil => exact fun e => nomatch e
  | cons h _ ih =>
    intro i v e
    cases i with
    | zero => exact ⟨_, rfl, by rw [← Option.some.inj e]; exact h⟩
    | succ i => exact ih e
theorem LL.snoc {H : Hp} {vs : List V} {S : List (List Int)} {a : Addr} {r : List Int} (h : LL H vs S) (e : H a = some (.lst (r.map V.int))) : LL H (vs ++ [.ref a]) (S ++ [r]) := by
  induction h with
  | nil => exact .cons e .nil
  | cons h _ ih => exact .cons h ih
end Sd

namespace Sd
open PySem PySem.Spec PyProof.Rows L2
/-! ### enumerate(tuple) -/
theorem meets_enum1 {v : Value} {o : Obj} {G : Heap → Prop} (B : Begins v o G) :
    Meets (Builtin.«enumerate.__new__» ⟨[.type "enumerate", v], []⟩) (fun _ R s => G s.heap ∧
      R (.ok (.ret (.ref (s.heap.push o).objs.size))) { s with heap := (s.heap.push o).push { cls := .type "enumerate", data := .fields #[.none, .bool false, .ref s.heap.objs.size, rawInt 0, .none, .none] } }) :=
  .of_wp fun prog w A R s h => by
    obtain ⟨hp, g, d, tk, os⟩ := s; obtain ⟨h1, h⟩ := h
    have hsub := sub_enumerate
    have go : ∀ {A' : Around} {E : Value → Shared → Prop} {Q : Value → Shared → Prop}, Q (.ref hp.objs.size) ⟨hp.push o, g, d, tk, os⟩ → wpAny (model prog w) A' (pyIter v) Q E ⟨hp, g, d, tk, os⟩ :=
      fun q => B.iter prog w _ _ ⟨hp, g, d, tk, os⟩ _ h1 q
    wp_walk using go
    refine wpAny_stack_any fun st => wpAny_pure ?_
    split
    · rename_i c _ _ _ _ _
      cases (c == Value.type "enumerate") <;>
      · wp_walk using go
        exact ⟨_, rfl, h⟩
    · wp_walk using go
      exact ⟨_, rfl, h⟩
section
variable {P : Program} {w : World} {A : Around} {E : Value → Shared → Prop} {s : Shared}
theorem enum1_begins {v : Value} {o : Obj} {G : Heap → Prop} {Q : Value → Shared → Prop} (B : Begins v o G) (h1 : G s.heap)
    (h : ∀ h', IsEnum h' (s.heap.objs.size + 1) s.heap.objs.size 0 .none → h'.get? s.heap.objs.size = some o → (∀ b u, s.heap.get? b = some u → h'.get? b = some u) → Q (.ref (s.heap.objs.size + 1)) { s with heap := h' }) :
    wpAny (model P w) A (call (.type "enumerate") [v]) Q E s := by
  refine callType_new F.called_enumerate (by decide) (F.typeCall_enumerate_1 _) (F.newCall_enumerate_1 _) (fun obj => F.args_object_init_2 obj _) F.entry_enumerate_new (meets_enum1 B) ⟨h1, ?_⟩
  have hz : (s.heap.push o).objs.size = s.heap.objs.size + 1 := Heap.size_push ..
  show _ ∧ _
  rw [hz]
  have he : IsEnum ((s.heap.push o).push { cls := .type "enumerate", data := .fields #[.none, .bool false, .ref s.heap.objs.size, rawInt 0, .none, .none] }) (s.heap.objs.size + 1) s.heap.objs.size 0 .none := by
    have q := Heap.get?_push_size (s.heap.push o) (o := { cls := .type "enumerate", data := .fields #[.none, .bool false, .ref s.heap.objs.size, rawInt 0, .none, .none] }) rfl
    rw [hz] at q
    exact q
  exact ⟨⟨_, he, rfl⟩, h _ he (Heap.get?_push_of_some _ (Heap.get?_push_size _ B.free)) fun b u x => Heap.get?_push_of_some _ (Heap.get?_push_of_some _ x)⟩
end
/-- a tuple's iterator behind its last item -/
theorem drawn_out {P : Program} {w : World} {A : Around} (hh : A.handled = none) (it t : Addr) (k : Nat) (items : Array Value) (hx : items[k]? = none) :
    Draws P w A it [it, t] 0 (fun _ _ => False) (fun _ h => h.IsTupleIter it t k ∧ h.IsTuple t items) where
  live := fun _ _ st => let ⟨o, ho, _⟩ := st.1; ⟨o, ho⟩
  frame := fun _ _ _ st hk => ⟨st.1.at fun o e => hk it (by simp) o e, st.2.at fun o e => hk t (by simp) o e⟩
  item := fun i s Q E hi => absurd hi (Nat.not_lt_zero _)
  done := fun s Q E st hE => wpAny_nextOf_tuple_end hh st.1 st.2 hx hE
/-- the tuple at a, each item in a new pair -/
def Iet (K : PySem.W.Frag) (a : Addr) : It :=
  ⟨fun i H => ∃ (xs : List V) (x : V), SqT K H a xs ∧ xs[i]? = some x, fun i H v H' => ∃ T x, v = .ref T ∧ H T = none ∧ H' = upd H T (.tup [.int (i : Nat), x]) ∧ ∀ xs, SqT K H a xs → xs[i]? = some x, fun i H => ∃ xs : List V, SqT K H a xs ∧ xs.length ≤ i⟩
theorem turn_enumT {P : Program} {w : World} {K : PySem.W.Frag} {elts : List Expr} {kk : Nat} {tpos : Pos} (a e it : Addr) (hea : e ≠ a) (hai : a ≠ it) :
    Turn P w K (.Tuple elts kk tpos) (Iet K a) [e, it] e (fun i h => (∃ old, IsEnum h e it ((i : Nat) : Int) old) ∧ h.IsTupleIter it a i ∧ e ≠ it) where
  mem := by simp
  obj := fun i h st b hb => by
    obtain ⟨⟨old, he⟩, ⟨o, ho, hc, hd⟩, _⟩ := st
    rcases (by simpa using hb : b = e ∨ b = it) with rfl | rfl
    · exact ⟨_, he, fun v q => nomatch q⟩
    · exact ⟨o, ho, fun v q => by rw [hd] at q; cases q⟩
  keep := fun i h h' st k => let ⟨⟨old, he⟩, hi, hne⟩ := st; ⟨⟨old, k e (by simp) _ he⟩, hi.at fun o q => k it (by simp) o q, hne⟩
  item := by
    intro X hP hw hK hc i pins s σ H E I hf st hg
    subst hP hw hK
    obtain ⟨⟨old, he⟩, hit, hne⟩ := st
    obtain ⟨xs, x, hq, hx⟩ := hg
    obtain ⟨its, rv, p, hz⟩ := I.tuple hq
    obtain ⟨u, hu, ru⟩ := rv.get hx
    have hel : e < s.heap.objs.size := Heap.lt_size he
    have hil : it < s.heap.objs.size := by obtain ⟨_, q, _⟩ := hit; exact Heap.lt_size q
    have pt : s.heap.IsTuple a its.toArray := p
    have hin : i < its.toArray.size := by
      have := (List.getElem?_eq_some_iff.mp hu).1
      simpa using this
    refine wpAny_pyNext_enum_itemC (Draws.tuple (prog := X.prog) (w := X.w) (A := X.A.in1) (by simp [I.ok.hd hc]) it a hai its.toArray) he ⟨hit, pt⟩ hin hne (by simp [hne, hea]) fun v h' tk hv ho hst' hT hsz hk => ?_
    obtain rfl : v = u := by
      have q : its.toArray[i]? = some v := hv
      rw [List.getElem?_toArray, hu] at q
      exact (Option.some.inj q).symm
    refine ⟨_, rfl, wpAny_letOwnedTupleGo_enum (s := { s with heap := h', toks := tk + 1 }) ho fun h'' he' sb => ?_⟩
    have hT2 : h''.get? s.heap.objs.size = some { cls := .type "tuple", data := .seq #[.int i tk, v] } := (sb.2 _ (Nat.ne_of_gt hel)).trans hT
    have new : ObjOk X.prog X.w (upd H s.heap.objs.size (.tup [.int (i : Nat), x])) h'' s.heap.objs.size (.tup [.int (i : Nat), x]) :=
      ⟨by show 2 ≤ sizeLine; decide, [.int i tk, v], .cons ⟨_, rfl⟩ (.cons ru .nil), ⟨_, hT2, rfl, _, rfl⟩⟩
    have I1 : Inv X pins σ (upd H s.heap.objs.size (.tup [.int (i : Nat), x])) { s with heap := h'', toks := tk + 1 } :=
      I.turnedNew (ch := [e, it]) (fun b ob hb q => (sb.2 b (fun z => hb (by simp [z]))).trans (hk b ob (fun z => hb (by simp [z])) (fun z => hb (by simp [z])) q)) hf (Nat.le_refl _) new
    refine ⟨.ref s.heap.objs.size, _, I1, rfl, ⟨_, x, rfl, I.hok.fresh (Nat.le_refl _), rfl, fun ys hy => by rw [I.tuple_inj hy hq]; exact hx⟩, ⟨⟨v, ?_⟩, hst'.1.at fun o q => (sb.2 it (Ne.symm hne)).trans q, hne⟩, fun b hb => ?_⟩
    · rw [show ((i + 1 : Nat) : Int) = (i : Int) + 1 by omega]
      exact he'
    · have hb' : b < s.heap.objs.size := by
        rcases (by simpa using hb : b = e ∨ b = it) with rfl | rfl
        · exact hel
        · exact hil
      rw [upd_ne (Nat.ne_of_lt hb')]
      exact (hf b hb).1
  done := by
    intro X hP hw hK hc i pins s σ H E I hf st hg
    subst hP hw hK
    obtain ⟨⟨old, he⟩, hit, hne⟩ := st
    obtain ⟨xs, hq, hx⟩ := hg
    obtain ⟨its, rv, p, hz⟩ := I.tuple hq
    obtain ⟨f0, f1, f2, f3, f4, f5⟩ := hf it (by simp)
    have hl := rv.length
    have pt : s.heap.IsTuple a its.toArray := p
    have hno : its.toArray[i]? = none := by
      rw [List.getElem?_toArray]
      exact List.getElem?_eq_none (by omega)
    exact wpAny_pyNext_enum_endD (drawn_out (by simp [I.ok.hd hc]) it a i its.toArray hno) he ⟨hit, pt⟩ fun h' eb => ⟨rfl, I.turned (t' := s.toks) (fun b o hb q => eb b o hb q) f0 f1 f3 f4 f5⟩
  self := fun A i s Q E st h => let ⟨⟨_, he⟩, _⟩ := st; wpAny_pyIter_enum he h
def iEnumT (K : PySem.W.Frag) (ta : TA) : TI := fun σ H R => ta σ H fun vs H1 => ∃ a xs, vs = [.ref a] ∧ SqT K H1 a xs ∧ R (Iet K a) H1
theorem pi_enumT {X : Cx} {e : Expr} {ta : TA} {p pos tpos : Pos} {elts : List Expr} {kk : Nat} (hg : Gl X "enumerate") (hm : X.mg "enumerate" = none) (ha : PA X [e] ta) (hs : starEach [e] X.env = [(false, eval e X.env)] := by rfl) :
    PI X (.Tuple elts kk tpos) (.Call (.Name "enumerate" p) [e] [] pos) (iEnumT X.K ta) := by
  refine ⟨fun pins s σ H R I h => ?_⟩
  refine Call_ (ld_blt I hg hm boot_enumerate (PyProof.Rows.callWith_type1 (thn (ha.run pos pins s σ H _ I h) fun us s1 ⟨vs, H1, I1, r1, q1⟩ => ?_) hs rfl))
  obtain ⟨a, xs, rfl, hq, q⟩ := q1
  rw [Vals.ref1 r1]
  obtain ⟨its, rv, p', hz⟩ := I1.tuple hq
  have pt : s1.heap.IsTuple a its.toArray := p'
  have hal : a < s1.heap.objs.size := by
    obtain ⟨o, ho, _⟩ := pt
    exact Heap.lt_size ho
  refine enum1_begins (begins_tuple a its.toArray) pt fun h' he hit hk => wpAny_pyIter_enum he ?_
  have I2 : Inv X pins σ H1 { s1 with heap := h' } := I1.kept (t' := s1.toks) hk
  refine ⟨s1.heap.objs.size + 1, [s1.heap.objs.size + 1, s1.heap.objs.size], _, _, H1, rfl, I2, turn_enumT a (s1.heap.objs.size + 1) s1.heap.objs.size (Nat.ne_of_gt (Nat.lt_succ_of_lt hal)) (Nat.ne_of_lt hal), ⟨⟨.none, he⟩, ⟨_, hit, rfl, rfl⟩, Nat.succ_ne_self _⟩, fun b hb => ?_, q⟩
  have hle : s1.heap.objs.size ≤ b := by
    rcases (by simpa using hb : b = s1.heap.objs.size + 1 ∨ b = s1.heap.objs.size) with z | z
    · rw [z]; exact Nat.le_add_right _ _
    · rw [z]; exact Nat.le_refl _
  exact I1.fpOk hle (I1.hok.fresh hle)
theorem enumT {X : Cx} {K : PySem.W.Frag} {elts : List Expr} {kk : Nat} {tpos p pos : Pos} {e : Expr} {ta : TA} (h : X.K = K) (hg : Gl X "enumerate") (hm : X.mg "enumerate" = none) (ha : PA X [e] ta)
    (hs : starEach [e] X.env = [(false, eval e X.env)] := by rfl) : PI X (.Tuple elts kk tpos) (.Call (.Name "enumerate" p) [e] [] pos) (iEnumT K ta) := h ▸ pi_enumT hg hm ha hs
theorem walk_enumT {K : PySem.W.Frag} {a : Addr} {xs : List V} : Walk (Iet K a) xs.length (fun H => SqT K H a xs) (YPair (fun i => some (.int (i : Nat))) (fun i => xs[i]?)) := by
  refine ⟨fun i _ hi q => ⟨xs, xs[i], q, by simp [hi]⟩, fun _ q => ⟨xs, q, Nat.le_refl _⟩, fun i H v H' _ q y => ?_⟩
  obtain ⟨T, x, h1, h2, h3, h4⟩ := y
  exact ⟨T, .int (i : Nat), x, h1, h2, h3, rfl, h4 xs q⟩
theorem ixTL {X : Cx} {K : PySem.W.Frag} (h : X.K = K) : IxR X (rIxT K) := h ▸ ix_tup
/-- numbers as ints -/
def natI (F : List Nat) : List Int := F.map fun (b : Nat) => (b : Int)
theorem natI_len (F : List Nat) : (natI F).length = F.length := List.length_map ..
theorem natI_at {F : List Nat} {i : Nat} {n : Int} (h : (natI F)[i]? = some n) : ∃ b, F[i]? = some b ∧ n = (b : Int) := by
  unfold natI at h
  rw [List.getElem?_map] at h
  cases e : F[i]? with
  | none => rw [e] at h; cases h
  | some b =>
    rw [e] at h
    exact ⟨b, rfl, (Option.some.inj h).symm⟩
theorem natI_get {F : List Nat} {i b : Nat} (h : F[i]? = some b) : (natI F)[i]? = some (b : Int) := by
  unfold natI
  rw [List.getElem?_map, h]
  rfl
theorem filt_next {α : Type} {F : List α} {g : α → Bool} {i : Nat} {b : α} (h : F[i]? = some b) : (F.take (i + 1)).filter g = (F.take i).filter g ++ (if g b = true then [b] else []) := by
  rw [List.take_add_one, h, List.filter_append]
  show _ ++ List.filter g [b] = _
  by_cases e : g b = true
  · rw [List.filter_cons, if_pos e, if_pos e]
    rfl
  · rw [List.filter_cons, if_neg e, if_neg e]
    rfl
theorem LL.put {H : Hp} {F : Addr} {us : List V} {o : HO} (e : H F = some (.lst us)) : ∀ {vs : List V} {S : List (List Int)}, LL H vs S → (∀ v ∈ vs, v ∈ us) → LL (upd H F o) vs S
  | _, _, .nil, _ => .nil
  | _, _, .cons (a := a) (r := r) h t, m => by
    refine .cons ?_ (LL.put e t fun v hv => m v (List.mem_cons_of_mem _ hv))
    rw [upd_ne fun z => ?_]
    · exact h
    · rw [z, e] at h
      have hm := m _ List.mem_cons_self
      have hr : us = r.map V.int := by
        injection h with h
        injection h
      rw [hr] at hm
      obtain ⟨x, _, q⟩ := List.mem_map.mp hm
      cases q
theorem prods01 {B : Int} : ∀ {ns ms : List Int}, (∀ n ∈ ns, 0 ≤ n ∧ n ≤ B) → (∀ m ∈ ms, 0 ≤ m ∧ m ≤ 1) → 0 ≤ (prods ns ms).sum ∧ (prods ns ms).sum ≤ B * ns.length
  | [], _, _, _ => ⟨Int.le_refl _, by show (0 : Int) ≤ B * 0; omega⟩
  | n :: ns, [], hn, _ => ⟨Int.le_refl _, by
      show (0 : Int) ≤ B * ((ns.length + 1 : Nat) : Int)
      have := hn n List.mem_cons_self
      exact Int.mul_nonneg (by omega) (by omega)⟩
  | n :: ns, m :: ms, hn, hm => by
    obtain ⟨h1, h2⟩ := prods01 (B := B) (ns := ns) (ms := ms) (fun x hx => hn x (List.mem_cons_of_mem _ hx)) (fun x hx => hm x (List.mem_cons_of_mem _ hx))
    have hn1 := hn n List.mem_cons_self
    have hm1 := hm m List.mem_cons_self
    show 0 ≤ n * m + (prods ns ms).sum ∧ n * m + (prods ns ms).sum ≤ B * ((ns.length + 1 : Nat) : Int)
    have hs : B * ((ns.length + 1 : Nat) : Int) = B * (ns.length : Int) + B := by
      rw [Int.natCast_add, Int.mul_add]
      show _ + B * 1 = _
      rw [Int.mul_one]
    rw [hs]
    rcases (show m = 0 ∨ m = 1 by omega) with rfl | rfl
    · rw [Int.mul_zero]
      omega
    · rw [Int.mul_one]
      omega
theorem light01 {ns ms : List Int} {t : Int} (hR : Rim ns) (hm : ∀ m ∈ ms, 0 ≤ m ∧ m ≤ 1) : 0 ≤ lightV ns ms t ∧ lightV ns ms t ≤ 1000000000000000000000000000000 * 40 := by
  obtain ⟨h1, h2⟩ := prods01 hR.all (rot_all (t := t) (P := fun m => 0 ≤ m ∧ m ≤ 1) hm)
  have h3 := hR.le
  refine ⟨h1, Int.le_trans h2 (Int.mul_le_mul_of_nonneg_left (by omega) (by decide))⟩
theorem ab01 {ms : List Int} (hm : ∀ m ∈ ms, 0 ≤ m ∧ m ≤ 1) : Ab 400 ms := fun m h => by
  have := hm m h
  exact Nat.lt_of_le_of_lt (m := 1) (by omega) (by decide +kernel)
theorem LL.but {t : Addr} {H H1 : Hp} (u : But t H H1) : ∀ {vs : List V} {S : List (List Int)}, LL H vs S → (∀ a, V.ref a ∈ vs → a ≠ t) → LL H1 vs S
  | _, _, .nil, _ => .nil
  | _, _, .cons h r, n => .cons (u _ _ h (n _ List.mem_cons_self)) (LL.but u r fun a ha => n a (List.mem_cons_of_mem _ ha))
theorem setOfIL {X : Cx} {K : PySem.W.Frag} {w : World} (h : X.K = K) (hw : X.w = w) (hc : X.calm = true) : CallR X (.type "set") (rSetOfI K w) := by
  subst h hw
  exact cr_setOfI hc
theorem sortedSetL {X : Cx} {w : World} (hw : X.w = w) (hc : X.calm = true) : CallR X (.builtin "sorted") (rSortedSet w) := by
  subst hw
  exact cr_sortedSet hc
end Sd

namespace Sd
open PySem PySem.Spec PyProof.Rows L2
/-! ### a method by keywords alone, len by an own __len__ -/
section
variable {X : Cx} {C : CXT} {k : Nat} {D f : Addr} {fd : FuncData} {ps ks : List Str} {sp : Sp} {E : XK} {m : Str} {apos pos : Pos} {o : Expr} {kws : List Keyword} {ta : TE} {tk : TA} {g : List Value → List Value → List Value} {gV : List V → List V → List V}
def tMethW (D : Addr) (m : Str) (sp : Sp) (gV : List V → List V → List V) (E : XK) (ta : TE) (tk : TA) : TE := fun σ H Q => ta σ H fun x H1 => ∃ a dx fs, x = .ref a ∧ H1 a = some (.ins D dx fs) ∧ fs.lookup m = none ∧
  tk σ H1 fun zs H2 => sp (gV [x] zs) H2 Q E
theorem pe_methW {pl : Sem Bool} (he : PE X o ta) (c : Cls X.K D) (hm : Meth X.K D m f) (F : FnOk X.prog X.w X.K X.mg X.base C k f fd ps sp) (hr : Room k X.A) (hb : KBinds X.K fd ps ks g gV) (hx : Passes C X E) (hkw : PK X kws tk)
    (hall : (backToKw pos (keywordEach kws X.env)).all (·.1.isSome) = true := by rfl) (hks : (backToKw pos (keywordEach kws X.env)).filterMap (·.1) = ks := by rfl)
    (hpl : ((backTo pos (starEach [] X.env)).any (·.1) || (backToKw pos (keywordEach kws X.env)).any (·.1.isNone)) = false := by rfl)
    (ht : eval (.Call (.Attribute o m apos) [] kws pos) X.env = (eval o X.env >>= fun ov => standAt apos.atName >>= fun _ => holding [ov] (getMethod ov m pl) >>= fun p =>
      callWith pos p.1 p.2 (backTo pos (starEach [] X.env)) (backToKw pos (keywordEach kws X.env))) := by rfl) :
    PE X (.Call (.Attribute o m apos) [] kws pos) (tMethW D m sp gV E ta tk) := by
  refine ⟨fun pins s σ H Q I h => ?_⟩
  refine PySem.W.methodCall_KW (pl := pl) (thn (he.run pins s σ H _ I h) fun u s1 z => ?_) ht
  obtain ⟨x, H1, I1, rx, a, dx, fs, ex, ea, l, q⟩ := z
  subst ex
  have eu : u = Value.ref a := rx
  subst eu
  refine getmeth_ok I1 ea c hm l ?_
  refine PySem.W.callWith_KW0 (first := [Value.ref a]) (h₀ := X.base) I.ok.mod.kin hm.kp hall (thn (hkw.run pos pins s1 σ H1 _ I1 q) fun ws s2 y => ?_) hpl
  obtain ⟨zs, H2, I2, rz, q2⟩ := y
  refine ⟨I2.kIn, ?_⟩
  rw [hks]
  exact run_fnk (us := [Value.ref a]) (vs := [V.ref a]) F hr hb hx I2 (.cons rfl .nil) rz q2
def rLenOwn (D : Addr) (sp : Sp) (E : XK) : List V → Hp → VK → Prop := fun xs H Q => ∃ a dx fs, xs = [.ref a] ∧ H a = some (.ins D dx fs) ∧ sp [.ref a] H (fun v H' => ∃ n : Int, v = .int n ∧ 0 ≤ n ∧ n < 2 ^ 63 ∧ Q (.int n) H') E
theorem cr_lenOwn (c : Cls X.K D) (hm : Meth X.K D "__len__" f) (F : FnOk X.prog X.w X.K X.mg X.base C k f fd ps sp) (hr : Room (k + 1) X.A) (hb : Binds X.K fd ps []) (hx : Passes C X E) : CallR X (.builtin "len") (rLenOwn D sp E) := by
  intro pins s σ H xs us Q I r h
  obtain ⟨a, dx, fs, rfl, ea, q⟩ := h
  rw [Vals.ref1 r]
  obtain ⟨mA, O, _⟩ := ins_get I.hok ea
  obtain ⟨od, J, _⟩ := O.look
  obtain ⟨m0, hF⟩ := I.fr
  refine PySem.W.len_K hF I.ok.mod.kin J hm.at_ hm.fn ?_
  have hl : ([Value.ref a] ++ []).length = ps.length := by
    have := F.len _ _ _ _ q
    exact this
  refine wpAny_call (codeAny_mono (F.run X.A.in1 X.stack s H ⟨[.ref a], []⟩ [.ref a] [.ref a] _ E hr.in1 I.env0.in1 (hb s [.ref a] I.kIn hl) (.cons rfl .nil) q) fun r s' hq => ?_)
  cases r with
  | error er => exact hx pins σ H s er s' I hq
  | ok fl =>
    cases fl with
    | ret u =>
      obtain ⟨v, H', I3, rv, n, ev, n0, n1, q3⟩ := I.after hq
      subst ev
      obtain ⟨t, eu⟩ := (show ∃ t, u = Value.int n t from rv)
      subst eu
      exact ⟨⟨n0, n1⟩, .int n, H', I3.tok _, ⟨_, rfl⟩, q3⟩
    | next => exact False.elim hq
    | brk => exact False.elim hq
    | cont => exact False.elim hq
end
/-! ### calls of live discs -/
inductive LC where
  | turn (n : Int)
  | slot (s : Nat) (l : Int)
  | flip
def sTurn : Str := "turn"
def sSlot : Str := "slot"
def sMir : Str := "mirror"
def LC.v : LC → List V
  | .turn n => [.str sTurn, .int n]
  | .slot s l => [.str sSlot, .int s, .int l]
  | .flip => [.str sMir]
def LC.d : LC → PyData
  | .turn n => .tuple [.str sTurn, .int n]
  | .slot s l => .tuple [.str sSlot, .int s, .int l]
  | .flip => .tuple [.str sMir]
abbrev LS := List Int × Int
def LC.on (st : LS) : LC → LS
  | .turn n => (st.1, (st.2 + n) % (st.1.length : Int))
  | .slot s l => (st.1.set s l, st.2)
  | .flip => (mir st.1, st.2)
def LC.ok (n : Nat) : LC → Prop
  | .turn k => k.natAbs < 10 ^ 40
  | .slot s l => s < n ∧ 0 ≤ l ∧ l ≤ 1000000000000000000000000000000
  | .flip => True
def LSok (n : Nat) (st : LS) : Prop := Rim st.1 ∧ st.1.length = n ∧ 0 ≤ st.2 ∧ st.2 < n
theorem rim_set {ns : List Int} {s : Nat} {l : Int} (h : Rim ns) (h0 : 0 ≤ l) (h1 : l ≤ 1000000000000000000000000000000) : Rim (ns.set s l) :=
  ⟨by rw [List.length_set]; exact h.pos, by rw [List.length_set]; exact h.le, fun x hx => by
    rcases List.mem_or_eq_of_mem_set hx with h2 | h2
    · exact h.all x h2
    · rw [h2]
      exact ⟨h0, h1⟩⟩
theorem LC.on_ok {n : Nat} {st : LS} (h : LSok n st) {c : LC} (hc : c.ok n) : LSok n (c.on st) := by
  obtain ⟨hR, hl, h0, h1⟩ := h
  cases c with
  | turn k =>
    have p := hR.pos
    exact ⟨hR, hl, Int.emod_nonneg _ (by show ((st.1.length : Nat) : Int) ≠ 0; omega), by
      have := Int.emod_lt_of_pos (st.2 + k) (show (0 : Int) < (st.1.length : Int) by omega)
      show (st.2 + k) % (st.1.length : Int) < n
      omega⟩
  | slot s l => exact ⟨rim_set hR hc.2.1 hc.2.2, by show (st.1.set s l).length = n; rw [List.length_set, hl], h0, h1⟩
  | flip => exact ⟨hR.mir, by show (mir st.1).length = n; rw [mir_len, hl], h0, h1⟩
theorem LC.dp {K : PySem.W.Frag} {H : Hp} {t : Addr} {c : LC} (h : H t = some (.tup c.v)) : Dp K H (.ref t) c.d := by
  cases c with
  | turn n => exact .tup (SqT.of h) (.cons (.str _) (.cons (.int _) .nil))
  | slot s l => exact .tup (SqT.of h) (.cons (.str _) (.cons (.int _) (.cons (.int _) .nil)))
  | flip => exact .tup (SqT.of h) (.cons (.str _) .nil)
theorem low_of (s : String) (h : (s.toList.all fun c => decide (c.toNat < 128)) = true) : ∀ c ∈ TL.tl (Str.ofString s), c < 128 := fun c hc => by
  rw [tl_ofString] at hc
  obtain ⟨x, hx, rfl⟩ := List.mem_map.mp hc
  exact of_decide_eq_true (List.all_eq_true.mp h x hx)
theorem dat_word {s : String} (h : (s.toList.all fun c => decide (c.toNat < 128)) = true) (hl : (Str.ofString s).length ≤ 90) : Dat 0 1001 (.str (Str.ofString s)) :=
  (dat_str (low_of s h) hl).mono (Nat.le_refl _) (by omega)
theorem LC.dat {n : Nat} {c : LC} (h : c.ok n) (hn : n ≤ 40) : Dat 1 3012 c.d := by
  have w1 : Dat 0 1001 (.str sTurn) := dat_word (s := "turn") (by decide) (by decide)
  have w2 : Dat 0 1001 (.str sSlot) := dat_word (s := "slot") (by decide) (by decide)
  have w3 : Dat 0 1001 (.str sMir) := dat_word (s := "mirror") (by decide) (by decide)
  have e30 : (10 : Nat) ^ 40 = 10000000000000000000000000000000000000000 := by decide +kernel
  cases c with
  | turn k => exact dat_tup (k := 0) (B := 1001) (n := 3) (fun d hd => by
      simp only [List.mem_cons, List.not_mem_nil, or_false] at hd
      rcases hd with rfl | rfl
      · exact w1
      · exact dat_int (k := 40) h (by decide)) (by decide) (by show 2 ≤ 3; decide)
  | slot s l => exact dat_tup (k := 0) (B := 1001) (n := 3) (fun d hd => by
      simp only [List.mem_cons, List.not_mem_nil, or_false] at hd
      obtain ⟨h1, h2, h3⟩ := h
      rcases hd with rfl | rfl | rfl
      · exact w2
      · exact dat_int (k := 40) (by rw [e30]; omega) (by decide)
      · exact dat_int (k := 40) (by rw [e30]; omega) (by decide)) (by decide) (by show 3 ≤ 3; decide)
  | flip => exact dat_tup (k := 0) (B := 1001) (n := 3) (fun d hd => by
      simp only [List.mem_cons, List.not_mem_nil, or_false] at hd
      rcases hd with rfl
      exact w3) (by decide) (by decide)
/-! ### how live discs stand: Z: what others change -/
inductive StsAt (Z : Addr → Prop) (S L : Addr) (H : Hp) : List V → List LS → Prop
  | nil : StsAt Z S L H [] []
  | cons {t o : Addr} {s : LS} {us : List V} {ss : List LS} (h : H t = some (.tup [.ref o, .int s.2])) (g : H o = some (.lst (s.1.map V.int))) (f1 : ¬ Z t) (f2 : ¬ Z o) (n1 : o ≠ S) (n2 : o ≠ L) (r : StsAt Z S L H us ss) : StsAt Z S L H (.ref t :: us) (s :: ss)
inductive ClsAt (Z : Addr → Prop) (H : Hp) : List V → List LC → Prop
  | nil : ClsAt Z H [] []
  | cons {t : Addr} {c : LC} {us : List V} {cs : List LC} (h : H t = some (.tup c.v)) (f1 : ¬ Z t) (r : ClsAt Z H us cs) : ClsAt Z H (.ref t :: us) (c :: cs)
def Lst (H : Hp) (a : Addr) : Prop := ∃ xs, H a = some (.lst xs)
theorem tup_ne {H : Hp} {t a : Addr} {xs : List V} (h : H t = some (.tup xs)) (l : Lst H a) : t ≠ a := fun e => by
  obtain ⟨ys, l⟩ := l
  rw [e, l] at h
  cases h
theorem StsAt.up {Z : Addr → Prop} {H H' : Hp} {S L : Addr} {us : List V} {ss : List LS} (h : StsAt Z S L H us ss) (hS : Lst H S) (hL : Lst H L) (k : ∀ b x, H b = some x → ¬ Z b → b ≠ S → b ≠ L → H' b = some x) : StsAt Z S L H' us ss := by
  induction h with
  | nil => exact .nil
  | cons h g f1 f2 n1 n2 _ ih => exact .cons (k _ _ h f1 (tup_ne h hS) (tup_ne h hL)) (k _ _ g f2 n1 n2) f1 f2 n1 n2 ih
theorem ClsAt.up {Z : Addr → Prop} {H H' : Hp} {S L : Addr} {us : List V} {cs : List LC} (h : ClsAt Z H us cs) (hS : Lst H S) (hL : Lst H L) (k : ∀ b x, H b = some x → ¬ Z b → b ≠ S → b ≠ L → H' b = some x) : ClsAt Z H' us cs := by
  induction h with
  | nil => exact .nil
  | cons h f1 _ ih => exact .cons (k _ _ h f1 (tup_ne h hS) (tup_ne h hL)) f1 ih
theorem StsAt.len {Z : Addr → Prop} {H : Hp} {S L : Addr} {us : List V} {ss : List LS} (h : StsAt Z S L H us ss) : us.length = ss.length := by
  induction h with
  | nil => rfl
  | cons _ _ _ _ _ _ _ ih => rw [List.length_cons, List.length_cons, ih]
theorem ClsAt.len {Z : Addr → Prop} {H : Hp} {us : List V} {cs : List LC} (h : ClsAt Z H us cs) : us.length = cs.length := by
  induction h with
  | nil => rfl
  | cons _ _ _ ih => rw [List.length_cons, List.length_cons, ih]
theorem StsAt.snoc {Z : Addr → Prop} {H : Hp} {S L t o : Addr} {s : LS} {us : List V} {ss : List LS} (h : StsAt Z S L H us ss) (e : H t = some (.tup [.ref o, .int s.2])) (g : H o = some (.lst (s.1.map V.int))) (f1 : ¬ Z t) (f2 : ¬ Z o) (n1 : o ≠ S) (n2 : o ≠ L) :
    StsAt Z S L H (us ++ [.ref t]) (ss ++ [s]) := by
  induction h with
  | nil => exact .cons e g f1 f2 n1 n2 .nil
  | cons h g f1 f2 n1 n2 _ ih => exact .cons h g f1 f2 n1 n2 ih
theorem ClsAt.snoc {Z : Addr → Prop} {H : Hp} {t : Addr} {c : LC} {us : List V} {cs : List LC} (h : ClsAt Z H us cs) (e : H t = some (.tup c.v)) (f1 : ¬ Z t) : ClsAt Z H (us ++ [.ref t]) (cs ++ [c]) := by
  induction h with
  | nil => exact .cons e f1 .nil
  | cons h f1 _ ih => exact .cons h f1 ih
theorem ClsAt.dp {K : PySem.W.Frag} {Z : Addr → Prop} {H : Hp} {us : List V} {cs : List LC} (h : ClsAt Z H us cs) : DpAll K H us (cs.map LC.d) := by
  induction h with
  | nil => exact .nil
  | cons h _ _ ih => exact .cons (LC.dp h) ih
/-- the last state -/
theorem StsAt.last {Z : Addr → Prop} {H : Hp} {S L : Addr} {s : LS} : ∀ {us : List V} {ss : List LS}, StsAt Z S L H us (ss ++ [s]) → ∃ t o, atI us (-1) = some (.ref t) ∧ H t = some (.tup [.ref o, .int s.2]) ∧ H o = some (.lst (s.1.map V.int)) ∧ ¬ Z t ∧ ¬ Z o ∧ o ≠ S ∧ o ≠ L := by
  intro us ss h
  have hl := h.len
  rw [List.length_append] at hl
  have hl : us.length = ss.length + 1 := hl
  have key : ∀ {us : List V} {ss : List LS}, StsAt Z S L H us (ss ++ [s]) → ∃ t o, us[ss.length]? = some (.ref t) ∧ H t = some (.tup [.ref o, .int s.2]) ∧ H o = some (.lst (s.1.map V.int)) ∧ ¬ Z t ∧ ¬ Z o ∧ o ≠ S ∧ o ≠ L := by
    intro us ss
    induction ss generalizing us with
    | nil =>
      intro h
      cases h with
      | cons h g f1 f2 n1 n2 r => exact ⟨_, _, rfl, h, g, f1, f2, n1, n2⟩
    | cons x ss ih =>
      intro h
      cases h with
      | cons h g f1 f2 n1 n2 r => exact ih r
  obtain ⟨t, o, e, r⟩ := key h
  refine ⟨t, o, ?_, r⟩
  have h1 : 0 < us.length := by omega
  have e2 : us = us.take ss.length ++ [.ref t] := by
    have h2 := List.take_append_drop ss.length us
    have h3 : us.drop ss.length = [.ref t] := by
      rw [List.drop_eq_getElem_cons (by omega), List.drop_of_length_le (by omega)]
      rw [List.getElem?_eq_getElem (by omega)] at e
      rw [Option.some.inj e]
    rw [h3] at h2
    exact h2.symm
  rw [e2]
  exact atI_last _ _
structure LiveAt (C : Addr) (Z : Addr → Prop) (H : Hp) (p D S L : Addr) (ns : List Int) (ss : List LS) (cs : List LC) : Prop where
  ob : ∃ dx, H p = some (.ins C dx (putF "_log" (.ref L) (putF "_states" (.ref S) (putF "_disc" (.ref D) []))))
  gD : H D = some (.lst (ns.map V.int))
  gS : ∃ us, H S = some (.lst us) ∧ StsAt Z S L H us ss
  gL : ∃ ws, H L = some (.lst ws) ∧ ClsAt Z H ws cs
  fD : ¬ Z D
  fS : ¬ Z S
  fL : ¬ Z L
  fp : ¬ Z p
  DS : D ≠ S
  DL : D ≠ L
  SL : S ≠ L
  rim : Rim ns
  sok : ∀ s ∈ ss, LSok ns.length s
  cok : ∀ c ∈ cs, c.ok ns.length
  len : ss.length = cs.length + 1
  many : cs.length ≤ 1000
  zst : ∀ z, Z z → H z ≠ none
theorem LiveAt.up {C : Addr} {Z : Addr → Prop} {H H' : Hp} {p D S L : Addr} {ns : List Int} {ss : List LS} {cs : List LC} (h : LiveAt C Z H p D S L ns ss cs) (k : ∀ b x, H b = some x → ¬ Z b → H' b = some x) (hz : ∀ z, Z z → H' z ≠ none) : LiveAt C Z H' p D S L ns ss cs := by
  obtain ⟨us, e1, r1⟩ := h.gS
  obtain ⟨ws, e2, r2⟩ := h.gL
  obtain ⟨dx, e0⟩ := h.ob
  exact { h with
    ob := ⟨dx, k _ _ e0 h.fp⟩
    gD := k _ _ h.gD h.fD
    gS := ⟨us, k _ _ e1 h.fS, r1.up ⟨_, e1⟩ ⟨_, e2⟩ fun b x e n _ _ => k b x e n⟩
    gL := ⟨ws, k _ _ e2 h.fL, r2.up ⟨_, e1⟩ ⟨_, e2⟩ fun b x e n _ _ => k b x e n⟩
    zst := hz }
theorem stay_some {H H' : Hp} {z : Addr} (n : H z ≠ none) (k : ∀ x, H z = some x → H' z = some x) : H' z ≠ none := by
  cases e : H z with
  | none => exact absurd e n
  | some x =>
    rw [k x e]
    exact fun y => nomatch y
theorem LiveAt.same {C : Addr} {Z : Addr → Prop} {H H' : Hp} {p D S L : Addr} {ns : List Int} {ss : List LS} {cs : List LC} (h : LiveAt C Z H p D S L ns ss cs) (s : Same H H') : LiveAt C Z H' p D S L ns ss cs :=
  h.up (fun b x e _ => s b x e) fun z hz => stay_some (h.zst z hz) fun x e => s _ _ e
theorem LiveAt.but {T C : Addr} {H H' : Hp} {p D S L : Addr} {ns : List Int} {ss : List LS} {cs : List LC} (h : LiveAt C (· = T) H p D S L ns ss cs) (s : But T H H') (n : H' T ≠ none) : LiveAt C (· = T) H' p D S L ns ss cs :=
  h.up (fun b x e f => s b x e f) fun z hz => hz ▸ n
theorem LiveAt.new {C : Addr} {Z : Addr → Prop} {H : Hp} {p D S L : Addr} {ns : List Int} {ss : List LS} {cs : List LC} (h : LiveAt C Z H p D S L ns ss cs) {a : Addr} (n : H a = none) : ¬ Z a := fun z => h.zst a z n
theorem lf_disc {D S L : Addr} : (putF "_log" (V.ref L) (putF "_states" (V.ref S) (putF "_disc" (V.ref D) []))).lookup ("_disc" : Str) = some (.ref D) := by
  rw [lookup_putF, if_neg (by decide +kernel), lookup_putF, if_neg (by decide +kernel), lookup_putF, if_pos rfl]
theorem lf_states {D S L : Addr} : (putF "_log" (V.ref L) (putF "_states" (V.ref S) (putF "_disc" (V.ref D) []))).lookup ("_states" : Str) = some (.ref S) := by
  rw [lookup_putF, if_neg (by decide +kernel), lookup_putF, if_pos rfl]
theorem lf_log {D S L : Addr} : (putF "_log" (V.ref L) (putF "_states" (V.ref S) (putF "_disc" (V.ref D) []))).lookup ("_log" : Str) = some (.ref L) := by
  rw [lookup_putF, if_pos rfl]
theorem lf_no {D S L : Addr} {m : Str} (h1 : m ≠ "_log") (h2 : m ≠ "_states") (h3 : m ≠ "_disc") : (putF "_log" (V.ref L) (putF "_states" (V.ref S) (putF "_disc" (V.ref D) []))).lookup m = none := by
  rw [lookup_putF, if_neg h1, lookup_putF, if_neg h2, lookup_putF, if_neg h3]
  rfl
/-- all stays but the states and the log -/
def ButLS (S L : Addr) (H H' : Hp) : Prop := ∀ b x, H b = some x → b ≠ S → b ≠ L → H' b = some x
theorem ButLS.trans {S L : Addr} {H H1 H2 : Hp} (a : ButLS S L H H1) (b : ButLS S L H1 H2) : ButLS S L H H2 := fun c o h n m => b c o (a c o h n m) n m
theorem ButLS.of {S L : Addr} {H H' : Hp} (s : Same H H') : ButLS S L H H' := fun b o h _ _ => s b o h
end Sd

namespace Sd
open PySem PySem.Spec PyProof.Rows L2
/-! ### == and != by an own __eq__, with either answer -/
section
variable {X : Cx} {C : CXT} {k : Nat} {D f : Addr} {fd : FuncData} {ps : List Str} {sp : Sp} {E : XK}
def rOwnEq (D : Addr) (sp : Sp) (E : XK) (neg : Bool) : V → V → Hp → VK → Prop := fun x y H Q => ∃ a b dx dy fs gs, x = .ref a ∧ y = .ref b ∧ H a = some (.ins D dx fs) ∧ H b = some (.ins D dy gs) ∧ sp [.ref a, .ref b] H (fun v H' => ∃ r : Bool, v = .bl r ∧ Q (.bl (if neg then !r else r)) H') E
theorem own_run {A : Around} {pins : List (Addr × Obj)} {σ : L2.St} {H : Hp} {s : Shared} {Q : Bool → Hp → Prop} {a b : Addr} {E' : Value → Shared → Prop} (G : FnOk X.prog X.w X.K X.mg X.base C k f fd ps sp) (hr : Room k A) (hA : A.frames = X.A.frames) (hb : Binds X.K fd ps [])
    (hx : ∀ e s', C X.stack H s E e s' → E' e s') (I : Inv X pins σ H s) (q : sp [.ref a, .ref b] H (fun v H' => ∃ r : Bool, v = .bl r ∧ Q r H') E) :
    wpAny (model X.prog X.w) A (call (.ref f) [.ref a, .ref b]) (fun v s' => ∃ (r : Bool) (H' : Hp), v = .bool r ∧ Inv X pins σ H' s' ∧ Q r H') E' s := by
  have e0 : Env0 X.prog X.w X.K X.mg X.base A X.stack s H := by
    have e := I.env0
    exact ⟨by rw [hA]; exact e.frames, e.mod, e.bs, e.bsz, e.funs, e.frf, e.hok, e.bare⟩
  have hl := G.len _ _ _ _ q
  have bi := hb s [.ref a, .ref b] I.kIn (by simpa using hl)
  have vv : Vals [V.ref a, V.ref b] ([Value.ref a, Value.ref b] ++ []) := .cons rfl (.cons rfl .nil)
  refine wpAny_call (codeAny_mono (G.run A X.stack s H ⟨[.ref a, .ref b], []⟩ ([.ref a, .ref b] ++ []) [.ref a, .ref b] _ E hr e0 bi vv q) fun r s' hq => ?_)
  cases r with
  | error e => exact hx e s' hq
  | ok fl =>
    cases fl with
    | ret u =>
      obtain ⟨v, H', I', rv, r, ev, q'⟩ := I.after hq
      subst ev
      have eu : u = Value.bool r := rv
      exact ⟨r, H', eu, I', q'⟩
    | next => exact False.elim hq
    | brk => exact False.elim hq
    | cont => exact False.elim hq
theorem op_eqOwn (hm : Meth X.K D "__eq__" f) (G : FnOk X.prog X.w X.K X.mg X.base C k f fd ps sp) (hr : Room k X.A) (hb : Binds X.K fd ps []) (hx : Passes C X E) : OpR X (compareOp .Eq) (rOwnEq D sp E false) := by
  intro pins s σ H x y v u Q I rx ry h
  obtain ⟨a, b, dx, dy, fs, gs, rfl, rfl, ha, hb', q⟩ := h
  cases rx
  cases ry
  obtain ⟨_, J, _⟩ := ins_get I.hok ha
  obtain ⟨_, J', _⟩ := ins_get I.hok hb'
  obtain ⟨_, J, _⟩ := J.look
  obtain ⟨_, J', _⟩ := J'.look
  obtain ⟨_, hF⟩ := I.fr
  refine PySem.W.cmp_K (op := .Eq) (tb := .ref D) hr.units0 hF I.ok.mod.kin J J'.type (by simp [PySem.W.notFirst]) hm.at_ hm.fn ?_
  refine wpAny_mono (own_run G hr rfl hb (fun e s' z => hx pins σ H s e s' I z) I q) (fun v s' z => ?_) fun _ _ z => z
  obtain ⟨r, H', rfl, I', q'⟩ := z
  exact ⟨.bl r, H', I', rfl, q'⟩
theorem op_neOwn (hm : Meth X.K D "__eq__" f) (hn : PySem.W.findIn X.K (.ref D) "__ne__" = some (some (.builtin "object.__ne__"))) (ho : PySem.W.mroIn X.K D (.type "object") = some true) (G : FnOk X.prog X.w X.K X.mg X.base C k f fd ps sp) (hr : Room (k + 1) X.A)
    (hb : Binds X.K fd ps []) (hx : Passes C X E) : OpR X (compareOp .NotEq) (rOwnEq D sp E true) := by
  intro pins s σ H x y v u Q I rx ry h
  obtain ⟨a, b, dx, dy, fs, gs, rfl, rfl, ha, hb', q⟩ := h
  cases rx
  cases ry
  obtain ⟨_, J, _⟩ := ins_get I.hok ha
  obtain ⟨_, J', _⟩ := ins_get I.hok hb'
  obtain ⟨_, J, _⟩ := J.look
  obtain ⟨_, J', _⟩ := J'.look
  have hu : X.A.in1.units < cLine := hr.in1.units0
  have body : wpAny (model X.prog X.w) X.A.in1 (Builtin.«object.__ne__» ⟨[.ref a, .ref b], []⟩) (fun fin s' => ∃ (r : Bool) (H' : Hp), fin = .done (.ret (.bool r)) ∧ Inv X pins σ H' s' ∧ Q (.bl r) H') X.xe s := by
    unfold Builtin.«object.__ne__»
    refine wpAny_bind (wpAny_pure (wpAny_bind (wpAny_cRoomFor hu ?_)))
    refine wpAny_bind (m := callSpecialIfBound? _ _ _) (PySem.W.ifBound_K I.kIn J hm.at_ hm.fn (wpAny_mono (own_run G hr.in1 rfl hb (fun e s' z => hx pins σ H s e s' I z) I q) (fun v s' z => ?_) fun _ _ z => z))
    obtain ⟨r, H', rfl, I', q'⟩ := z
    refine wpAny_bind (m := truthy _) (wpAny_truthy_bool ?_)
    exact wpAny_pure ⟨!r, H', rfl, I', q'⟩
  have cl : wpAny (model X.prog X.w) X.A (call (.builtin "object.__ne__") ([Value.ref a] ++ [.ref b])) (fun v s' => ∃ (r : Bool) (H' : Hp), v = .bool r ∧ Inv X pins σ H' s' ∧ Q (.bl r) H') X.xe s := by
    refine wpAny_call (codeAny_call_builtin PySem.F.cmp_object.ne.plain PySem.F.cmpEntry_ne (PySem.W.check_slot PySem.F.cmpKind_ne PySem.F.cmpSplit_ne (J.type.andThen (PySem.W.looks_mroIn I.kIn ho)) (PySem.F.cmpArgs_ne _ _) (wpAny_mono body (fun fin s' z => ?_) fun _ _ z => z)))
    obtain ⟨r, H', rfl, I', z⟩ := z
    exact ⟨r, H', rfl, I', z⟩
  have one : wpAny (model X.prog X.w) X.A (tryCompare (.ref a) "__ne__" (.ref b)) (fun v s' => ∃ (r : Bool) (H' : Hp), v = some (.bool r) ∧ Inv X pins σ H' s' ∧ Q (.bl r) H') X.xe s := by
    unfold tryCompare
    refine wpAny_bind (m := callSpecialIfBound? _ _ _) (NtL.csib (J.type.andThen (PySem.W.looks_findIn I.kIn hn)) (PySem.F.cmp_object.ne.bind _) (wpAny_mono cl (fun v s' z => ?_) fun _ _ z => z))
    obtain ⟨r, H', rfl, I', z⟩ := z
    exact wpAny_pure ⟨r, H', rfl, I', z⟩
  show wpAny _ _ (richCompare .NotEq (.ref a) (.ref b)) _ _ _
  unfold richCompare
  simp only [oneThing_ref]
  refine wpAny_holding (wpAny_bind (wpAny_cRoomFor hr.units0 ?_))
  rw [cmpInfo_NotEq]
  refine wpAny_bind (J.type.here (wpAny_bind (J'.type.here ?_)))
  rw [show (Value.ref D != Value.ref D) = false by simp]
  simp only [Bool.false_eq_true, if_false]
  refine wpAny_bind (wpAny_pure ?_)
  simp only [Bool.false_eq_true, if_false]
  refine wpAny_bind (wpAny_mono one (fun v s' z => ?_) fun _ _ z => z)
  obtain ⟨r, H', rfl, I', z⟩ := z
  exact wpAny_pure ⟨.bl r, H', I', rfl, z⟩
end
theorem kitOne_self (K : PySem.W.Frag) (a : Addr) : PySem.W.kitOne K (.ref a) (.ref a) = some true := if_pos (by first | exact beq_self_eq_true _ | simp)
theorem pg_lstL {X : Cx} {K : PySem.W.Frag} {es : List Expr} {j : Nat} {pos : Pos} {t : TGs} {n : Nat} (h : X.K = K) (hc : X.calm = true) (hs : PGs X es t)
    (hn : (assignEach es X.env).length = n := by rfl) (hst : (assignEach es X.env).findIdx? (·.1) = none := by rfl) : PG X (.Tuple es j pos) (gLst K n t) := h ▸ pg_lst hc hs hn hst
end Sd

/-! ### errors of own classes as values: made, asked, read -/
namespace PySem
namespace HandSPX
open PySem.W PySem.Calls PyProof.Rows
section
variable {prog : Program} {w : World} {A : Around} {E : Value → Shared → Prop} {R : Result → Shared → Prop} {h : Heap} {g : Array GenState} {d : Drawn} {t : Nat} {os : OsState}
variable {nm q : Str} {C N : Addr} {bs bm bmB : List Value} {hdct : Bool} {sn : List Str} {sub : List Value} {ab : Bool} {col : Option Bool} {dd : Option Addr} {k0 k1 k2 k3 k5 : Option Value} {B newId initId : String} {kw : List (Str × Value)}
theorem sd_check_new (F : ExcBaseFacts B newId initId bmB) (hT : ∀ X : String, bm.contains (.type X) = bmB.contains (.type X)) {rest : List Value} {M : Model} {Q : Unit → Shared → Prop}
    (hC : h.get? C = some (excClassObj nm q C N bs bm hdct sn sub ab col dd k0 k1 k2 k3 k5 newId)) (hq : Q () ⟨h, g, d, t, os⟩) : wpAny M A (checkBuiltinCall newId ⟨.ref C :: rest, kw⟩) Q E ⟨h, g, d, t, os⟩ := by
  have hcont : (Value.ref C :: bm).contains (.type B) = true := by rw [List.contains_cons, hT, F.hasB, Bool.or_true]
  have hstar := F.noStar
  simp only [checkBuiltinCall, F.newKind, F.newSplit, F.newRow]
  repeat (first | refine wpAny_loadPart_at hC ?_ | (refine wpAny_isSubtype_exc hC ?_; rw [hcont]) | refine wpAny_staticBase_exc hC ?_ | refine wpAny_madeBy_exc hC ?_ | simp only [bne_self_eq_false, Bool.false_eq_true, if_false] | wp_step)
  exact hq
theorem sd_new (F : ExcBaseFacts B newId initId bmB) (hT : ∀ X : String, bm.contains (.type X) = bmB.contains (.type X)) {rest : List Value}
    (hC : h.get? C = some (excClassObj nm q C N bs bm hdct sn sub ab col dd k0 k1 k2 k3 k5 newId))
    (hq : R (.ok (.ret (.ref (h.objs.size + 1)))) ⟨(h.push { cls := .type "tuple", data := .seq rest.toArray }).push
      { cls := .ref C, data := .fields #[.ref h.objs.size, .none, .none, .none, .bool false, .none] }, g, d, t, os⟩) (hrest : rest.length ≤ sizeLine) :
    codeAny (model prog w) A (.builtin newId ⟨.ref C :: rest, kw⟩) R ⟨h, g, d, t, os⟩ := by
  have hends := F.ends
  have hcB : (Value.ref C :: bm).contains (.type B) = true := by rw [List.contains_cons, hT, F.hasB, Bool.or_true]
  have hcA : (Value.ref C :: bm).contains (.type "AttributeError") = false := by rw [List.contains_cons, hT, F.noAttr]; rfl
  have hcN : (Value.ref C :: bm).contains (.type "NameError") = false := by rw [List.contains_cons, hT, F.noName]; rfl
  refine codeAny_builtinAt F.entry ?_
  unfold Builtin.«BaseException.__new__»
  refine wpAt_bind ?_
  show wpAt _ _ _ (stack >>= _) _ _ _
  refine wpAt_bind (wpAt_stack fun p below => wpAt_of_wpAny ?_)
  wp_walk
  refine wpAt_of_wpAny ?_
  rw [F.owner]
  repeat (first | with_reducible refine wpAny_madeHere_exc F.canon hC ?_ | with_reducible refine wpAny_loadPart_at hC ?_ | (with_reducible refine wpAny_isSubtype_exc hC ?_; first | rw [hcB] | rw [hcA] | rw [hcN]) | wp_step)
  show R _ _
  rw [Heap.size_push]
  exact hq
theorem sd_type_call (F : ExcBaseFacts B newId initId bmB) (hT : ∀ X : String, bm.contains (.type X) = bmB.contains (.type X)) {rest : List Value} {fI : Addr} {Q : Fin → Shared → Prop}
    (hC : h.get? C = some (excClassObj nm q C N bs bm hdct sn sub ab col dd k0 k1 k2 k3 k5 newId))
    (hi : W.Looks (model prog w) h (typeLookup (.ref C) "__init__") (some (.ref fI))) (hb : ∀ self, W.Looks (model prog w) h (bindSpecial (.ref fI) self) (.ref fI, [self])) (hrest : rest.length ≤ sizeLine)
    (hq : codeAny (model prog w) A (.call (.ref fI) ⟨.ref (h.objs.size + 1) :: rest, kw⟩)
      (fun r s' => match r with | .ok (.ret v) => v = .none ∧ Q (.done (.ret (.ref (h.objs.size + 1)))) s' | .ok _ => False | .error e => E e s')
      ⟨(h.push (W.kdv_tup rest)).push (excO C h.objs.size), g, d, t, os⟩) :
    wpAny (model prog w) A (Builtin.«type.__call__» ⟨.ref C :: rest, kw⟩) Q E ⟨h, g, d, t, os⟩ := by
  repeat (first | with_reducible refine wpAny_loadPart_at hC ?_ | with_reducible refine wpAny_madeBy_exc hC ?_ | wp_step)
  refine codeAny_call_builtin_code (Code.quiet_builtin _ F.quiet) (sd_check_new F hT hC ?_)
  refine sd_new F hT hC ?_ hrest
  show wpAny _ _ _ _ _ _
  have k : ∀ b o, h.get? b = some o → ((h.push (W.kdv_tup rest)).push (excO C h.objs.size)).get? b = some o := fun b o e => Heap.get?_push_of_some _ (Heap.get?_push_of_some _ e)
  have hC₁ := k _ _ hC
  have hget : ((h.push (W.kdv_tup rest)).push (excO C h.objs.size)).get? (h.objs.size + 1) = some (excO C h.objs.size) := by heap_get
  have hcC : (Value.ref C :: bm).contains (.ref C) = true := by simp
  have i1 := hi.keeps k
  have b1 := (hb (.ref (h.objs.size + 1))).keeps k
  unfold isInstance
  repeat (first | with_reducible refine wpAny_loadPart_at hget ?_ | (with_reducible refine wpAny_isSubtype_exc hC₁ ?_; rw [hcC]) | wp_step)
  show wpAny _ _ (typeLookup (.ref C) _) _ _ _
  refine i1.at ?_
  refine wpAny_holding (wpAny_bind (b1.at ?_))
  refine wpAny_bind (wpAny_call (codeAny_mono hq fun r s' z => ?_))
  rcases r with e | (v | _ | _ | _) <;> first | exact z | exact z.elim | skip
  obtain ⟨rfl, z⟩ := z
  first
    | exact wpAny_pure (wpAny_pure z)
    | (wp_walk; exact z)
theorem sd_call (F : ExcBaseFacts B newId initId bmB) (hT : ∀ X : String, bm.contains (.type X) = bmB.contains (.type X)) {rest : List Value} {fI : Addr}
    (hC : h.get? C = some (excClassObj nm q C N bs bm hdct sn sub ab col dd k0 k1 k2 k3 k5 newId))
    (hi : W.Looks (model prog w) h (typeLookup (.ref C) "__init__") (some (.ref fI))) (hb : ∀ self, W.Looks (model prog w) h (bindSpecial (.ref fI) self) (.ref fI, [self])) (hrest : rest.length ≤ sizeLine)
    (hq : codeAny (model prog w) (A.under (.builtin "type.__call__" ⟨.ref C :: rest, kw⟩)) (.call (.ref fI) ⟨.ref (h.objs.size + 1) :: rest, kw⟩) (W.InitBack (h.objs.size + 1) R)
      ⟨(h.push (W.kdv_tup rest)).push (excO C h.objs.size), g, d, t, os⟩) :
    codeAny (model prog w) A (.call (.ref C) ⟨rest, kw⟩) R ⟨h, g, d, t, os⟩ := by
  have f1 := tc_lookup
  have f2 := tc_bind (.ref C)
  have hTy : (⟨h, g, d, t, os⟩ : Shared).TypeIs (.ref C) "type" := ⟨_, hC, rfl⟩
  refine codeAny_of_tree ?_
  show wpAny _ _ (callAny (.ref C) _) _ _ _
  repeat (any_goals (first | assumption | with_reducible refine wpAny_loadPart_at hC ?_ | wp_step))
  refine ⟨rfl, ?_⟩
  refine codeAny_call_builtin_at (Code.quiet_builtin _ (by decide +kernel)) entry_typeCall (wpAny_check_type_call_sub hC (sd_type_call F hT hC hi hb hrest ?_))
  refine codeAny_mono hq fun r s' z => ?_
  rcases r with e | (v | _ | _ | _) <;> exact z
end
end HandSPX
end PySem
namespace Sd
open PySem PySem.Spec PyProof.Rows L2
/-- an error as a value: its class and its fields -/
def ErrAt (H : Hp) (a D : Addr) (fs : List (Str × V)) : Prop := (fs = [] ∧ H a = some (ExO (.ref D) a)) ∨ ∃ dx, H a = some (exo a D (some dx)) ∧ H dx = some (exd dx fs)
section
variable {X : Cx} {pins : List (Addr × Obj)} {σ : L2.St} {H : Hp} {s : Shared} {a D : Addr} {fs : List (Str × V)}
theorem err_inst (I : Inv X pins σ H s) (e : ErrAt H a D fs) : ∃ ox od, PySem.W.InstAt s.heap a ox D od := by
  rcases e with ⟨_, e⟩ | ⟨dx, e, ed⟩
  · obtain ⟨⟨oe, vs, hget, hz, hv, _⟩, _, _⟩ := I.hok a _ e
    obtain ⟨oc, od, oda, osl⟩ := oe
    obtain ⟨h1, h2⟩ := hz
    dsimp only at h1 h2 hv
    subst h1 h2 hv
    exact ⟨_, none, hget, rfl, rfl, trivial⟩
  · obtain ⟨t1, ho⟩ := exo_at I.hok e
    obtain ⟨mA, hns, rel⟩ := exd_at I.hok ed
    obtain ⟨od, hod, _⟩ := lookIn_ns hns
    exact ⟨_, some od, ho, rfl, rfl, hod⟩
/-- isinstance(e, c) -/
def rIsX (K : PySem.W.Frag) : List V → Hp → VK → Prop := fun xs H Q => ∃ (a D : Addr) (fs : List (Str × V)) (c : V) (cv : Value) (b : Bool), xs = [.ref a, c] ∧ ErrAt H a D fs ∧ ExcC K D ∧ (∀ u, RelV c u → u = cv) ∧ PySem.W.kitOne K (.ref D) cv = some b ∧ Q (.bl b) H
theorem call_isX : CallR X (.builtin "isinstance") (rIsX X.K) := by
  intro pins s σ H xs us Q I r h
  obtain ⟨a, D, fs, c, cv, b, rfl, e, C, hcv, ek, q⟩ := h
  cases r with
  | cons rx rr =>
    cases rr with
    | cons rt rr =>
      cases rr
      cases rx
      have ec := hcv _ rt
      subst ec
      obtain ⟨ox, od, J⟩ := err_inst I e
      obtain ⟨cd, hcd, _⟩ := PySem.W.any_some C.hd
      exact PySem.W.kia_one (PySem.W.kitx_exc (ox := ox) (od := od) (by rw [hcd]; rfl) C.hg C.hk C.hs C.ha C.hn C.ht C.hm) I.kIn J ek (fun z => nomatch z) fun tk => ⟨.bl b, H, I.kept (t' := tk) fun _ _ z => z, rfl, q⟩
/-- e.f -/
def tErrF (K : PySem.W.Frag) (f : Str) (te : TE) : TE := fun σ H Q => te σ H fun x H1 => ∃ a D fs v, x = .ref a ∧ ErrAt H1 a D fs ∧ XfC K D ∧ PySem.W.findIn K (.ref D) f = some none ∧ fs.lookup f = some v ∧ Q v H1
theorem pe_errF {e : Expr} {te : TE} {pos : Pos} {n : Str} (he : PE X e te) (hb : attributeBase e n X.env (eval e X.env) = eval e X.env := by rfl) : PE X (.Attribute e n pos) (tErrF X.K n te) := by
  refine ⟨fun pins s σ H Q I h => ?_⟩
  refine attr_of hb (thn (he.run pins s σ H _ I h) fun u s1 hh => ?_)
  obtain ⟨x, H1, I1, rx, a, D, fs, v, ex, ea, T, hno, l, q⟩ := hh
  subst ex
  obtain rfl : u = Value.ref a := rx
  rcases ea with ⟨e0, _⟩ | ⟨dd, ea, ed⟩
  · rw [e0] at l
    cases l
  · obtain ⟨t1, ho⟩ := exo_at I1.hok ea
    obtain ⟨mA, hns, hr⟩ := exd_at I1.hok ed
    obtain ⟨od, hod, hl⟩ := lookIn_ns hns
    obtain ⟨u, hu, ru⟩ := RelO.some_of (v := v) (o := mA n) (by rw [← l]; exact hr n)
    have J : PySem.W.InstAt s1.heap a _ D (some od) := ⟨ho, rfl, rfl, hod⟩
    exact HandSPX.exc_get I1.kIn J T.ga T.gg T.exC (PySem.W.findObj_own T.hdC hno rfl (by rw [hl, hu])) (handed_of ru) ⟨v, H1, I1.tok _, ru, q⟩
end
/-- C(e, ..) or C(k = e) by an own __init__, as a value -/
def tMkV (C : Addr) (sp : Sp) (ta : TA) : TE := fun σ H Q => ta σ H fun vs H1 => vs.length = 1 ∧ ∀ a, H1 a = none → sp (.ref a :: vs) (upd H1 a (exo a C none)) (fun v H2 => v = .non ∧ Q (.ref a) H2) (fun _ _ _ => False)
section
variable {X : Cx} {CX : CXT} {x : Str} {C fI : Addr} {k : Nat} {fd : FuncData} {ps : List Str} {sp : Sp} {e : Expr} {es : List Expr} {p pos : Pos} {ta : TA}
theorem run_mkV {pins : List (Addr × Obj)} {σ : L2.St} {H1 : Hp} {s1 : Shared} {us us2 : List Value} {kw : List (Str × Value)} {vs : List V} {Q : VK} (T : OexC X.K C) (iC : PySem.W.findIn X.K (.ref C) "__init__" = some (some (.ref fI))) (tI : PySem.W.typeIn X.K (.ref fI) = some (.type "function"))
    (F1 : FnOk X.prog X.w X.K X.mg X.base CX k fI fd ps sp) (hr : Room (k + 1) X.A) (hx : Passes CX X (fun _ _ _ => False)) (hl1 : us.length ≤ 1000)
    (hb : ∀ (s : Shared) (a : Addr), X.K.In s.heap → BindsTo s fd ⟨Value.ref a :: us, kw⟩ (ps.zip (Value.ref a :: us2))) (r1 : Vals vs us2) (I1 : Inv X pins σ H1 s1)
    (q1 : ∀ a, H1 a = none → sp (.ref a :: vs) (upd H1 a (exo a C none)) (fun v H2 => v = .non ∧ Q (.ref a) H2) (fun _ _ _ => False)) :
    wpAny (model X.prog X.w) X.A (call (.ref C) us kw) (EP X pins σ Q) X.xe s1 := by
  obtain ⟨nm, q, N, bs, bm, sn, sub, ab, col, dd, k0, k1, k2, k3, k5, hC, hbm⟩ := T.cls
  obtain ⟨hp, g, dr, tk, os⟩ := s1
  have hsz : hp.objs.size ≤ hp.objs.size + 1 := Nat.le_succ _
  have hn : H1 (hp.objs.size + 1) = none := I1.hok.fresh hsz
  have hq := q1 (hp.objs.size + 1) hn
  have kk : ∀ b o, hp.get? b = some o → ((hp.push (PySem.W.kdv_tup us)).push (PySem.HandSPX.excO C hp.objs.size)).get? b = some o := fun b o e => Heap.get?_push_of_some _ (Heap.get?_push_of_some _ e)
  have hget : ((hp.push (PySem.W.kdv_tup us)).push (PySem.HandSPX.excO C hp.objs.size)).get? (hp.objs.size + 1) = some (PySem.HandSPX.excO C hp.objs.size) := by heap_get
  have I2 : Inv X pins σ (upd H1 (hp.objs.size + 1) (exo (hp.objs.size + 1) C none)) ⟨(hp.push (PySem.W.kdv_tup us)).push (PySem.HandSPX.excO C hp.objs.size), g, dr, tk, os⟩ :=
    I1.laid (t' := tk) (a := hp.objs.size + 1) (o := exo (hp.objs.size + 1) C none) (h' := (hp.push (PySem.W.kdv_tup us)).push (PySem.HandSPX.excO C hp.objs.size)) kk hsz (exo_ok hget)
  have r2 : Vals (V.ref (hp.objs.size + 1) :: vs) (Value.ref (hp.objs.size + 1) :: us2) := .cons rfl r1
  have hus : us.length ≤ sizeLine := by
    rw [sizeLine_eq]
    omega
  refine wpAny_call (PySem.HandSPX.sd_call F.excBase_ValueError (fun Y => PySem.HandSPX.refsVE_contains Y bm hbm) (I1.kIn _ _ hC) (PySem.W.looks_findIn I1.kIn iC) (fun self => PySem.W.bind_fn I1.kIn self tI) hus
    (codeAny_mono (F1.run _ X.stack _ _ ⟨Value.ref (hp.objs.size + 1) :: us, kw⟩ (Value.ref (hp.objs.size + 1) :: us2) _ _ (fun _ _ _ => False) (hr.make C us kw) (I2.env0.make C us kw) (hb _ _ I2.kIn) r2 hq) fun r s' hq' => ?_))
  cases r with
  | error er => exact hx pins σ _ _ er s' I2 hq'
  | ok fl =>
    cases fl with
    | ret u =>
      obtain ⟨v, H', I3, rv, ev, q3⟩ := I2.after hq'
      subst ev
      exact ⟨rv, ⟨V.ref (hp.objs.size + 1), H', I3, rfl, q3⟩⟩
    | next => exact False.elim hq'
    | brk => exact False.elim hq'
    | cont => exact False.elim hq'
/-- C(e) -/
theorem pe_mkV (T : OexC X.K C) (iC : PySem.W.findIn X.K (.ref C) "__init__" = some (some (.ref fI))) (tI : PySem.W.typeIn X.K (.ref fI) = some (.type "function"))
    (F1 : FnOk X.prog X.w X.K X.mg X.base CX k fI fd ps sp) (hr : Room (k + 1) X.A) (hb : Binds X.K fd ps []) (hx : Passes CX X (fun _ _ _ => False)) (hg : Gl X x) (hm : X.mg x = some (.ref C)) (hp2 : ps.length = 2) (ha : PA X (e :: es) ta)
    (hdb : (x == ("__debug__" : Str)) = false := by decide) (he : starEach (e :: es) X.env = (false, eval e X.env) :: starEach es X.env := by rfl) (hpl : (backTo pos (starEach es X.env)).any (·.1) = false := by rfl) :
    PE X (.Call (.Name x p) (e :: es) [] pos) (tMkV C sp ta) := by
  refine ⟨fun pins s σ H Q I h => ?_⟩
  refine wpAny_Call_Name_kw (ld_glob I hg hm ?_ hdb)
  refine PySem.W.callWith_K (h₀ := X.base) I.ok.mod.kin T.kC (thn (ha.run pos pins s σ H _ I h) fun us s1 ⟨vs, H1, I1, r1, hz, q1⟩ => ⟨I1.kIn, ?_⟩) he hpl
  have hu1 : us.length = 1 := by
    rw [← Paired.length r1]
    exact hz
  show wpAny _ _ (call (.ref C) us) _ _ _
  exact run_mkV (us := us) (us2 := us) T iC tI F1 hr hx (by omega) (fun s a Y => by
    have z := hb s (Value.ref a :: us) Y (by rw [List.append_nil, List.length_cons, hu1, hp2])
    rw [List.append_nil] at z
    exact z) r1 I1 q1
/-- C(k = e) -/
theorem pe_mkVW {ks : List Str} {kws : List Keyword} {g : List Value → List Value → List Value} {gV : List V → List V → List V} (T : OexC X.K C) (iC : PySem.W.findIn X.K (.ref C) "__init__" = some (some (.ref fI))) (tI : PySem.W.typeIn X.K (.ref fI) = some (.type "function"))
    (F1 : FnOk X.prog X.w X.K X.mg X.base CX k fI fd ps sp) (hr : Room (k + 1) X.A) (hb : KBn X.K fd ps 1 ks g gV) (hgg : ∀ a u, g [a] [u] = [a, u]) (hk1 : ks.length = 1) (hx : Passes CX X (fun _ _ _ => False)) (hg : Gl X x) (hm : X.mg x = some (.ref C)) (hkw : PK X kws ta)
    (hall : (backToKw pos (keywordEach kws X.env)).all (·.1.isSome) = true := by rfl) (hks : (backToKw pos (keywordEach kws X.env)).filterMap (·.1) = ks := by rfl) (hdb : (x == ("__debug__" : Str)) = false := by decide)
    (hpl : ((backTo pos (starEach [] X.env)).any (·.1) || (backToKw pos (keywordEach kws X.env)).any (·.1.isNone)) = false := by rfl) :
    PE X (.Call (.Name x p) [] kws pos) (tMkV C sp ta) := by
  refine ⟨fun pins s σ H Q I h => ?_⟩
  refine wpAny_Call_Name_kw (ld_glob I hg hm ?_ hdb)
  refine PySem.W.callWith_KW0 (h₀ := X.base) I.ok.mod.kin T.kC hall ?_ hpl
  refine thn (hkw.run pos pins s σ H _ I h) fun ws s2 ⟨zs, H2, I2, rz, l1, q2⟩ => ⟨I2.kIn, ?_⟩
  rw [hks]
  have hw1 : ws.length = 1 := by
    rw [← Paired.length rz]
    exact l1
  refine run_mkV (us := []) (us2 := ws) (kw := ks.zip ws) T iC tI F1 hr hx (Nat.zero_le _) (fun s a Y => ?_) rz I2 q2
  match ws, hw1 with
  | [u], _ =>
    have z := hb.to s [Value.ref a] [u] Y rfl (by rw [hk1]; rfl)
    rw [hgg] at z
    exact z
end

/-- {x}: None, a text or an int, as a text -/
def tFmtN (te : TE) : TE := fun σ H Q => te σ H fun x H1 => (x = .non ∧ Q (.str "None") H1) ∨ ∃ i : Int, x = .int i ∧ i.natAbs.log2 < 1920 ∧ Q (.str (toString i)) H1
theorem pe_fmtN {X : Cx} {e : Expr} {te : TE} {pos : Pos} (he : PE X e te) : PE X (.FormattedValue e (-1) none pos) (tFmtN te) := by
  refine ⟨fun pins s σ H Q I h => ?_⟩
  refine wpAny_FormattedValue_plain (thn (he.run pins s σ H _ I h) fun v s1 hv => ?_)
  obtain ⟨x, H1, I1, r1, q⟩ := hv
  rcases q with ⟨rfl, q⟩ | ⟨i, rfl, hz, q⟩
  · obtain rfl : v = Value.none := r1
    exact wpAny_formatField_none ⟨.str "None", H1, I1.tok _, ⟨_, rfl⟩, q⟩
  · obtain ⟨t, rfl⟩ := r1
    exact wpAny_formatField_int hz ⟨.str (toString i), H1, I1.tok _, ⟨_, rfl⟩, q⟩
section
variable {X : Cx} {o e : Expr} {es : List Expr} {ta : TA} {p1 p2 pos : Pos}
/-- D.__init__(self, ..), D an own class over ValueError without an own __init__ -/
theorem pe_dinit {D : Addr} {nm : Str} {mc : Value} {pl : Sem Bool} (hg : Gl X nm) (hm : X.mg nm = some (.ref D)) (r : ClX.CRead X.K D mc) (vV : PySem.W.findCls X.K (.ref D) mc "__init__" = some (.val (.builtin "ValueError.__init__"))) (ha : PA X (e :: es) ta)
    (hc : eval (.Call (.Attribute (.Name nm p1) "__init__" p2) (e :: es) [] pos) X.env = (do
      let ov ← eval (.Name nm p1) X.env
      standAt p2.atName
      let (f, first) ← holding [ov] (getMethod ov "__init__" pl)
      callWith pos f first (backTo pos (starEach (e :: es) X.env)) (backToKw pos (keywordEach [] X.env))) := by rfl)
    (hdb : (nm == ("__debug__" : Str)) = false := by decide)
    (he : starEach (e :: es) X.env = (false, eval e X.env) :: starEach es X.env := by rfl) (hpl : (backTo pos (starEach es X.env)).any (·.1) = false := by rfl) :
    PE X (.Call (.Attribute (.Name nm p1) "__init__" p2) (e :: es) [] pos) (tVeI X.K ta) := by
  refine ⟨fun pins s σ H Q I h => ?_⟩
  refine PySem.W.methodCall_KW (ld_glob I hg hm ?_ hdb) hc
  refine PySem.W.method_cls I.kIn r.ga (PySem.W.cls_value I.kIn r.rd vV (by decide +kernel) ?_)
  show wpAny _ _ (callWith pos (Value.builtin "ValueError.__init__") [] (backTo pos (starEach (e :: es) X.env)) []) _ _ _
  refine PyProof.Rows.callWith_method1 (thn (ha.run pos pins _ σ H _ (I.tok _) h) fun us s1 ⟨vs, H1, I1, r1, a, C, ws, ev, hl, T, ea, q⟩ => ?_) he hpl
  subst ev
  cases r1 with
  | @cons _ u0 _ ur ra rw' =>
    obtain rfl : u0 = Value.ref a := ra
    have hlen : ur.length ≤ sizeLine := by
      rw [← Paired.length rw', sizeLine_eq]
      omega
    exact oinit_ok T I1 ea hlen fun s' J => ⟨.non, H1, J, rfl, q⟩
end
/-! ### what the text must say of own classes of errors -/
/-- that C hangs on ValueError, keeps a dict, and is made by ValueError.__new__ -/
def sdOex (K : PySem.W.Frag) (C : Addr) : Bool := match K.lookup C with
  | some ⟨.type "type", _, .cls cd, sl⟩ => (match cd.mro, sl.toList with
    | .ref C' :: bm, [_, _, _, _, some (.builtin n), _] => C' == C && n == "ValueError.__new__" && !cd.hasDel && cd.hasDict && PySem.HandSPX.refsVE bm
    | _, _ => false)
  | _ => false
theorem oex_of {K : PySem.W.Frag} {C : Addr} (q : sdOex K C = true) (sa : PySem.W.findIn K (.ref C) "__setattr__" = some (some (.builtin "object.__setattr__"))) (exC : PySem.W.subIn K (.ref C) (.type "BaseException") = some true)
    (tyC : PySem.W.typeIn K (.ref C) = some (.type "type")) (kC : PySem.W.keepIn K (.ref C) = true) : OexC K C := by
  refine ⟨?_, sa, exC, tyC, kC⟩
  unfold sdOex at q
  split at q
  · rename_i dd cd sl ho
    split at q
    · rename_i C' bm k0 k1 k2 k3 n k5 hm hs
      simp only [Bool.and_eq_true, beq_iff_eq, Bool.not_eq_true'] at q
      obtain ⟨⟨⟨⟨rfl, rfl⟩, hdel⟩, hd⟩, hr⟩ := q
      obtain ⟨nm, bs, mro, ns, qn, hd', sn, sub, ab, col, del⟩ := cd
      dsimp only at hm hdel hd
      subst hm hdel hd
      have hsl : sl = #[k0, k1, k2, k3, some (.builtin "ValueError.__new__"), k5] := by
        obtain ⟨l⟩ := sl
        simp only at hs
        rw [hs]
      subst hsl
      exact ⟨_, _, _, _, _, _, _, _, _, _, _, _, _, _, _, ho, hr⟩
    · cases q
  · cases q
/-- what is asked of each of them -/
structure ErrC (K : PySem.W.Frag) (C : Addr) : Prop where
  exc : ExcC K C
  xf : XfC K C
  kp : PySem.W.keepIn K (.ref C) = true
theorem errC_of {K : PySem.W.Frag} {D : Addr} (hg : PySem.W.findIn K (.ref D) "__getattribute__" = some (some (.builtin "BaseException.__getattribute__"))) (hk : PySem.W.findIn K (.ref D) "__getattr__" = some none) (hs : PySem.W.subIn K (.ref D) (.type "BaseException") = some true)
    (hd : PySem.W.hasDictIn K D = true) (ha : PySem.W.findIn K (.ref D) "__class__" = some (some (.builtin "object.__class__"))) (hn : PySem.W.specialIn K (.builtin "object.__class__") "__get__" = some (some (.builtin "getset_descriptor.__get__")))
    (ht : PySem.W.takesIn K (.builtin "object.__class__") = some true) (hm : PySem.W.mroIn K D (.type "object") = some true) (kp : PySem.W.keepIn K (.ref D) = true) : ErrC K D :=
  ⟨⟨hg, hk, hs, hd, ha, hn, ht, hm⟩, ⟨hg, hk, hs, hd⟩, kp⟩
/-- isinstance(an instance of D, c) for each c -/
def Kits (K : PySem.W.Frag) (D : Addr) (cs : List Addr) (bs : List Bool) : Prop := cs.map (fun c => PySem.W.kitOne K (.ref D) (.ref c)) = bs.map some
theorem Kits.at {K : PySem.W.Frag} {D : Addr} {cs : List Addr} {bs : List Bool} (h : Kits K D cs bs) {i : Nat} {c : Addr} {b : Bool} (hc : cs[i]? = some c) (hb : bs[i]? = some b) : PySem.W.kitOne K (.ref D) (.ref c) = some b := by
  have e := congrArg (fun l => l[i]?) h
  (try dsimp only at e)
  rw [List.getElem?_map, List.getElem?_map, hc, hb] at e
  exact Option.some.inj e
theorem ErrAt.up {H H' : Hp} {a D : Addr} {fs : List (Str × V)} (e : ErrAt H a D fs) (s : Same H H') : ErrAt H' a D fs := by
  rcases e with ⟨e0, e⟩ | ⟨dx, e, ed⟩
  · exact .inl ⟨e0, s _ _ e⟩
  · exact .inr ⟨dx, s _ _ e, s _ _ ed⟩
theorem ErrAt.but {T : Addr} {c : Int} {H H' : Hp} {a D : Addr} {fs : List (Str × V)} (e : ErrAt H a D fs) (s : But T H H') (k : Stk H T c) : ErrAt H' a D fs := by
  obtain ⟨x, y, z', hT, _⟩ := k
  have ne : ∀ {b : Addr} {o : HO}, H b = some o → o ≠ .lst [.int x, .int y, .int z'] → b ≠ T := fun {b o} h n z => by
    rw [z, hT] at h
    exact n (Option.some.inj h).symm
  rcases e with ⟨e0, e⟩ | ⟨dx, e, ed⟩
  · exact .inl ⟨e0, s _ _ e (ne e fun z => by unfold ExO at z; cases z)⟩
  · exact .inr ⟨dx, s _ _ e (ne e fun z => by unfold exo at z; cases z), s _ _ ed (ne ed fun z => by unfold exd at z; cases z)⟩
theorem errFL {X : Cx} {K : PySem.W.Frag} {e : Expr} {te : TE} {pos : Pos} {n : Str} (h : X.K = K) (he : PE X e te) (hb : attributeBase e n X.env (eval e X.env) = eval e X.env := by rfl) : PE X (.Attribute e n pos) (tErrF K n te) := h ▸ pe_errF he hb
theorem isXL {X : Cx} {K : PySem.W.Frag} (h : X.K = K) : CallR X (.builtin "isinstance") (rIsX K) := h ▸ call_isX
end Sd

/-! ### lists gone over, tuples unpacked, lists comprehended while an error is handled -/
namespace HotX
open PySem PySem.Spec PyProof.Rows
section
variable {prog : Program} {w : World} {A : Around} {E : Value → Shared → Prop} {s : Shared}
theorem sd_list_end {it l x1 : Addr} {i : Nat} {items} {Q : Option Value → Shared → Prop} (hot : HotAt A x1 s.heap) (hne : x1 ≠ it)
    (hit : s.heap.IsListIter it l i) (hl : s.heap.IsList l items) (hx : items[i]? = none)
    (hQ : ∀ h', Heap.ExtBut it s.heap h' → Q none { s with heap := h' }) : wpAny (model prog w) A (pyNext (.ref it)) Q E s := by
  obtain ⟨o, ho, hc, hd⟩ := id hit
  obtain ⟨ol, hol, _, nl, hdl⟩ := hl
  obtain ⟨hh, o1, vs1, h1, d1, c1⟩ := hot
  unfold pyNext
  refine wpAny_bind (wpAny_attempt (wpAny_callSpecial?_slot (name := Str.ofString "__next__") hit.typeIs slot_listiter_next
    (wpAny_call_entry slot_listiter_next hit.typeIs entry_listiter_next ?_ (args_listiter_next _))))
  show wpAny _ _ (field (.ref it) 0 >>= _) _ _ s
  refine wpAny_bind (wpAny_field ho hd (x := .ref l) rfl ?_)
  show wpAny _ _ (if (Value.ref l == Value.none) = true then _ else _) _ _ s
  rw [if_neg (show ¬ ((Value.ref l == Value.none) = true) from Bool.false_ne_true)]
  show wpAny _ _ (field (.ref it) 1 >>= _) _ _ s
  refine wpAny_bind (wpAny_field ho hd (x := .int i 0) rfl ?_)
  show wpAny _ _ (seqItems? (.ref l) >>= _) _ _ s
  refine wpAny_bind (wpAny_seqItems hol hdl ?_)
  simp only [Int.toNat_natCast, hx]
  refine wpAny_bind (wpAny_rule (wpAny_bind (wpAny_setField ho hd (by simp) ?_)))
  show wpAny _ _ (newExc (.type "StopIteration") [] >>= _) _ _ _
  refine wpAny_bind ?_
  simp only [newExc, newTuple]
  refine wpAny_bind (wpAny_newObj_type ?_ (by size_fits))
  refine wpAny_bind (m := firstArgMember _ _) (wpAny_of_eq (a := Value.none) (by first | rfl | (simp only [firstArgMember]; rfl)) ?_)
  refine wpAny_newObj_type ?_ (by size_fits)
  generalize hu : s.heap.update it _ = hU
  have k0 : ∀ b o, b ≠ it → s.heap.get? b = some o → hU.get? b = some o := fun b o hb e => by
    rw [← hu, Heap.get?_update_other _ _ (Ne.symm hb)]
    exact e
  refine raiseNew_hot ⟨hh, o1, vs1, Heap.get?_push_of_some _ (Heap.get?_push_of_some _ (k0 _ _ hne h1)), d1, c1⟩ (Nat.ne_of_lt (Heap.lt_size (Heap.get?_push_of_some _ (k0 _ _ hne h1)))) (Heap.get?_push_size _ rfl) rfl (by first | (simp; done) | (simp; omega) | (simp only [Array.size_append]; simp; omega)) ?_
  refine wpAny_bind (wpAny_isInstance (T := "StopIteration") (b := true) ⟨_, Heap.get?_update_self _ (Heap.get?_push_size _ rfl) rfl, rfl⟩ isSubtype_stop ?_)
  refine wpAny_pure (hQ _ fun b o hb e => ?_)
  have e1 := Heap.get?_push_of_some { cls := .type "tuple", data := .seq ([] : List Value).toArray } (k0 b o hb e)
  rw [Heap.get?_update_other _ _ (Nat.ne_of_gt (Heap.lt_size (Heap.get?_push_of_some _ (k0 b o hb e))))]
  exact Heap.get?_push_of_some _ (Heap.get?_push_of_some _ (k0 b o hb e))
theorem sd_tup_end {it t x1 : Addr} {i : Nat} {items} {Q : Option Value → Shared → Prop} (hot : HotAt A x1 s.heap) (hne : x1 ≠ it)
    (hit : IsTupIter s.heap it t i) (ht : IsTup s.heap t items) (hx : items[i]? = none)
    (hQ : ∀ h', Heap.ExtBut it s.heap h' → Q none { s with heap := h' }) : wpAny (model prog w) A (pyNext (.ref it)) Q E s := by
  obtain ⟨o, ho, hc, hd⟩ := id hit
  obtain ⟨ol, hol, _, nl, hdl⟩ := ht
  obtain ⟨hh, o1, vs1, h1, d1, c1⟩ := hot
  unfold pyNext
  refine wpAny_bind (wpAny_attempt (wpAny_callSpecial?_slot (name := Str.ofString "__next__") hit.typeIs F.slot_tuple_iterator_next
    (wpAny_call_entry F.slot_tuple_iterator_next hit.typeIs F.entry_tuple_iterator_next ?_ (F.args_tuple_iterator_next_1 _))))
  show wpAny _ _ (field (.ref it) 0 >>= _) _ _ s
  refine wpAny_bind (wpAny_field ho hd (x := .ref t) rfl ?_)
  show wpAny _ _ (if (Value.ref t == Value.none) = true then _ else _) _ _ s
  rw [if_neg (show ¬ ((Value.ref t == Value.none) = true) from Bool.false_ne_true)]
  show wpAny _ _ (field (.ref it) 1 >>= _) _ _ s
  refine wpAny_bind (wpAny_field ho hd (x := .int i 0) rfl ?_)
  show wpAny _ _ (seqItems? (.ref t) >>= _) _ _ s
  refine wpAny_bind (wpAny_seqItems hol hdl ?_)
  simp only [Int.toNat_natCast, hx]
  refine wpAny_bind (wpAny_rule (wpAny_bind (wpAny_setField ho hd (by simp) ?_)))
  show wpAny _ _ (newExc (.type "StopIteration") [] >>= _) _ _ _
  refine wpAny_bind ?_
  simp only [newExc, newTuple]
  refine wpAny_bind (wpAny_newObj_type ?_ (by size_fits))
  refine wpAny_bind (m := firstArgMember _ _) (wpAny_of_eq (a := Value.none) (by first | rfl | (simp only [firstArgMember]; rfl)) ?_)
  refine wpAny_newObj_type ?_ (by size_fits)
  generalize hu : s.heap.update it _ = hU
  have k0 : ∀ b o, b ≠ it → s.heap.get? b = some o → hU.get? b = some o := fun b o hb e => by
    rw [← hu, Heap.get?_update_other _ _ (Ne.symm hb)]
    exact e
  have k2 := fun b o hb e => Heap.get?_push_of_some { cls := .type "tuple", data := .seq ([] : List Value).toArray } (k0 b o hb e)
  refine raiseNew_hot ⟨hh, o1, vs1, Heap.get?_push_of_some _ (k2 _ _ hne h1), d1, c1⟩ (Nat.ne_of_lt (Heap.lt_size (k2 _ _ hne h1))) (Heap.get?_push_size _ rfl) rfl (by first | (simp; done) | (simp; omega) | (simp only [Array.size_append]; simp; omega)) ?_
  refine wpAny_bind (wpAny_isInstance (T := "StopIteration") (b := true) ⟨_, Heap.get?_update_self _ (Heap.get?_push_size _ rfl) rfl, rfl⟩ isSubtype_stop ?_)
  refine wpAny_pure (hQ _ fun b o hb e => ?_)
  rw [Heap.get?_update_other _ _ (Nat.ne_of_gt (Heap.lt_size (k2 b o hb e)))]
  exact Heap.get?_push_of_some _ (k2 b o hb e)
/-- (..) = t, while an error is handled -/
theorem sd_unpack {env : Env} {elts : List Expr} {k : Nat} {pos : Pos} {t x1 : Addr} {items : Array Value} {Q : Unit → Shared → Prop} (hot : HotAt A x1 s.heap) (ht : IsTup s.heap t items)
    (hn : (assignEach elts env).length = items.size) (hstar : (assignEach elts env).findIdx? (·.1) = none)
    (h : ∀ h', Heap.ExtBut s.heap.objs.size s.heap h' → wpAny (model prog w) A (assignInOrder ((assignEach elts env).map (·.2)) items.toList) Q E { s with heap := h' }) :
    wpAny (model prog w) A (assign (.Tuple elts k pos) env (.ref t)) Q E s := by
  have lt : t ≠ s.heap.objs.size := by
    obtain ⟨o, ho, _⟩ := ht
    exact Nat.ne_of_lt (Heap.lt_size ho)
  rw [assign_Tuple]
  refine wpAny_bind (wpAny_standAt ?_)
  unfold unpack
  rw [hn, hstar]
  refine wpAny_bind (wpAny_holding ?_)
  unfold unpackItems
  refine wpAny_bind ?_
  unfold notIterableAtAll
  refine wpAny_bind (wpAny_specialOf ht.typeIs F.slot_tuple_iter.lookup ?_)
  refine wpAny_pure ?_
  simp only [Bool.false_eq_true, if_false]
  refine wpAny_bind (wpAny_holding (iter_tuple ht ?_))
  refine wpAny_bind (wpAny_holding (draw_tuple lt items.size 0 _ _ ⟨_, Heap.get?_push_size _ rfl, rfl, rfl⟩ (ht.push _) (by omega) fun h₁ hit₁ hs₁ => ?_))
  have all : List.take items.size (List.drop 0 items.toList) = items.toList := by
    rw [List.drop_zero]
    exact List.take_of_length_le (by simp)
  rw [all, if_neg (by simp)]
  obtain ⟨hh, o1, vs1, e1, d1, c1⟩ := hot
  have hot₁ : HotAt A x1 h₁ := ⟨hh, o1, vs1, hs₁.extBut _ _ (Nat.ne_of_lt (Heap.lt_size e1)) (Heap.get?_push_of_some _ e1), d1, c1⟩
  refine wpAny_bind (wpAny_holding (sd_tup_end hot₁ (Nat.ne_of_lt (Heap.lt_size e1)) hit₁ ((ht.push _).extBut hs₁.extBut lt) (by simp) fun h₂ he₂ => ?_))
  simp only [Option.isSome_none, Bool.false_eq_true, if_false]
  exact wpAny_pure (h h₂ fun b o hb e => he₂ b o hb (hs₁.extBut b o hb (Heap.get?_push_of_some _ e)))
end
end HotX
namespace Sd
open PySem PySem.Spec PyProof.Rows L2 L2H HotX
abbrev St' := L2.St
/-- wherever what the context says holds, the handled error stands, its own context None -/
def HotW (X : Cx) : Prop := ∀ (pins : List (Addr × Obj)) (σ : L2.St) (H : Hp) (s : Shared), L2.Inv X pins σ H s → ∃ x1, HotAt X.A x1 s.heap
theorem hotW_pn {X : Cx} (c : HotC X) : HotW X := fun _ _ _ _ I => c.at I
theorem hotW_blk {X : Cx} {pins : List (Addr × Obj)} {σ : L2.St} {H : Hp} {s : Shared} {scope : Scope} {ce : Env} {fp : List Addr} (c : HotC X) (I : L2.Inv X pins σ H s) (hfp : ∀ b ∈ fp, FpOk X pins H b) : HotW (X.blk s H scope ce fp) := fun _ _ _ s' J => by
  obtain ⟨p, ⟨hh, v1, e1, c1⟩, hp⟩ := c
  have P := I.pin p (List.mem_append_left _ hp)
  have n1 : p.1 ∉ (X.blk s H scope ce fp).fs := fun hm => (List.mem_cons.mp (I.stkSub p.1 hm)).elim P.2.2.1 P.2.2.2.1
  have n2 : p.1 ∉ (X.blk s H scope ce fp).ex := fun hm => (hfp p.1 hm).2.2.2.2.2 p (List.mem_append_left _ hp) rfl
  exact ⟨p.1, hh, p.2, v1, J.base.keep p.1 p.2 P.1 P.2.1 n1 n2, e1, c1⟩
section
variable {X : Cx}
/-- a, b = a tuple -/
theorem pg_tupZ {K : PySem.W.Frag} {es : List Expr} {k : Nat} {t : TGs} {n : Nat} {pos : Pos} (hK : X.K = K) (hz : HotW X) (h : PGs X es t)
    (hn : (assignEach es X.env).length = n := by rfl) (hst : (assignEach es X.env).findIdx? (·.1) = none := by rfl) : PG X (.Tuple es k pos) (gTup K n t) := by
  subst hK
  refine ⟨fun pins s σ H v u Q I r ⟨a, xs, e1, hq, hl, hw⟩ => ?_⟩
  subst e1
  cases r
  obtain ⟨its, rv, ht, _⟩ := I.tuple hq
  obtain ⟨x1, hot⟩ := hz pins σ H s I
  refine sd_unpack hot ht (by simp [hn, ← hl, rv.length]) hst fun h' hx => ?_
  exact h.run pins _ σ H xs _ Q (I.kept (t' := s.toks) fun b o e => hx b o (Nat.ne_of_lt (Heap.lt_size e)) e) (by simpa using rv) hw
end
/-- turns of an iterator while an error is handled -/
structure TurnZ (P : Program) (w : World) (K : PySem.W.Frag) (tg : Expr) (J : It) (fp : List Addr) (it : Addr) (tn : Nat → Heap → Prop) : Prop where
  obj : ∀ i h, tn i h → ∀ b ∈ fp, ∃ o, h.get? b = some o ∧ ∀ v, o.data ≠ .cell v
  keep : ∀ i h h', tn i h → (∀ b ∈ fp, ∀ o, h.get? b = some o → h'.get? b = some o) → tn i h'
  item : ∀ (X : Cx), X.prog = P → X.w = w → X.K = K → ∀ (i : Nat) (pins : List (Addr × Obj)) (s : Shared) (σ : L2.St) (H : Hp) (E : Value → Shared → Prop), L2.Inv X pins σ H s → (∀ b ∈ fp, FpOk X pins H b) → tn i s.heap → J.go i H →
    wpAny (model P w) X.A (pyNext (.ref it)) (fun r s1 => ∃ u, r = some u ∧
      wpAny (model P w) X.A (letOwnedTupleGo tg (.ref it) u) (fun _ s2 => ∃ x H', L2.Inv X pins σ H' s2 ∧ RelV x u ∧ J.yld i H x H' ∧ tn (i + 1) s2.heap ∧ ∀ b ∈ fp, H' b = none) E s1) E s
  done : ∀ (X : Cx), X.prog = P → X.w = w → X.K = K → ∀ (i : Nat) (pins : List (Addr × Obj)) (s : Shared) (σ : L2.St) (H : Hp) (E : Value → Shared → Prop) (x1 : Addr), HotAt X.A x1 s.heap → x1 ∉ fp → L2.Inv X pins σ H s → (∀ b ∈ fp, FpOk X pins H b) → tn i s.heap → J.stop i H →
    wpAny (model P w) X.A (pyNext (.ref it)) (fun r s1 => r = none ∧ L2.Inv X pins σ H s1) E s
  self : ∀ (A : Around) (i : Nat) (s : Shared) (Q : Value → Shared → Prop) (E : Value → Shared → Prop), tn i s.heap → Q (.ref it) s → wpAny (model P w) A (pyIter (.ref it)) Q E s
theorem turn_listZ {P : Program} {w : World} {K : PySem.W.Frag} {tg : Expr} (a it : Addr) : TurnZ P w K tg (Itl K a) [it] it (fun i h => h.IsListIter it a i) where
  obj := fun i h st b hb => by
    rw [List.mem_singleton.mp hb]
    obtain ⟨o, e, _, d⟩ := st
    exact ⟨o, e, fun v z => by rw [d] at z; cases z⟩
  keep := fun i h h' st k => st.at fun o e => k it (List.mem_singleton_self _) o e
  item := by
    intro X hP hw hK i pins s σ H E I hf st ⟨xs, x, hq, hx⟩
    subst hP hw hK
    obtain ⟨its, rv, p, _⟩ := I.list hq
    obtain ⟨u, hu, ru⟩ := rv.get hx
    obtain ⟨f0, f1, f2, f3, f4, f5⟩ := hf it (List.mem_singleton_self _)
    refine wpAny_pyNext_list_item st p.isList (x := u) (by simpa using hu) fun h' st' sb => ?_
    have I1 : L2.Inv X pins σ H { s with heap := h' } := I.turned (t' := s.toks) (fun b o hb e => (sb.2 b hb).trans e) f0 f1 f3 f4 f5
    obtain ⟨o, e, c, d⟩ := id st'
    exact ⟨u, rfl, go_of (s := { s with heap := h' }) e c d (by decide) ⟨x, H, I1, ru, ⟨rfl, fun ys hy => by rw [I.list_inj hy hq]; exact hx⟩, st', fun b hb => (hf b hb).1⟩⟩
  done := by
    intro X hP hw hK i pins s σ H E x1 hot nx I hf st ⟨xs, hq, hx⟩
    subst hP hw hK
    obtain ⟨its, rv, p, _⟩ := I.list hq
    obtain ⟨f0, f1, f2, f3, f4, f5⟩ := hf it (List.mem_singleton_self _)
    have hl := rv.length
    exact sd_list_end hot (fun z => nx (by rw [z]; exact List.mem_singleton_self _)) st p.isList (by simp; omega) fun h' eb => ⟨rfl, I.turned (t' := s.toks) (fun b o hb e => eb b o hb e) f0 f1 f3 f4 f5⟩
  self := fun _ _ _ _ _ st h => wpAny_pyIter_listiter st h
def PIEZ (X : Cx) (pins : List (Addr × Obj)) (σ : L2.St) (tg : Expr) (R : It → Hp → Prop) (itv : Value) (s2 : Shared) : Prop :=
  ∃ (it : Addr) (fp : List Addr) (tn : Nat → Heap → Prop) (J : It) (H' : Hp), itv = .ref it ∧ L2.Inv X pins σ H' s2 ∧ TurnZ X.prog X.w X.K tg J fp it tn ∧ tn 0 s2.heap ∧ (∀ b ∈ fp, FpOk X pins H' b) ∧ R J H'
structure PIZ (X : Cx) (tg iter : Expr) (wi : TI) : Prop where
  run : ∀ (pins : List (Addr × Obj)) (s : Shared) (σ : L2.St) (H : Hp) (R : It → Hp → Prop), L2.Inv X pins σ H s → wi σ H R →
    wpAny (model X.prog X.w) X.A (eval iter X.env) (fun v s1 => wpAny (model X.prog X.w) X.A (pyIter v) (PIEZ X pins σ tg R) X.xe s1) X.xe s
section
variable {X : Cx} {tg : Expr}
theorem pi_listZ {K : PySem.W.Frag} {l : Expr} {tl : TE} (hK : X.K = K) (hl : PE X l tl) : PIZ X tg l (iList K tl) := by
  subst hK
  refine ⟨fun pins s σ H R I h => thn (hl.run pins s σ H _ I h) fun v s1 ⟨x, H1, I1, r1, a, e, ⟨xs, hq⟩, q⟩ => ?_⟩
  subst e
  cases r1
  obtain ⟨its, rv, p, _⟩ := I1.list hq
  refine wpAny_pyIter_list p.isList ?_
  refine ⟨s1.heap.objs.size, [s1.heap.objs.size], _, _, H1, rfl, I1.kept (t' := s1.toks) fun b o e => Heap.get?_push_of_some _ e, turn_listZ a _, ⟨_, Heap.get?_push_size _ rfl, rfl, rfl⟩, fun b hb => ?_, q⟩
  rw [List.mem_singleton.mp hb]
  exact I1.fpOk (Nat.le_refl _) (I1.hok.fresh (Nat.le_refl _))
/-- the handled error, at a state -/
theorem hotC_at {pins : List (Addr × Obj)} {σ : L2.St} {H : Hp} {s : Shared} {fp : List Addr} {p : Addr × Obj} (hot : Hot1 X.A p) (hp : p ∈ X.pn) (I : L2.Inv X pins σ H s) (hf : ∀ b ∈ fp, FpOk X pins H b) : HotAt X.A p.1 s.heap ∧ p.1 ∉ fp := by
  obtain ⟨hh, v1, e1, c1⟩ := hot
  exact ⟨⟨hh, p.2, v1, (I.pin p (List.mem_append_left _ hp)).1, e1, c1⟩, fun hm => (hf p.1 hm).2.2.2.2.2 p (List.mem_append_left _ hp) rfl⟩
theorem ps_forZ {iter : Expr} {body : List Stmt} {wi : TI} {g : TG} {tb : TS} {pos : Pos} (hp : PassesOwn (model X.prog X.w) X.A X.env X.xe) (hc : HotC X) (hi : PIZ X tg iter wi) (hg : PG X tg g) (hb : PSs X body tb)
    (hs : ∀ x, foldedSetIterable iter X.env x = pure x := by intro _; rfl) : PS X (.For tg iter body [] pos) (tFor wi g tb) := by
  obtain ⟨p, hot, hpn⟩ := hc
  refine ⟨fun pins s σ H D I h => ?_⟩
  refine wpAny_For (thn (hi.run pins s σ H _ I h) fun v s1 h1 => thn h1 fun itv s2 ⟨it, fp, tn, J, H2, e, I2, T, st2, f2, W, ⟨m0, w0⟩, turn⟩ => ?_) hs
  subst e
  have stat : ∀ {H' : Hp}, (∀ b ∈ fp, H' b = none) → ∀ b ∈ fp, FpOk X pins H' b := fun hn b hb => ⟨hn b hb, (f2 b hb).2⟩
  refine codeAny_forLoop_any (fun n s' => ∃ i σ' H', L2.Inv X pins σ' H' s' ∧ tn i s'.heap ∧ (∀ b ∈ fp, H' b = none) ∧ W i n σ' H') (fun n s3 ⟨i, σ3, H3, I3, st3, fr3, w3⟩ => ?_) m0 ⟨0, σ, H2, I2, st2, fun b hb => (f2 b hb).1, w0⟩
  obtain ⟨ha, nx⟩ := hotC_at hot hpn I3 (stat fr3)
  rcases turn i n σ3 H3 w3 with ⟨stop, qn⟩ | ⟨go, N, hN, step⟩
  · refine wpAny_passesOwn hp (thn (T.done X rfl rfl rfl i pins s3 σ3 H3 X.xe p.1 ha nx I3 (stat fr3) st3 stop) fun r s4 ⟨hr, I4⟩ => ?_)
    subst hr
    exact wpAny_execs_nil ⟨σ3, H3, I4, qn⟩
  · refine wpAny_passesOwn hp (thn (T.item X rfl rfl rfl i pins s3 σ3 H3 X.xe I3 (stat fr3) st3 go) fun r s4 ⟨u, hr, h4⟩ => ?_)
    subst hr
    refine wpAny_passesOwn hp (thn h4 fun _ s5 ⟨x, H5, I5, r5, y5, st5, fr5⟩ => ?_)
    refine wpAny_passesOwn hp (thn (hg.run _ s5 σ3 H5 x u _ (I5.pinned (stat fr5) (T.obj _ _ st5)) r5 (step x H5 y5)) fun _ s6 ⟨σ6, H6, I6, q6⟩ => ?_)
    refine wpAny_passesOwn hp (thn (hb.run _ s6 σ6 H6 _ I6 q6) fun f s7 q7 => ?_)
    have again : ∀ {σ7 : L2.St} {H7 : Hp}, L2.Inv X (pins ++ pinsAt fp s5.heap) σ7 H7 s7 → N σ7 H7 → ∃ m, m < n ∧ ∃ i σ' H', L2.Inv X pins σ' H' s7 ∧ tn i s7.heap ∧ (∀ b ∈ fp, H' b = none) ∧ W i m σ' H' := fun {σ7 H7} I7 n7 => by
      obtain ⟨m', hm, w7⟩ := hN σ7 H7 n7
      have at7 : ∀ b ∈ fp, ∀ o, s5.heap.get? b = some o → s7.heap.get? b = some o ∧ H7 b = none := fun b hb o e =>
        ⟨(I7.pin (b, o) (List.mem_append_right _ (List.mem_append_right _ (mem_pinsAt hb e)))).1, (I7.pin (b, o) (List.mem_append_right _ (List.mem_append_right _ (mem_pinsAt hb e)))).2.1⟩
      refine ⟨m', hm, i + 1, σ7, H7, I7.unpinned, T.keep _ _ _ st5 fun b hb o e => (at7 b hb o e).1, fun b hb => ?_, w7⟩
      obtain ⟨o, e, _⟩ := T.obj _ _ st5 b hb
      exact (at7 b hb o e).2
    cases f with
    | next =>
      obtain ⟨_, _, I7, n7⟩ := q7
      exact again I7 n7
    | cont =>
      obtain ⟨_, _, I7, n7⟩ := q7
      exact again I7 n7
    | brk =>
      obtain ⟨σ7, H7, I7, q7⟩ := q7
      exact ⟨σ7, H7, I7.unpinned, q7⟩
    | ret v =>
      obtain ⟨x7, σ7, H7, I7, r7, q7⟩ := q7
      exact ⟨x7, σ7, H7, I7.unpinned, r7, q7⟩
section
variable {elt iter : Expr} {ifs : List Expr} {scope : Scope} {own : List (Str × Nat)} {pos : Pos} {wi : TI} {g : TG} {tt : TT} {te : TE}
/-- a comprehension's parts, in each block where the handled error stands -/
structure LcZ (X : Cx) (tg elt : Expr) (ifs : List Expr) (scope : Scope) (g : TG) (tt : TT) (te : TE) : Prop where
  tg : ∀ (s : Shared) (H : Hp) (C : Addr) (cl : List (Str × Addr)) (fp : List Addr), HotW (X.blk s H scope (compEnvC scope cl C X.env) fp) → PG (X.blk s H scope (compEnvC scope cl C X.env) fp) tg g
  ifs : ∀ (s : Shared) (H : Hp) (C : Addr) (cl : List (Str × Addr)) (fp : List Addr), PTs (X.blk s H scope (compEnvC scope cl C X.env) fp) ifs tt
  elt : ∀ (s : Shared) (H : Hp) (C : Addr) (cl : List (Str × Addr)) (fp : List Addr), PE (X.blk s H scope (compEnvC scope cl C X.env) fp) elt te
theorem lcZ_core {pins : List (Addr × Obj)} {s : Shared} {σ : L2.St} {H : Hp} {Q : VK} {pos' : Pos} {use : Option (Value → Sem Unit)} {Qf : Value → Shared → Prop}
    (hc : HotC X) (hN : X.N.Nodup) (I : L2.Inv X pins σ H s) (hi : PIZ X tg iter wi) (ok : BlkOk X.N X.env.scope scope own) (L : LcZ X tg elt ifs scope g tt te) (hs : ∀ x, foldedSetIterable iter X.env x = pure x)
    (h : tLc wi g tt te (own.map (·.2)) σ H Q)
    (fin : ∀ D C s' m H', L2.Inv X pins σ H' s' → Q (.ref D) H' → s'.heap.Ns C m → FpOk X pins H' C → compPost (model X.prog X.w) X.A X.xe use Qf (.ref D) C (.ok .next) s') :
    wpAny (model X.prog X.w) X.A (comprehension (.ListComp elt [⟨tg, iter, ifs, 0⟩] scope pos) scope X.env pos' (newList []) false (eval iter X.env) use) Qf X.xe s := by
  have hfree : ∀ y ∈ scope.names, y.2 = .free → ∃ c, X.env.cells.lookup y.1 = some c := fun y hy e => (ok.free y hy e).elim (fun k => I.ok.has _ (.inl k)) fun k => I.ok.has _ (.inr k)
  refine wpAny_comprehension_free (use := use) rfl hs (closure_ok hfree) ok.kind (fun y hy e => by rw [ok.uniq y hy, e])
    (thn (hi.run pins s σ H _ I h) fun xv s1 hx => thn hx fun itv s2 ⟨it, fp, tn, J, H2, e, I2, T, st2, f2, q⟩ => ?_)
  subst e
  refine wpAny_newObj_type (newEnv_comp ?_) (by show 0 ≤ sizeLine; decide)
  obtain ⟨W, ⟨m0, w0⟩, turn⟩ := q s2.heap.objs.size (I2.hok.fresh (Nat.le_refl _))
  -- the new list at D, its state s3
  obtain ⟨D, hD⟩ : ∃ D, D = s2.heap.objs.size := ⟨_, rfl⟩
  rw [← hD] at w0 turn
  have lt2 : ∀ b ∈ fp, b < s2.heap.objs.size := fun b hb => by
    obtain ⟨o, e, _⟩ := T.obj _ _ st2 b hb
    exact Heap.lt_size e
  obtain ⟨s3, hs3⟩ : ∃ s3 : Shared, s3 = { s2 with heap := s2.heap.push { cls := .type "list", data := .seq ([] : List Value).toArray } } := ⟨_, rfl⟩
  have h3 : s3.heap = s2.heap.push { cls := .type "list", data := .seq ([] : List Value).toArray } := by rw [hs3]
  have k3 : ∀ b o, s2.heap.get? b = some o → s3.heap.get? b = some o := fun b o e => by rw [h3]; exact Heap.get?_push_of_some _ e
  have I3 : L2.Inv X pins σ (upd H2 D (.lst [])) s3 := by
    rw [hs3]
    refine I2.laid (t' := s2.toks) (fun b o e => Heap.get?_push_of_some _ e) (Nat.le_of_eq hD.symm) ⟨Nat.zero_le _, [], 0, .nil, ?_⟩
    rw [hD]
    exact Heap.get?_push_size _ rfl
  obtain ⟨H3, hH3⟩ : ∃ H3, H3 = upd H2 D (.lst []) := ⟨_, rfl⟩
  rw [← hH3] at I3 w0
  have f3 : ∀ b ∈ fp, FpOk X pins H3 b ∧ b < s3.heap.objs.size := fun b hb => by
    refine ⟨⟨?_, (f2 b hb).2⟩, by rw [h3, Heap.size_push]; exact Nat.lt_succ_of_lt (lt2 b hb)⟩
    rw [hH3, upd_ne (by rw [hD]; exact Nat.ne_of_lt (lt2 b hb))]
    exact (f2 b hb).1
  have I4 := block_start I3 ok hN f3
  -- the block
  obtain ⟨cl, hcl⟩ : ∃ cl, cl = cellsFrom (s3.heap.objs.size + 1) scope.names (cloFrom X.env.cells scope.names []) := ⟨_, rfl⟩
  have hw := hotW_blk (scope := scope) (ce := compEnvC scope cl s3.heap.objs.size X.env) hc I3 fun b hb => (f3 b hb).1
  have pg := L.tg s3 H3 s3.heap.objs.size cl fp hw
  have pt := L.ifs s3 H3 s3.heap.objs.size cl fp
  have pe := L.elt s3 H3 s3.heap.objs.size cl fp
  rw [← hcl] at I4
  rw [← hs3] 
  rw [show s2.heap.objs.size = D from hD.symm]
  show codeAny _ _ (.compStart (.ListComp elt [⟨tg, iter, ifs, 0⟩] scope pos) 0 (.ref it) (.ref D) (compEnvC scope (cellsFrom (s3.heap.objs.size + 1) scope.names (cloFrom X.env.cells scope.names [])) s3.heap.objs.size X.env)) (compPost (model X.prog X.w) X.A X.xe use Qf (.ref D) s3.heap.objs.size) { s3 with heap := pushCells (s3.heap.push { cls := .type "dict", data := .dict #[] }) scope.names }
  rw [← hcl]
  obtain ⟨ce, hce⟩ : ∃ ce, ce = compEnvC scope cl s3.heap.objs.size X.env := ⟨_, rfl⟩
  have cL : ce.locals = s3.heap.objs.size := by rw [hce]; rfl
  rw [← hce] at I4 hw pg pt pe ⊢
  obtain ⟨s4, hs4⟩ : ∃ s4 : Shared, s4 = { s3 with heap := pushCells (s3.heap.push { cls := .type "dict", data := .dict #[] }) scope.names } := ⟨_, rfl⟩
  rw [← hs4] at I4 ⊢
  have st4 : tn 0 s4.heap := T.keep _ _ _ (T.keep _ _ _ st2 fun b _ o e => k3 b o e) fun b _ o e => by rw [hs4]; exact pushCells_keeps _ _ _ _ (Heap.get?_push_of_some _ e)
  have stat : ∀ {σ' : L2.St} {H' : Hp} {s' : Shared}, L2.Inv (X.blk s3 H3 scope ce fp) [] σ' H' s' → (∀ b ∈ fp, H' b = none) → ∀ b ∈ fp, FpOk (X.blk s3 H3 scope ce fp) [] H' b := fun {σ' H' s'} I' hn b hb =>
    ⟨hn b hb, (I'.ok.exf b hb).1, I'.ok.exfs b hb, .inl hb, fun x c e => (I'.ok.exf b hb).2 x c e, fun p hp => absurd (show p ∈ ([] : List (Addr × Obj)) ++ [] from hp) (by simp)⟩
  have loop : codeAny (model X.prog X.w) X.A (.compLoop (.ListComp elt [⟨tg, iter, ifs, 0⟩] scope pos) 0 (.ref it) (.ref D) ce) (compPost (model X.prog X.w) X.A X.xe use Qf (.ref D) s3.heap.objs.size) s4 := by
    refine compLoop_any (fun n s' => ∃ i H', L2.Inv (X.blk s3 H3 scope ce fp) [] (wipe σ (own.map (·.2))) H' s' ∧ tn i s'.heap ∧ (∀ b ∈ fp, H' b = none) ∧ W i n H') (fun n s5 ⟨i, H5, I5, st5, n5, w5⟩ => ?_) m0 ⟨0, H3, I4, st4, fun b hb => (f3 b hb).1.1, w0⟩
    rcases turn i n H5 w5 with ⟨stop, qq⟩ | ⟨go, Nx, hNx, step⟩
    · -- the end: back in the def
      obtain ⟨p, ⟨hh, v1, d1, c1⟩, hp⟩ := id hc
      have P := I3.pin p (List.mem_append_left _ hp)
      have nf : p.1 ∉ fp := fun hm => (f3 p.1 hm).1.2.2.2.2.2 p (List.mem_append_left _ hp) rfl
      have g5 := I5.base.keep p.1 p.2 P.1 P.2.1 (fun hm => (List.mem_cons.mp (I3.stkSub p.1 hm)).elim P.2.2.1 P.2.2.2.1) nf
      refine thnF (T.done (X.blk s3 H3 scope ce fp) rfl rfl rfl i [] s5 _ H5 (fun _ _ => False) p.1 ⟨hh, p.2, v1, g5, d1, c1⟩ nf I5 (stat I5 n5) st5 stop) fun r s6 ⟨hr, I6⟩ => ?_
      subst hr
      have I7 : L2.Inv X pins σ H5 s6 := I3.call' (ch := fp) I6.os I6.base I6.hok I6.bare fun b hb => ⟨(f3 b hb).1.2.2.2.1, (f3 b hb).1.2.1, (f3 b hb).1.2.2.2.2.1, (f3 b hb).1.2.2.2.2.2⟩
      have nC : H5 ce.locals = none := I6.free
      obtain ⟨m, hn, _⟩ := I6.loc
      have hn : s6.heap.Ns ce.locals m := hn
      rw [cL] at hn nC
      exact fin D s3.heap.objs.size s6 m H5 I7 qq hn (I3.fpOk (Nat.le_refl _) nC)
    · refine thnF (T.item (X.blk s3 H3 scope ce fp) rfl rfl rfl i [] s5 _ H5 (fun _ _ => False) I5 (stat I5 n5) st5 go) fun r s6 ⟨u, hr, h6⟩ => ?_
      subst hr
      refine thnF h6 fun _ s7 ⟨x, H7, I7, r7, y7, st7, n7⟩ => ?_
      refine thnF (pg.run _ s7 _ H7 x u _ (I7.pinned (stat I7 n7) (T.obj _ _ st7)) r7 (step x H7 y7)) fun _ s8 ⟨σ8, H8, I8, hw8, q8⟩ => ?_
      refine thnF (pt.run _ s8 σ8 H8 _ I8 q8) fun b s9 ⟨H9, I9, q9⟩ => ?_
      have again : ∀ {s' : Shared} {H' : Hp}, L2.Inv (X.blk s3 H3 scope ce fp) ([] ++ pinsAt fp s7.heap) σ8 H' s' → Nx H' → ∃ m, m < n ∧ ∃ i H', L2.Inv (X.blk s3 H3 scope ce fp) [] (wipe σ (own.map (·.2))) H' s' ∧ tn i s'.heap ∧ (∀ b ∈ fp, H' b = none) ∧ W i m H' := fun {s' H'} I' nx => by
        obtain ⟨m', hm, w'⟩ := hNx H' nx
        have at' : ∀ b ∈ fp, ∀ o, s7.heap.get? b = some o → s'.heap.get? b = some o ∧ H' b = none := fun b hb o e =>
          ⟨(I'.pin (b, o) (List.mem_append_right _ (List.mem_append_right _ (mem_pinsAt hb e)))).1, (I'.pin (b, o) (List.mem_append_right _ (List.mem_append_right _ (mem_pinsAt hb e)))).2.1⟩
        refine ⟨m', hm, i + 1, H', (I'.unpinned (pins := [])).weak (by rw [← hw8, wipe_length]) (fun j v e => ?_), T.keep _ _ _ st7 fun b hb o e => (at' b hb o e).1, fun b hb => ?_, w'⟩
        · rw [← hw8] at e
          exact (wipe_some e).1
        · obtain ⟨o, e, _⟩ := T.obj _ _ st7 b hb
          exact (at' b hb o e).2
      cases b with
      | false =>
        simp only [Bool.false_eq_true, if_false] at q9 ⊢
        exact again I9 q9
      | true =>
        simp only [if_true] at q9 ⊢
        refine thnF (pe.run _ s9 σ8 H9 _ I9 q9) fun z s10 ⟨yv, H10, I10, r10, acc, hD10, hz10, nx⟩ => ?_
        exact app_ok (X := X.blk s3 H3 scope ce fp) I10 hD10 hz10 r10 fun s11 I11 => again I11 nx
  exact codeAny_compStart_list loop (T.self X.A 0 _ _ _ st4 loop)
theorem pe_lcZ (hc : HotC X) (hN : X.N.Nodup) (hi : PIZ X tg iter wi) (ok : BlkOk X.N X.env.scope scope own) (L : LcZ X tg elt ifs scope g tt te) (hs : ∀ x, foldedSetIterable iter X.env x = pure x := by intro _; rfl) :
    PE X (.ListComp elt [⟨tg, iter, ifs, 0⟩] scope pos) (tLc wi g tt te (own.map (·.2))) := by
  refine ⟨fun pins s σ H Q I h => ?_⟩
  rw [eval_ListComp]
  refine lcZ_core hc hN I hi ok L hs h fun D C s' m H' I' q hn f => ⟨m, hn, fun h'' sb => ?_⟩
  obtain ⟨f0, f1, f2, f3, f4, f5⟩ := f
  exact ⟨.ref D, H', I'.turned (t' := s'.toks) (fun b o hb e => (sb.2 b hb).trans e) f0 f1 f3 f4 f5, rfl, q⟩
/-- name = [..] on one line -/
theorem ps_setLcZ {i : Nat} {y : Str} {py spos : Pos} (hc : HotC X) (hN : X.N.Nodup) (hy : X.N[i]? = some y) (hyl : X.env.scope.names.lookup y = some .local)
    (hsw : swapsWith (.ListComp elt [⟨tg, iter, ifs, 0⟩] scope pos) (some (.Name y py)) spos.line X.env = pure true) (hi : PIZ X tg iter wi) (ok : BlkOk X.N X.env.scope scope own) (L : LcZ X tg elt ifs scope g tt te) (hs : ∀ x, foldedSetIterable iter X.env x = pure x := by intro _; rfl) :
    PS X (.Assign [.Name y py] (.ListComp elt [⟨tg, iter, ifs, 0⟩] scope pos) spos) (tAsg (tLc wi g tt te (own.map (·.2))) (gName i)) := by
  refine ⟨fun pins s σ H D I h => ?_⟩
  rw [exec_Assign_Name_used _ _ _ _ hsw]
  refine wpAny_bind (wpAny_standAt (wpAny_bind ?_))
  show wpAny _ X.A (do let _ ← comprehension (.ListComp elt [⟨tg, iter, ifs, 0⟩] scope pos) scope X.env (firstIterPos [⟨tg, iter, ifs, 0⟩] pos) (newList []) false (eval iter X.env) (some (assign (.Name y py) X.env))) _ _ s
  have h : tLc wi g tt te (own.map (·.2)) σ H (fun x H1 => gName i x σ H1 D.nx) := h
  refine wpAny_bind (thn (lcZ_core (Qf := fun _ s' => SP X pins D .next s') hc hN I hi ok L hs h fun l C s' m H' I' q hn f => ?_) fun _ s' hq => wpAny_pure (wpAny_pure hq))
  show wpAny _ _ (assign (.Name y py) X.env (.ref l)) _ _ _
  refine wpAny_assign_Name (store_ok2 (v := V.ref l) I' hN hy (.inl hyl) rfl (fun s2 I2 ⟨a, sb, ha⟩ => ?_) (.inr hyl))
  obtain ⟨f0, f1, f2, f3, f4, f5⟩ := f
  have haC : C ≠ a := ha.elim (fun z => by rw [z]; exact f1) fun z => fun e => f4 y a z e.symm
  exact ⟨m, hn.sameBut sb haC, fun h3 sb3 => ⟨_, H', I2.turned (t' := s2.toks) (fun b o hb e => (sb3.2 b hb).trans e) f0 f1 f3 f4 f5, q⟩⟩
end
end
end Sd

/-! ### a def that is handed the handled error -/
namespace Sd
open PySem PySem.Spec PyProof.Rows L2 L2H HotX
/-- what a def promises that is called while p is handled; p stands beside what is tracked -/
structure FnZ (P : Program) (w : World) (K : PySem.W.Frag) (mg : Str → Option Value) (base : Heap) (CX : CXT) (k : Nat) (f : Addr) (fd : FuncData) (ps : List Str) (sp : Addr × Obj → Sp) : Prop where
  len : ∀ p vs H Q E, sp p vs H Q E → vs.length = ps.length
  run : ∀ (A : Around) (outer : List Env) (s : Shared) (H : Hp) (args : Args) (us : List Value) (vs : List V) (Q : VK) (E : XK) (p : Addr × Obj), RoomH k A → A.guards = some [] → Hot1 A p → PinOk outer H s p → Env0 P w K mg base A outer s H → BindsTo s fd args (ps.zip us) → Vals vs us → sp p vs H Q E →
    codeAny (model P w) A (.call (.ref f) args) (CR CX outer P w H s Q E) s
section
variable {P : Program} {w : World} {K : PySem.W.Frag} {mg : Str → Option Value} {base : Heap}
theorem okZ {x qual : Str} {st : Stmt} {f : Addr} {fd : FuncData} {N ps : List Str} {k : Nat} {sp : Addr × Obj → Sp} (F : Fun K x qual st f fd) (S : FnScope N ps (defScope st)) (len : ∀ p vs H Q E, sp p vs H Q E → vs.length = ps.length)
    (hb : ∀ (cd : Value) (A : Around) (outer : List Env) (s : Shared) (H : Hp) (vs : List V) (Q : VK) (E : XK) (p : Addr × Obj), A.guards = some [] → Hot1 A p → RoomH k (A.deeper (envOfC qual (defScope st) s.heap.objs.size f cd)) → sp p vs H Q E →
      ∃ t, PSs (cxH CX0 P w K mg base N qual (defScope st) f cd A outer s H E p).nox (defBody st) t ∧ t { nx := fun _ H' => Q .non H', rt := Q } (L2.start N vs) H) : FnZ P w K mg base CX0 (k + 1) f fd ps sp := by
  obtain ⟨oc, od, kV, doc, pm, an, cd, ct, osl, rfl, lk, hcd⟩ := F.ex
  refine ⟨fun p => len p, fun A outer s H args us vs Q E p hr hg hot hpin e0 hbi r hsp => ?_⟩
  have hl := len _ _ _ _ _ hsp
  have KX : K.In s.heap := e0.mod.kin.keeps fun b o e => (e0.bs b o e).1
  have lim : s.heap.NoLimit := e0.mod.nolimit.keeps fun b o e => (e0.bs b o e).1
  have hkind : ∀ y ∈ ps.zip us, (defScope st).names.lookup y.1 = some .local ∨ ((defScope st).names.lookup y.1 = some .cell ∧ ((cellsFrom (s.heap.objs.size + 1) (defScope st).names []).lookup y.1).isSome = true) := fun ⟨n, v⟩ hy =>
    (S.par n (List.of_mem_zip hy).1).elim .inl fun q => .inr ⟨q, PySem.W.cellsFrom_some _ _ _ (.inl q)⟩
  refine codeAny_call_function hr.depth (KX _ _ lk) rfl S.co S.gen rfl (PySem.W.codeRec_of KX hcd) (hbi _ _ _ _ ?_)
  refine wpAny_newFunctionEnv_cells S.kind hkind fun env he s1 y => ?_
  subst he
  refine ⟨lim.keeps y.toInCall.keep, codeAny_func ?_⟩
  obtain ⟨t, ht, hq⟩ := hb cd A outer s H vs Q E p hg hot (hr.deeper _) hsp
  have I : L2.Inv (cxH CX0 P w K mg base N qual (defScope st) f cd A outer s H E p) [] (L2.start N vs) H s1 := inv_startH S hpin e0 hl r y
  refine wpAny_mono (ht.nox.run [] s1 (L2.start N vs) H _ I hq) (fun fl s' hs => ?_) fun e s' hs => hs
  cases fl with
  | ret u =>
    obtain ⟨v, σ', H', J, rv, q⟩ := hs
    exact ⟨v, H', J.os, J.bare, J.base, J.hok, rv, q⟩
  | next =>
    obtain ⟨σ', H', J, q⟩ := hs
    exact ⟨V.non, H', J.os, J.bare, J.base, J.hok, rfl, q⟩
  | brk => exact hs.elim fun _ z => z.elim fun _ z => z.2.elim
  | cont => exact hs.elim fun _ z => z.elim fun _ z => z.2.elim
end
section
variable {X : Cx} {CX : CXT} {k : Nat} {f : Addr} {fd : FuncData} {ps : List Str} {sp : Addr × Obj → Sp} {E : L2.St → XK} {x : Str} {q pos : Pos} {e : Expr} {es : List Expr} {t : TA} {p : Addr × Obj}
/-- f(e, ..), p the handled error -/
def tCallZ (sp : Addr × Obj → Sp) (p : Addr × Obj) (E : L2.St → XK) (t : TA) : TE := fun σ H Q => t σ H fun vs H1 => sp p vs H1 Q (E σ)
theorem pe_callZ (F : FnZ X.prog X.w X.K X.mg X.base CX k f fd ps sp) (hr : RoomH k X.A) (hgd : X.A.guards = some []) (hot : Hot1 X.A p) (hp : p ∈ X.pn) (hg : Gl X x) (hm : X.mg x = some (.ref f)) (hk : PySem.W.keepIn X.K (.ref f) = true) (hb : Binds X.K fd ps []) (hx : ∀ σ, PassesAt CX X σ (E σ))
    (ha : PA X (e :: es) t) (hdb : (x == ("__debug__" : Str)) = false := by decide) (he : starEach (e :: es) X.env = (false, eval e X.env) :: starEach es X.env := by rfl) (hpl : (backTo pos (starEach es X.env)).any (·.1) = false := by rfl) :
    PE X (.Call (.Name x q) (e :: es) [] pos) (tCallZ sp p E t) := by
  refine ⟨fun pins s σ H Q I h => ?_⟩
  refine wpAny_Call_Name_kw (ld_glob I hg hm ?_ hdb)
  refine PySem.W.callWith_K (h₀ := X.base) I.ok.mod.kin hk (thn (ha.run pos pins s σ H _ I h) fun us s1 ⟨vs, H1, I1, r, q⟩ => ⟨I1.kIn, ?_⟩) he hpl
  show wpAny _ _ (call (.ref f) us) _ _ _
  have hl : us.length = ps.length := by rw [← r.length]; exact F.len _ _ _ _ _ q
  have b := hb s1 us I1.kIn (by rw [List.append_nil]; exact hl)
  rw [List.append_nil] at b
  have P1 := I1.pin p (List.mem_append_left _ hp)
  have hpin : PinOk X.stack H1 s1 p := ⟨P1.1, P1.2.1, fun hm => (List.mem_cons.mp (I1.stkSub p.1 hm)).elim P1.2.2.1 P1.2.2.2.1, P1.2.2.2.2⟩
  refine wpAny_call (codeAny_mono (F.run X.A X.stack s1 H1 ⟨us, []⟩ us vs Q (E σ) p hr hgd hot hpin I1.env0 b r q) fun r s' hq => ?_)
  cases r with
  | error e => exact hx σ pins H1 s1 e s' I1 hq
  | ok fl =>
    cases fl with
    | ret u => exact I1.after hq
    | next => exact False.elim hq
    | brk => exact False.elim hq
    | cont => exact False.elim hq
end
/-! ### the handled error, asked and read -/
/-- p is an error of the class at C with these fields -/
def PinE (H : Hp) (p : Addr × Obj) (C : Addr) (fs : List (Str × V)) : Prop := (∃ vs, p.2.data = .fields vs) ∧ ((fs = [] ∧ Zc (.ref C) none p.2) ∨ ∃ d, Zc (.ref C) (some d) p.2 ∧ H d = some (.xd fs))
theorem PinE.up {H H' : Hp} {p : Addr × Obj} {C : Addr} {fs : List (Str × V)} (h : PinE H p C fs) (s : Same H H') : PinE H' p C fs :=
  ⟨h.1, h.2.elim .inl fun ⟨d, z, e⟩ => .inr ⟨d, z, s _ _ e⟩⟩
section
variable {X : Cx} {pins : List (Addr × Obj)} {σ : L2.St} {H : Hp} {s : Shared} {p : Addr × Obj} {C : Addr} {fs : List (Str × V)}
theorem pin_inst (I : L2.Inv X pins σ H s) (hp : p ∈ X.pn) (e : PinE H p C fs) : ∃ od, PySem.W.InstAt s.heap p.1 p.2 C od ∧ (∀ f v, fs.lookup f = some v → ∃ o u, od = some o ∧ PySem.W.lookIn f o = some (some u) ∧ RelV v u) := by
  have P := (I.pin p (List.mem_append_left _ hp)).1
  obtain ⟨a, oc, od, oda, osl⟩ := p
  obtain ⟨⟨vs, hv⟩, h⟩ := e
  dsimp only at hv P h
  subst hv
  rcases h with ⟨e0, h1, h2⟩ | ⟨d, ⟨h1, h2⟩, ed⟩
  · dsimp only at h1 h2
    subst h1 h2
    refine ⟨none, ⟨P, rfl, rfl, trivial⟩, fun f v l => ?_⟩
    rw [e0] at l
    cases l
  · dsimp only at h1 h2
    subst h1 h2
    have hx : ObjOk X.prog X.w H s.heap d (.xd fs) := I.hok d _ ed
    obtain ⟨mA, hns, hr⟩ := hx
    obtain ⟨o, ho, hl⟩ := lookIn_ns hns
    refine ⟨some o, ⟨P, rfl, rfl, ho⟩, fun f v l => ?_⟩
    obtain ⟨u, hu, ru⟩ := RelO.some_of (v := v) (o := mA f) (by rw [← l]; exact hr f)
    exact ⟨o, u, rfl, by rw [hl, hu], ru⟩
/-- isinstance(e, c), e the handled error -/
def rIsP (K : PySem.W.Frag) (p : Addr × Obj) : List V → Hp → VK → Prop := fun xs H Q => ∃ (D : Addr) (fs : List (Str × V)) (c : V) (cv : Value) (b : Bool), xs = [.ref p.1, c] ∧ PinE H p D fs ∧ ExcC K D ∧ (∀ u, RelV c u → u = cv) ∧ PySem.W.kitOne K (.ref D) cv = some b ∧ Q (.bl b) H
theorem isPL {K : PySem.W.Frag} (hK : X.K = K) (hp : p ∈ X.pn) : CallR X (.builtin "isinstance") (rIsP K p) := by
  subst hK
  intro pins s σ H xs us Q I r ⟨D, fs, c, cv, b, exs, e, C, hcv, ek, q⟩
  subst exs
  cases r with
  | cons rx rr =>
    cases rr with
    | cons rt rr =>
      cases rr
      cases rx
      have ec := hcv _ rt
      subst ec
      obtain ⟨od, J, _⟩ := pin_inst I hp e
      obtain ⟨cd, hcd, _⟩ := PySem.W.any_some C.hd
      exact PySem.W.kia_one (PySem.W.kitx_exc (ox := p.2) (od := od) (by rw [hcd]; rfl) C.hg C.hk C.hs C.ha C.hn C.ht C.hm) I.kIn J ek (fun z => nomatch z) fun tk => ⟨.bl b, H, I.kept (t' := tk) fun _ _ z => z, rfl, q⟩
/-- e.f, e the handled error -/
def tPinF (K : PySem.W.Frag) (p : Addr × Obj) (f : Str) (te : TE) : TE := fun σ H Q => te σ H fun x H1 => ∃ D fs v, x = .ref p.1 ∧ PinE H1 p D fs ∧ XfC K D ∧ PySem.W.findIn K (.ref D) f = some none ∧ fs.lookup f = some v ∧ Q v H1
theorem pinFL {K : PySem.W.Frag} {e : Expr} {te : TE} {pos : Pos} {n : Str} (hK : X.K = K) (hp : p ∈ X.pn) (he : PE X e te) (hb : attributeBase e n X.env (eval e X.env) = eval e X.env := by rfl) : PE X (.Attribute e n pos) (tPinF K p n te) := by
  subst hK
  refine ⟨fun pins s σ H Q I h => ?_⟩
  refine attr_of hb (thn (he.run pins s σ H _ I h) fun u s1 ⟨x, H1, I1, rx, D, fs, v, ex, ea, T, hno, l, q⟩ => ?_)
  subst ex
  obtain rfl : u = Value.ref p.1 := rx
  obtain ⟨od, J, look⟩ := pin_inst I1 hp ea
  obtain ⟨o, u, eo, hl, ru⟩ := look n v l
  subst eo
  exact HandSPX.exc_get I1.kIn J T.ga T.gg T.exC (PySem.W.findObj_own T.hdC hno rfl hl) (handed_of ru) ⟨v, H1, I1.tok _, ru, q⟩
end
/-- repr(a field) -/
def rReprF : List V → Hp → VK → Prop := fun xs H Q => (xs = [.non] ∧ Q (.str "None") H) ∨ ∃ i : Int, xs = [.int i] ∧ i.natAbs.log2 < 1920 ∧ Q (.str (toString i)) H
theorem reprF {X : Cx} : CallR X (.builtin "repr") rReprF := by
  intro pins s σ H xs us Q I r h
  rcases h with ⟨rfl, q⟩ | ⟨i, rfl, hz, q⟩
  · cases r with
    | cons r1 r2 =>
      cases r2
      cases r1
      exact PySem.P.repr_of_none ⟨.str "None", H, I.tok _, ⟨_, rfl⟩, q⟩
  · cases r with
    | cons r1 r2 =>
      cases r2
      obtain ⟨t, rfl⟩ := r1
      exact PySem.P.repr_of_int hz ⟨.str _, H, I.tok _, ⟨_, rfl⟩, q⟩
end Sd

/-! ### errors with an own __init__ raised, their context None -/
namespace Sd
open PySem PySem.Spec PyProof.Rows L2 L2H HotX
section
variable {P : Program} {w : World} {K : PySem.W.Frag} {mg : Str → Option Value} {base : Heap}
theorem okXN {x qual : Str} {st : Stmt} {f : Addr} {fd : FuncData} {N ps : List Str} {k : Nat} {sp : Sp} (F : Fun K x qual st f fd) (S : FnScope N ps (defScope st)) (len : ∀ vs H Q E, sp vs H Q E → vs.length = ps.length)
    (hb : ∀ (cdv : Value) (A : Around) (outer : List Env) (s : Shared) (H : Hp) (vs : List V) (Q : VK) (E : XK), Room k (A.deeper (envOfC qual (defScope st) s.heap.objs.size f cdv)) → sp vs H Q E →
      ∃ t, PSs (cxOf (L2N.CX P w) P w K mg base N qual (defScope st) f cdv A outer s H E) (defBody st) t ∧ t { nx := fun _ H' => Q .non H', rt := Q } (L2.start N vs) H) : FnOk P w K mg base (L2N.CX P w) (k + 1) f fd ps sp := by
  obtain ⟨oc, od, kV, doc, pm, an, cdv, ct, osl, rfl, lk, hcd⟩ := F.ex
  exact fn_of lk hcd S len fun A outer s H vs Q E hr hsp => hb cdv A outer s H vs Q E hr hsp
end
theorem takesN0 {X : Cx} : L2N.Takes X (fun _ _ _ _ => False) := fun _ _ x => by
  obtain ⟨_, _, _, _, _, _, _, _, _, _, _, _, _, _, _, _, z⟩ := x
  exact z.elim
section
variable {X : Cx} {CX : CXT} {x : Str} {C fI : Addr} {k : Nat} {fd : FuncData} {ps : List Str} {sp : Sp} {e : Expr} {es : List Expr} {p pos : Pos} {ta : TA}
/-- C(e), to be raised -/
def tMkN (C : Addr) (sp : Sp) (ta : TA) : L2.St → Hp → XK → Prop := fun σ H Q => ta σ H fun vs H1 => vs.length = 1 ∧ ∀ a, H1 a = none → sp (.ref a :: vs) (upd H1 a (exo a C none))
  (fun v H2 => v = .non ∧ ∃ (d : Addr) (fs : List (Str × V)), H2 a = some (exo a C (some d)) ∧ H2 d = some (exd d fs) ∧ H1 d = none ∧ Q (.ref C) (some d) (upd (del H2 a) d (.xd fs))) (fun _ _ _ => False)
theorem pmk_oexN (T : OexC X.K C) (iC : PySem.W.findIn X.K (.ref C) "__init__" = some (some (.ref fI))) (tI : PySem.W.typeIn X.K (.ref fI) = some (.type "function"))
    (F1 : FnOk X.prog X.w X.K X.mg X.base CX k fI fd ps sp) (hr : Room (k + 1) X.A) (hb : Binds X.K fd ps []) (hx : Passes CX X (fun _ _ _ => False)) (hg : Gl X x) (hm : X.mg x = some (.ref C)) (hp2 : ps.length = 2) (ha : PA X (e :: es) ta)
    (hdb : (x == ("__debug__" : Str)) = false := by decide) (he : starEach (e :: es) X.env = (false, eval e X.env) :: starEach es X.env := by rfl) (hpl : (backTo pos (starEach es X.env)).any (·.1) = false := by rfl) :
    L2N.PMk X (.Call (.Name x p) (e :: es) [] pos) (tMkN C sp ta) := by
  intro pins s σ H Q I h
  obtain ⟨nm, q, N, bs, bm, sn, sub, ab, col, dd, k0, k1, k2, k3, k5, hC, hbm⟩ := T.cls
  refine wpAny_Call_Name_kw (ld_glob I hg hm ?_ hdb)
  refine PySem.W.callWith_K (h₀ := X.base) I.ok.mod.kin T.kC (thn (ha.run pos pins s σ H _ I h) fun us s1 ⟨vs, H1, I1, r1, hz, q1⟩ => ⟨I1.kIn, ?_⟩) he hpl
  show wpAny _ _ (call (.ref C) us) _ _ _
  have hu1 : us.length = 1 := by
    rw [← Paired.length r1]
    exact hz
  obtain ⟨hp, g, dr, tk, os⟩ := s1
  have hsz : hp.objs.size ≤ hp.objs.size + 1 := Nat.le_succ _
  have hq := q1 (hp.objs.size + 1) (I1.hok.fresh hsz)
  have kk : ∀ b o, hp.get? b = some o → ((hp.push (PySem.W.kdv_tup us)).push (PySem.HandSPX.excO C hp.objs.size)).get? b = some o := fun b o e => Heap.get?_push_of_some _ (Heap.get?_push_of_some _ e)
  have hget : ((hp.push (PySem.W.kdv_tup us)).push (PySem.HandSPX.excO C hp.objs.size)).get? (hp.objs.size + 1) = some (PySem.HandSPX.excO C hp.objs.size) := by heap_get
  have I2 : L2.Inv X pins σ (upd H1 (hp.objs.size + 1) (exo (hp.objs.size + 1) C none)) ⟨(hp.push (PySem.W.kdv_tup us)).push (PySem.HandSPX.excO C hp.objs.size), g, dr, tk, os⟩ :=
    I1.laid (t' := tk) (a := hp.objs.size + 1) (o := exo (hp.objs.size + 1) C none) (h' := (hp.push (PySem.W.kdv_tup us)).push (PySem.HandSPX.excO C hp.objs.size)) kk hsz (exo_ok hget)
  have b2 := hb _ (Value.ref (hp.objs.size + 1) :: us) I2.kIn (by rw [List.append_nil, List.length_cons, hu1, hp2])
  rw [List.append_nil] at b2
  have r2 : Vals (V.ref (hp.objs.size + 1) :: vs) (Value.ref (hp.objs.size + 1) :: us) := .cons rfl r1
  refine wpAny_call (PySem.HandSPX.sd_call F.excBase_ValueError (fun Y => PySem.HandSPX.refsVE_contains Y bm hbm) (I1.kIn _ _ hC) (PySem.W.looks_findIn I1.kIn iC) (fun self => PySem.W.bind_fn I1.kIn self tI) (by rw [sizeLine_eq]; omega)
    (codeAny_mono (F1.run _ X.stack _ _ ⟨Value.ref (hp.objs.size + 1) :: us, []⟩ (Value.ref (hp.objs.size + 1) :: us) _ _ (fun _ _ _ => False) (hr.make C us []) (I2.env0.make C us []) b2 r2 hq) fun r s' hq' => ?_))
  cases r with
  | error er => exact hx pins σ _ _ er s' I2 hq'
  | ok fl =>
    cases fl with
    | ret u =>
      obtain ⟨v, H2, os2, bare2, un2, hok2, rv, ev, d, fs, ea, ed, hd1, q2⟩ := hq'
      subst ev
      obtain ⟨h2, g2, d2, t2, os'⟩ := s'
      obtain ⟨t0, G, J, kG, ge, hoe, na⟩ := mk_end0 (d2 := d2) (t2 := t2) I1 hsz kk un2 hok2 os2 bare2 ea ed hd1
      exact ⟨rv, hp.objs.size + 1, _, _, ⟨G, g2, d2, t2, os'⟩, _, .ref C, some d, rfl, J, kG, ge, hoe, ⟨rfl, rfl, fun vs hv => by cases hv; rfl⟩, rfl, rfl, na, rfl, bare2, raises_own T.exC T.tyC, q2⟩
    | next => exact False.elim hq'
    | brk => exact False.elim hq'
    | cont => exact False.elim hq'
end
end Sd

/-! ### repr of things, a dict of one text among them -/
namespace Sd
open PySem PySem.Spec PyProof.Rows L2
section
variable {X : Cx} {pins : List (Addr × Obj)} {σ : L2.St} {H : Hp} {s : Shared}
theorem one_reads (I : L2.Inv X pins σ H s) {a : Addr} {k : Str} {n : Int} (h : H a = some (.dK [(.inr k, .int n)])) : Reads s.heap (.ref a) (.dict [(.str k, .int n)]) (a :: [] ++ []) ∧ sysModules ∉ (a :: [] ++ [] : List Addr) := by
  obtain ⟨_, hsys, vs, kv, o, es, ep, e, ex, ed, lo, pr, _⟩ := (show ObjOk X.prog X.w H s.heap a (.dK [(.inr k, .int n)]) from I.hok a _ h)
  cases kv with
  | @cons _ b _ _ h1 r =>
    cases r
    obtain ⟨b1, b2⟩ := b
    obtain ⟨ek, t, ev⟩ := h1
    dsimp only at ek ev
    subst ek ev
    cases hl : es.toList with
    | nil =>
      rw [hl] at pr
      cases pr
    | cons en l =>
      rw [hl] at pr
      cases pr with
      | cons pk pv pr2 =>
        cases pr2
        obtain ⟨i, t2, e1, _⟩ | ⟨y, t2, e1, e2⟩ := keyIs_shape (k := .inr k) (v := en.key) pk
        · cases e1
        · cases e1
          refine ⟨.dict e ex.1 ed (as := []) (bs := []) ?_ ?_, ?_⟩
          · rw [hl]
            show ReadsAll s.heap [en.key] [.str k] ([] ++ [])
            rw [e2]
            exact .cons (.str k t2) .nil
          · rw [hl]
            show ReadsAll s.heap [en.val] [.int n] ([] ++ [])
            rw [pv]
            exact .cons (.int n t) .nil
          · intro z
            simp only [List.append_nil, List.mem_cons, List.not_mem_nil, or_false] at z
            rw [← z] at hsys
            exact absurd hsys (by decide)
end
/-- repr tells x as s -/
def Rep (H : Hp) (x : V) (u : Str) : Prop := (∃ d : PyData, Dq H x d ∧ d.showable = true ∧ d.depth ≤ 32 ∧ d.shown.length ≤ sizeLine ∧ u = d.shown) ∨
  ∃ (a : Addr) (k : Str) (n : Int), x = .ref a ∧ H a = some (.dK [(.inr k, .int n)]) ∧ (PyData.dict [(.str k, .int n)]).showable = true ∧ (PyData.dict [(.str k, .int n)]).depth ≤ 32 ∧ (PyData.dict [(.str k, .int n)]).shown.length ≤ sizeLine ∧ u = (PyData.dict [(.str k, .int n)]).shown
theorem Rep.up {H H' : Hp} {x : V} {u : Str} (h : Rep H x u) (s : Same H H') : Rep H' x u := by
  rcases h with ⟨d, hd, r⟩ | ⟨a, k, n, e, ha, r⟩
  · exact .inl ⟨d, hd.same s, r⟩
  · exact .inr ⟨a, k, n, e, s _ _ ha, r⟩
def rReprT : List V → Hp → VK → Prop := fun xs H Q => ∃ (x : V) (u : Str), xs = [x] ∧ Rep H x u ∧ Q (.str u) H
theorem reprT {X : Cx} (hA : X.A.guards = some []) {k : Nat} (hr : Room k X.A) : CallR X (.builtin "repr") rReprT := by
  intro pins s σ H xs us Q I r ⟨x, u, ex, h, q⟩
  subst ex
  rcases h with ⟨d, hd, h1, h2, h3, eu⟩ | ⟨a, k, n, ea, ha, h1, hdep, h3, eu⟩
  · subst eu
    exact reprQ hA hr pins s σ H _ us Q I r ⟨x, d, rfl, hd, h1, h2, h3, q⟩
  · subst ea eu
    cases r with
    | cons r1 r2 =>
      cases r2
      cases r1
      have hu := hr.units
      obtain ⟨rd, ns⟩ := one_reads I ha
      exact repr_of_reads' rd h1 (fun _ => ns) hA (by omega) (fun _ _ e => e) (fun h' u tk kp => ⟨.str _, H, I.kept (t' := tk) kp, ⟨u, rfl⟩, q⟩) h3
end Sd

/-! ### an error that is kept behind its clause -/
namespace Sd
open PySem PySem.Spec PyProof.Rows L2 L2N
/-- the error at a: its class, its dict -/
def KpO (cls : Value) (d : Option Addr) (a : Addr) : HO := .ext fun h => ∃ oe vs, h.get? a = some oe ∧ Zc cls d oe ∧ oe.data = .fields vs
section
variable {X : Cx} {pins : List (Addr × Obj)} {σ : L2.St} {H : Hp} {s : Shared} {a : Addr} {oe : Obj} {vs : Array Value} {cls : Value} {d : Option Addr}
theorem kpO_ok {P : Program} {w : World} {h : Heap} (ha : h.get? a = some oe) (hz : Zc cls d oe) (hd : oe.data = .fields vs) : ObjOk P w H h a (KpO cls d a) :=
  ⟨⟨oe, vs, ha, hz, hd⟩, ⟨oe, ha⟩, fun h1 h2 ⟨o, ws, e, z, q⟩ k => ⟨o, ws, k _ e, z, q⟩⟩
/-- an object that stands beside what is tracked is tracked from now on -/
theorem kept_err (I : L2.Inv X pins σ H s) (ha : s.heap.get? a = some oe) (hz : Zc cls d oe) (hd : oe.data = .fields vs) (na : H a = none) (nL : a ≠ X.env.locals)
    (n0 : ∀ o, X.s_0.heap.get? a = some o → a ∈ X.ex) (np : ∀ p ∈ X.pn ++ pins, p.1 ≠ a) : L2.Inv X pins σ (upd H a (KpO cls d a)) s := by
  have up : ∀ {b u}, H b = some u → upd H a (KpO cls d a) b = some u := fun {b u} e => by
    rw [upd_ne (ne_of_none e na)]
    exact e
  have un : ∀ {b}, b ≠ a → H b = none → upd H a (KpO cls d a) b = none := fun {b} hb e => by
    rw [upd_ne hb]
    exact e
  have nc : ∀ x c, X.env.cells.lookup x = some c → c ≠ a := fun x c e z => by
    obtain ⟨v, o, ho, hc⟩ := I.cell x c e
    rw [z, ha] at ho
    obtain rfl := Option.some.inj ho
    rw [hd] at hc
    cases hc
  have hb : Un X.fs X.ex X.H_0 (upd H a (KpO cls d a)) X.s_0.heap s.heap :=
    ⟨I.base.keep, I.base.slot, fun b o h1 h2 h3 => un (fun z => h3 (z ▸ n0 o (z ▸ h1))) (I.base.free b o h1 h2 h3), I.base.there, fun b xs e => up (I.base.tups b xs e), fun b o u e => up (I.base.frzs b o u e),
      fun b ps e => (I.base.tbls b ps e).imp fun _ e => up e⟩
  refine ⟨I.ok, I.os, I.bare, hb, I.loc, I.cell, un nL.symm I.free, fun x c e => un (nc x c e) (I.freeC x c e), fun p hp => ?_, fun b u e => ?_, I.len⟩
  · obtain ⟨h1, h2, h3⟩ := I.pin p hp
    exact ⟨h1, un (np p hp) h2, h3⟩
  · by_cases hb : b = a
    · rw [hb, upd_same] at e
      rw [← Option.some.inj e, hb]
      exact kpO_ok ha hz hd
    · rw [upd_ne hb] at e
      exact (I.hok b u e).stay (fun _ _ _ q => q) (fun _ q => up q) fun _ _ q => up q
end
/-- the ends of a clause, the error kept -/
def KpD (D : Ends) (i : Nat) (a : Addr) (cls : Value) (d : Option Addr) : Ends :=
  { nx := fun σ H => D.nx (σ.set i none) (upd H a (KpO cls d a)), rt := fun v H => D.rt v (upd H a (KpO cls d a)),
    bk := fun σ H => D.bk (σ.set i none) (upd H a (KpO cls d a)), ct := fun σ H => D.ct (σ.set i none) (upd H a (KpO cls d a)) }
def wKeep (K : PySem.W.Frag) (c : Value) (i : Nat) (ts : Addr → Value → Option Addr → TS) (Wo : WX) (D : Ends) : WX := fun cls d σ H =>
  ∃ b, PySem.W.exmOne K cls c = some b ∧ (b = true → ∀ a, H a = none → ts a cls d (KpD D i a cls d) (σ.set i (some (.ref a))) H) ∧ (b = false → Wo cls d σ H)
section
variable {X : Cx} {x n : Str} {c : Value} {i : Nat} {body suite : List Stmt} {b₀ : Stmt} {q1 q2 q3 : Pos} {tb : WX → TS} {ts : Addr → Value → Option Addr → TS} {Wo : WX}
/-- the clause's name goes, the error is kept -/
theorem keep_end {M : Model} {A : Around} {E : Value → Shared → Prop} {pins : List (Addr × Obj)} {σ σ' : L2.St} {H H' : Hp} {s sI : Shared} {a : Addr} {oe : Obj} {vs : Array Value} {cls : Value} {d : Option Addr} {pos : Pos} {Q : Shared → Prop} (ok : X.Ok)
    (J : L2.Inv X pins σ' H' sI) (hI : sI.heap.get? a = none) (I : L2.Inv (X.suite a ((a, oe) :: (X.pn ++ pins))) [] σ H s) (hz : Zc cls d oe) (hd : oe.data = .fields vs) (hN : X.N.Nodup) (hi : X.N[i]? = some n) (hl : X.env.kindOf n = some .local)
    (h : ∀ s', L2.Inv X pins (σ.set i none) (upd H a (KpO cls d a)) s' → Q s') : wpAny M A (do bindName X.env n .none; unbindBehindTheSuite X.env n pos) (fun _ s' => Q s') E s := by
  refine gone_ok (X := X.suite a ((a, oe) :: (X.pn ++ pins))) I hN hi hl fun s' I' => h s' ?_
  obtain ⟨e1, e2, e3, _⟩ := I'.pin (a, oe) (by
    rw [List.append_nil]
    exact List.mem_cons_self)
  refine kept_err (I'.unsuite ok) e1 hz hd e2 e3 (fun o e => Classical.byContradiction fun hx => ?_) (fun p hp z => ?_)
  · obtain ⟨o', e'⟩ := J.base.there a o e hx
    rw [hI] at e'
    cases e'
  · have e' := (J.pin p hp).1
    rw [z, hI] at e'
    cases e'
theorem ps_try_keep (hs : X.stack = X.env :: X.outer) (hf : X.env.frame = some X.env.locals) (hN : X.N.Nodup) (hi : X.N[i]? = some n) (hl : X.env.kindOf n = some .local) (hc : Names X x c) (tk : L2N.Takes X Wo)
    (hb : ∀ (W : WX) (l : List (Addr × Obj)) (xe : Value → Shared → Prop), L2N.Takes (X.tr l xe) W → PassesOwn (model X.prog X.w) X.A X.env xe → PSs (X.tr l xe) body (tb W))
    (hsu : ∀ (a : Addr) (oe : Obj) (cls : Value) (d : Option Addr) (l : List (Addr × Obj)), Zn cls d oe → (∃ vs, oe.data = .fields vs) → PSs (X.suite a ((a, oe) :: l)) (b₀ :: suite) (ts a cls d)) :
    PS X (.Try body [.ExceptHandler (some (.Name x q1)) (some n) (b₀ :: suite) q2] [] [] q3) (fun D σ H => tb (wKeep X.K c i ts Wo D) D σ H) := by
  refine ⟨fun pins s σ H D I0 h0 => ?_⟩
  have ok := I0.ok
  have fr : X.A.frames = some (X.env :: X.outer) := ok.frames.trans (congrArg some hs)
  have go : ∀ e s1, L2N.XE (X.tr (X.pn ++ pins) fun e s1 => wpAny (model X.prog X.w) X.A (noteFrame e X.env) (fun _ s2 => wpAny (model X.prog X.w) X.A (setFlight e none)
      (fun _ s3 => wpAny (model X.prog X.w) X.A (handleBy e X.env [.ExceptHandler (some (.Name x q1)) (some n) (b₀ :: suite) q2]) (SP X pins D) X.xe s3) X.xe s2) X.xe s1) (wKeep X.K c i ts Wo D) e s1 →
      wpAny (model X.prog X.w) X.A (noteFrame e X.env) (fun _ s2 => wpAny (model X.prog X.w) X.A (setFlight e none)
      (fun _ s3 => wpAny (model X.prog X.w) X.A (handleBy e X.env [.ExceptHandler (some (.Name x q1)) (some n) (b₀ :: suite) q2]) (SP X pins D) X.xe s3) X.xe s2) X.xe s1 := ?_
  · refine wpAny_Try_except ?_
    refine wpAny_mono ((hb (wKeep X.K c i ts Wo D) (X.pn ++ pins) _ go PassesOwn.looking).run [] s σ H D (I0.toTry _) h0) (fun f s1 r => ?_) fun e s1 r => r
    rcases f with _ | _ | _ | u
    · exact r.elim fun _ r => r.elim fun _ r => wpAny_execs_nil ⟨_, _, r.1.ofTry ok, r.2⟩
    · exact r.elim fun _ r => r.elim fun _ r => ⟨_, _, r.1.ofTry ok, r.2⟩
    · exact r.elim fun _ r => r.elim fun _ r => ⟨_, _, r.1.ofTry ok, r.2⟩
    · exact r.elim fun _ r => r.elim fun _ r => r.elim fun _ r => ⟨_, _, _, r.1.ofTry ok, r.2⟩
  · intro e s1 xx
    obtain ⟨a, B, sI, l, σ1, H1, cls, d, rfl, JT, nb, up, sky, na, os, ag, yes, hyes, yT, yF⟩ := xx
    have J : L2.Inv X pins σ1 H1 sI := JT.ofTry ok
    refine Sky.land Zn.steady fr hf (hs ▸ sky) fun g3 F3 u3 => ?_
    have land : ∀ {g : Heap}, HandSPX.FlyingZ B (X.env :: X.outer) a (Zn cls d) g → sI.heap.UpToSlots g → L2.Inv X pins σ1 H1 { s1 with heap := g } := fun F u => J.landed nb F.1 u os ag
    have J3 := land F3 (up.trans u3)
    obtain ⟨o3, w3, e3, z3, d3⟩ := F3.there
    -- the error is none of the frames, and not in the state ahead of it
    have nfr : a ∉ frs (X.env :: X.outer) := fun hm => by
      obtain ⟨_, o', eo, hnf⟩ := F3.2.2.1.mem hm
      rw [e3] at eo
      exact hnf w3 (Option.some.inj eo ▸ d3)
    have hI : sI.heap.get? a = none := by
      cases e : sI.heap.get? a with
      | none => rfl
      | some o =>
        have z := nb a o e (hs ▸ nfr)
        rw [F3.2.1] at z
        cases z
    have nL : a ≠ X.env.locals := fun z => nfr (List.mem_filterMap.mpr ⟨X.env, by simp, by rw [hf, z]⟩)
    have nF : a ∉ X.fs := fun hm => by
      obtain ⟨en, he, q⟩ := List.mem_filterMap.mp hm
      exact nfr (List.mem_filterMap.mpr ⟨en, by simp [he], q⟩)
    have S3 := J3.suite e3 d3 na nL nF
    have look : PySem.W.Looks (model X.prog X.w) g3 (typeOf (.ref a)) cls := fun A Q E s k q => wpAny_typeOf_ref (k _ _ e3) (by
      rw [z3.1]
      exact q)
    have asks := PySem.W.exm_one (M := model X.prog X.w) J3.kIn look hyes
    refine wpAny_handleBy_cons (codeAny_handlers_test ?_) (by intro q; cases q)
    have nm : ∀ {Q : Value → Shared → Prop} {E : Value → Shared → Prop}, Q c { s1 with heap := g3 } → wpAny (model X.prog X.w) (X.A.mark (some (.ref a))) (eval (.Name x q1) X.env) Q E { s1 with heap := g3 } := by
      intro Q E q
      obtain ⟨hg, hdb, hm⟩ := hc
      rcases hm with hm | ⟨hm, hv, hnn⟩
      · exact ld_glob (X := X.suite a ((a, o3) :: (X.pn ++ pins))) S3 hg hm q hdb
      · exact ld_blt (X := X.suite a ((a, o3) :: (X.pn ++ pins))) S3 hg hm hv q hnn hdb
    refine nm (asks.here ?_)
    cases yes with
    | true =>
      refine codeAny_handlers_suite_as (HandSPX.lands_againZ F3 fun g4 F4 u4 => ?_)
      obtain ⟨o4, w4, e4, z4, d4⟩ := F4.there
      have S4 := (land F4 ((up.trans u3).trans u4)).suite e4 d4 na nL nF
      refine store_ok (X := X.suite a ((a, o4) :: (X.pn ++ pins))) (v := .ref a) S4 hN hi (.inl hl) rfl (fun s5 S5 => ?_) (.inr hl)
      refine wpAny_mono ((hsu a o4 cls d (X.pn ++ pins) z4 ⟨_, d4⟩).run [] s5 _ H1 _ S5 (yT rfl a na)) (fun f s6 r => ?_) fun _ _ z => z.elim
      rcases f with _ | _ | _ | u
      · exact r.elim fun _ r => r.elim fun _ r => keep_end ok J hI r.1 z4.zc d4 hN hi hl fun s7 J7 => ⟨_, _, J7, r.2⟩
      · exact r.elim fun _ r => r.elim fun _ r => keep_end ok J hI r.1 z4.zc d4 hN hi hl fun s7 J7 => ⟨_, _, J7, r.2⟩
      · exact r.elim fun _ r => r.elim fun _ r => keep_end ok J hI r.1 z4.zc d4 hN hi hl fun s7 J7 => ⟨_, _, J7, r.2⟩
      · exact r.elim fun _ r => r.elim fun _ r => r.elim fun _ r => keep_end ok J hI r.1 z4.zc d4 hN hi hl fun s7 J7 => ⟨_, _, _, J7, r.2⟩
    | false =>
      show wpAny _ X.A (handleBy (.ref a) X.env []) _ _ _
      refine wpAny_handleBy_nil ?_
      have pass : wpAny (model X.prog X.w) X.A (setFlight (.ref a) X.env.frame) (fun _ s4 => wpAny (model X.prog X.w) X.A (throw (.ref a) : Sem Flow) (SP X pins D) X.xe s4) X.xe { s1 with heap := g3 } := by
        rw [hf]
        exact HandSPX.setFlight_upZ F3 fun g4 F4 u4 => wpAny_throw (tk _ _ ⟨a, B, sI, pins, σ1, H1, cls, d, rfl, J, nb, (up.trans u3).trans u4, .inr (.inr (hs.symm ▸ F4)), na, os, ag, yF rfl⟩)
      obtain ⟨_, _, _, o, w, T, oT, t', eo, _, dw, w1, _⟩ := F3
      unfold PySem.passOn
      refine wpAny_bind (wpAny_field eo dw w1 ?_)
      rw [if_neg (show ¬ ((Value.ref T == Value.none) = true) by simp)]
      first
        | exact wpAny_bind (wpAny_pure (wpAny_bind pass))
        | exact wpAny_bind pass
end
/-! ### a kept error, asked and read -/
/-- the error at a: its class and its fields -/
def KeptE (H : Hp) (a C : Addr) (fs : List (Str × V)) : Prop := (fs = [] ∧ H a = some (KpO (.ref C) none a)) ∨ ∃ d, H a = some (KpO (.ref C) (some d) a) ∧ H d = some (.xd fs)
theorem KeptE.up {H H' : Hp} {a C : Addr} {fs : List (Str × V)} (e : KeptE H a C fs) (s : Same H H') : KeptE H' a C fs := by
  rcases e with ⟨e0, e⟩ | ⟨dx, e, ed⟩
  · exact .inl ⟨e0, s _ _ e⟩
  · exact .inr ⟨dx, s _ _ e, s _ _ ed⟩
section
variable {X : Cx} {pins : List (Addr × Obj)} {σ : L2.St} {H : Hp} {s : Shared} {a C : Addr} {fs : List (Str × V)}
theorem kept_inst (I : L2.Inv X pins σ H s) (e : KeptE H a C fs) : ∃ oe od, PySem.W.InstAt s.heap a oe C od ∧ (∀ f v, fs.lookup f = some v → ∃ o u, od = some o ∧ PySem.W.lookIn f o = some (some u) ∧ RelV v u) := by
  rcases e with ⟨e0, e⟩ | ⟨d, e, ed⟩
  · obtain ⟨⟨oe, vs, hget, hz, hv⟩, _, _⟩ := I.hok a _ e
    obtain ⟨oc, od, oda, osl⟩ := oe
    obtain ⟨h1, h2⟩ := hz
    dsimp only at h1 h2 hv
    subst h1 h2 hv
    refine ⟨_, none, ⟨hget, rfl, rfl, trivial⟩, fun f v l => ?_⟩
    rw [e0] at l
    cases l
  · obtain ⟨⟨oe, vs, hget, hz, hv⟩, _, _⟩ := I.hok a _ e
    obtain ⟨oc, od, oda, osl⟩ := oe
    obtain ⟨h1, h2⟩ := hz
    dsimp only at h1 h2 hv
    subst h1 h2 hv
    have hx : ObjOk X.prog X.w H s.heap d (.xd fs) := I.hok d _ ed
    obtain ⟨mA, hns, hr⟩ := hx
    obtain ⟨o, ho, hl⟩ := lookIn_ns hns
    refine ⟨_, some o, ⟨hget, rfl, rfl, ho⟩, fun f v l => ?_⟩
    obtain ⟨u, hu, ru⟩ := RelO.some_of (v := v) (o := mA f) (by rw [← l]; exact hr f)
    exact ⟨o, u, rfl, by rw [hl, hu], ru⟩
theorem vals_refY : ∀ {l : List Addr} {us : List Value}, Vals (l.map V.ref) us → us = l.map Value.ref
  | [], _, .nil => rfl
  | a :: l, _, .cons (b := u) r h => by
    obtain rfl : u = Value.ref a := r
    rw [vals_refY h]
    rfl
/-- isinstance(e, c), isinstance(e, (c, ..)) -/
def rIsK (K : PySem.W.Frag) : List V → Hp → VK → Prop := fun xs H Q => ∃ (a D : Addr) (fs : List (Str × V)) (c : V) (b : Bool), xs = [.ref a, c] ∧ KeptE H a D fs ∧ ExcC K D ∧
  ((∃ cv, (∀ u, RelV c u → u = cv) ∧ PySem.W.kitOne K (.ref D) cv = some b) ∨ ∃ (t : Addr) (cs : List Addr), c = .ref t ∧ H t = some (.tup (cs.map V.ref)) ∧ PySem.W.kitAny K (.ref D) (cs.map Value.ref) = some b) ∧ Q (.bl b) H
theorem isKL {K : PySem.W.Frag} (hK : X.K = K) : CallR X (.builtin "isinstance") (rIsK K) := by
  subst hK
  intro pins s σ H xs us Q I r ⟨a, D, fs, c, b, exs, e, C, hor, q⟩
  subst exs
  cases r with
  | cons rx rr =>
    cases rr with
    | cons rt rr =>
      cases rr
      cases rx
      obtain ⟨oe, od, J, _⟩ := kept_inst I e
      obtain ⟨cd, hcd, _⟩ := PySem.W.any_some C.hd
      have Z := PySem.W.kitx_exc (x := a) (ox := oe) (od := od) (by rw [hcd]; rfl) C.hg C.hk C.hs C.ha C.hn C.ht C.hm
      rcases hor with ⟨cv, hcv, ek⟩ | ⟨t, cs, rfl, ht, ek⟩
      · have ec := hcv _ rt
        subst ec
        exact PySem.W.kia_one Z I.kIn J ek (fun z => nomatch z) fun tk => ⟨.bl b, H, I.kept (t' := tk) fun _ _ z => z, rfl, q⟩
      · cases rt
        obtain ⟨its, rv, ⟨o, ho, hc, n, hd⟩, _⟩ := I.tuple (SqT.of ht)
        have ei := vals_refY rv
        subst ei
        obtain ⟨oc, odd, oda, osl⟩ := o
        dsimp only at hc hd
        subst hc hd
        exact PySem.W.kia_tup Z I.kIn J ho ek (fun z => nomatch z) fun tk => ⟨.bl b, H, I.kept (t' := tk) fun _ _ z => z, rfl, q⟩
/-- e.f -/
def tKpF (K : PySem.W.Frag) (f : Str) (te : TE) : TE := fun σ H Q => te σ H fun x H1 => ∃ a D fs v, x = .ref a ∧ KeptE H1 a D fs ∧ XfC K D ∧ PySem.W.findIn K (.ref D) f = some none ∧ fs.lookup f = some v ∧ Q v H1
theorem kpFL {K : PySem.W.Frag} {e : Expr} {te : TE} {pos : Pos} {n : Str} (hK : X.K = K) (he : PE X e te) (hb : attributeBase e n X.env (eval e X.env) = eval e X.env := by rfl) : PE X (.Attribute e n pos) (tKpF K n te) := by
  subst hK
  refine ⟨fun pins s σ H Q I h => ?_⟩
  refine attr_of hb (thn (he.run pins s σ H _ I h) fun u s1 ⟨x, H1, I1, rx, a, D, fs, v, ex, ea, T, hno, l, q⟩ => ?_)
  subst ex
  obtain rfl : u = Value.ref a := rx
  obtain ⟨oe, od, J, look⟩ := kept_inst I1 ea
  obtain ⟨o, u, eo, hl, ru⟩ := look n v l
  subst eo
  exact HandSPX.exc_get I1.kIn J T.ga T.gg T.exC (PySem.W.findObj_own T.hdC hno rfl hl) (handed_of ru) ⟨v, H1, I1.tok _, ru, q⟩
end
/-- asked of several classes, by what each says -/
theorem any_of {K : PySem.W.Frag} {t : Value} : ∀ (cs : List Addr) (bs : List Bool), cs.map (fun c => PySem.W.kitOne K t (.ref c)) = bs.map some → PySem.W.kitAny K t (cs.map Value.ref) = some (bs.any id)
  | [], [], _ => rfl
  | c :: cs, b :: bs, h => by
    injection h with h1 h2
    have h3 : PySem.W.kitOne K t (.ref c) = some b := h1
    rw [List.map_cons]
    unfold PySem.W.kitAny
    rw [h3]
    cases b with
    | true => rfl
    | false => exact any_of cs bs h2
  | [], _ :: _, h => nomatch h
  | _ :: _, [], h => nomatch h
/-! ### raised with any text -/
theorem type_exc {K : PySem.W.Frag} {C : Addr} {bmB : List Value} {newId : String} (q : PySem.W.excIn K C bmB newId = true) : PySem.W.typeIn K (.ref C) = some (.type "type") := by
  unfold PySem.W.excIn at q
  unfold PySem.W.typeIn
  split at q
  · rename_i h
    first
      | (rw [h]; rfl)
      | (simp only [h]; rfl)
  · cases q
theorem raises_exc {X : Cx} {C : Addr} {bmB : List Value} {newId : String} (E : ErrC X.K C) (q : PySem.W.excIn X.K C bmB newId = true) : Raises X (.ref C) := raises_own E.exc.hs (type_exc q)
section
variable {X : Cx} {C : Addr} {bmB : List Value} {B newId initId : String} {x : Str} {e : Expr} {ta : TE} {p pos : Pos}
/-- C(e), no own __init__ -/
theorem pmk_any (F : ExcBaseFacts B newId initId bmB) (q : PySem.W.excIn X.K C bmB newId = true) (E : ErrC X.K C) (gC : X.mg x = some (.ref C)) (hg : Gl X x) (he : PE X e ta)
    (hdb : (x == ("__debug__" : Str)) = false := by decide) (h1 : starEach [e] X.env = (false, eval e X.env) :: starEach [] X.env := by rfl) : L2N.PMk X (.Call (.Name x p) [e] [] pos) (fun σ H Q => ta σ H fun _ H1 => Q (.ref C) none H1) := by
  intro pins s σ H Q I h
  refine wpAny_Call_Name_kw (ld_glob I hg gC ?_ hdb)
  refine PySem.W.callWith_K (h₀ := X.base) I.ok.mod.kin E.kp (PyProof.Rows.args_cons (thn (he.run pins s σ H _ I h) fun u s1 ⟨v, H1, I1, rv, q1⟩ => PyProof.Rows.args_nil ⟨I1.kIn, ?_⟩) h1) h1 (by rfl)
  show wpAny _ _ (call (.ref C) [u]) _ _ _
  obtain ⟨bm, N, nm, qn, bs, hdct, sn, sub, ab, col, dd, k0, k1, k2, k3, k5, mN, hC, hN, hni, T⟩ := exc_obj I1.kIn q
  exact wpAny_call_exc_subT F T hC hN hni (fun h' a hm => L2N.mk_of I1 hm (raises_exc E q) q1 (I1.hok.gone hm.new)) (by
    show 1 ≤ sizeLine
    decide)
end
/-- x in a list or tuple of flat items -/
theorem inSL {X : Cx} {K : PySem.W.Frag} (hK : X.K = K) : OpR X (compareOp .In) (rIn K false) := hK ▸ op_in_seq
/-! ### methods and makers that raise into a try -/
section
variable {X : Cx} {CX : CXT} {k : Nat} {f C : Addr} {fd : FuncData} {ps : List Str} {sp : Sp} {E : L2.St → XK} {x m : Str} {p pos apos : Pos} {e o : Expr} {es : List Expr} {ta : TE} {t : TA}
def tMethS (C : Addr) (m : Str) (sp : Sp) (E : L2.St → XK) (ta : TE) (t : TA) : TE := fun σ H Q => ta σ H fun z H1 => ∃ a dx fs, z = .ref a ∧ H1 a = some (.ins C dx fs) ∧ fs.lookup m = none ∧ t σ H1 fun vs H2 => sp (z :: vs) H2 Q (E σ)
theorem pe_methS {pl : Sem Bool} (he : PE X o ta) (c : Cls X.K C) (hm : Meth X.K C m f) (F : FnOk X.prog X.w X.K X.mg X.base CX k f fd ps sp) (hr : Room k X.A) (hb : Binds X.K fd ps []) (hx : ∀ σ, PassesAt CX X σ (E σ)) (ha : PA X (e :: es) t)
    (h1 : starEach (e :: es) X.env = (false, eval e X.env) :: starEach es X.env := by rfl) (h2 : (backTo pos (starEach es X.env)).any (·.1) = false := by rfl)
    (h3 : eval (.Call (.Attribute o m apos) (e :: es) [] pos) X.env = (eval o X.env >>= fun ov => do
      standAt apos.atName
      let r ← holding [ov] (getMethod ov m pl)
      callWith pos r.1 r.2 (backTo pos (starEach (e :: es) X.env)) (backToKw pos (keywordEach [] X.env))) := by rfl) : PE X (.Call (.Attribute o m apos) (e :: es) [] pos) (tMethS C m sp E ta t) := by
  refine ⟨fun pins s σ H Q I h => PySem.W.methodCall_KW (pl := pl) (thn (he.run pins s σ H _ I h) fun u s1 ⟨z, H1, I1, rz, a, dx, fs, ez, ea, l, q⟩ => ?_) h3⟩
  subst ez
  obtain rfl : u = Value.ref a := rz
  exact getmeth_ok I1 ea c hm l (PySem.W.callWith_K (first := [.ref a]) (h₀ := X.base) I.ok.mod.kin hm.kp (thn (ha.run pos pins s1 σ H1 _ I1 q) fun us s2 ⟨vs, H2, I2, r, q2⟩ =>
    ⟨I2.kIn, run_fnS (us := .ref a :: us) (vs := .ref a :: vs) F hr hb (hx σ) I2 (.cons rfl r) q2⟩) h1 h2)
theorem pe_methS0 {pl : Sem Bool} (he : PE X o ta) (c : Cls X.K C) (hm : Meth X.K C m f) (F : FnOk X.prog X.w X.K X.mg X.base CX k f fd ps sp) (hr : Room k X.A) (hb : Binds X.K fd ps []) (hx : ∀ σ, PassesAt CX X σ (E σ))
    (h3 : eval (.Call (.Attribute o m apos) [] [] pos) X.env = (eval o X.env >>= fun ov => do
      standAt apos.atName
      let r ← holding [ov] (getMethod ov m pl)
      callWith pos r.1 r.2 (backTo pos (starEach [] X.env)) (backToKw pos (keywordEach [] X.env))) := by rfl) : PE X (.Call (.Attribute o m apos) [] [] pos) (tMethS C m sp E ta tNil) := by
  refine ⟨fun pins s σ H Q I h => PySem.W.methodCall_KW (pl := pl) (thn (he.run pins s σ H _ I h) fun u s1 ⟨z, H1, I1, rz, a, dx, fs, ez, ea, l, q⟩ => ?_) h3⟩
  subst ez
  obtain rfl : u = Value.ref a := rz
  exact getmeth_ok I1 ea c hm l (PySem.W.callWith_K0 (first := [.ref a]) I1.kIn hm.kp (run_fnS (us := [.ref a]) (vs := [.ref a]) F hr hb (hx σ) I1 (.cons rfl .nil) q))
def tMakeS (C : Addr) (sp : Sp) (E : L2.St → XK) (t : TA) : TE := fun σ H Q => t σ H fun vs H1 => ∀ z dx, H1 z = none → H1 dx = none → dx ≠ z → sp (.ref z :: vs) (upd (upd H1 dx (.own z)) z (.ins C dx [])) (fun v H2 => v = .non ∧ Q (.ref z) H2) (E σ)
theorem pe_makeS (M : Mk X.K C f) (F : FnOk X.prog X.w X.K X.mg X.base CX k f fd ps sp) (hr : Room (k + 1) X.A) (hg : Gl X x) (hm : X.mg x = some (.ref C)) (hb : Binds X.K fd ps []) (hx : ∀ σ, PassesAt CX X σ (E σ)) (ha : PA X (e :: es) t)
    (hdb : (x == ("__debug__" : Str)) = false := by decide) (h1 : starEach (e :: es) X.env = (false, eval e X.env) :: starEach es X.env := by rfl) (h2 : (backTo pos (starEach es X.env)).any (·.1) = false := by rfl) :
    PE X (.Call (.Name x p) (e :: es) [] pos) (tMakeS C sp E t) := by
  refine ⟨fun pins s σ H Q I0 h0 => wpAny_Call_Name_kw (ld_glob I0 hg hm (PySem.W.callWith_K (h₀ := X.base) I0.ok.mod.kin M.kp (thn (ha.run pos pins s σ H _ I0 h0) fun us s1 ⟨vs, H1, I, r, q⟩ => ⟨I.kIn, ?_⟩) h1 h2) hdb)⟩
  have J := L2.Inv.made (C := C) I
  have q1 := q (s1.heap.objs.size + 1) s1.heap.objs.size (I.hok.fresh (Nat.le_succ _)) (I.hok.fresh (Nat.le_refl _)) (Nat.ne_of_lt (Nat.lt_succ_self _))
  have rr : Vals (V.ref (s1.heap.objs.size + 1) :: vs) (Value.ref (s1.heap.objs.size + 1) :: us) := .cons rfl r
  have hl : (Value.ref (s1.heap.objs.size + 1) :: us).length = ps.length := rr.length.symm.trans (F.len _ _ _ _ q1)
  have b := hb _ (Value.ref (s1.heap.objs.size + 1) :: us) J.kIn (by rw [List.append_nil]; exact hl)
  rw [List.append_nil] at b
  refine wpAny_call (make_map (f := f) I.kIn M.makes M.init (beq_iff_eq.mp M.fn) (codeAny_mono (F.run _ X.stack _ _ ⟨_ :: us, []⟩ _ _ _ (E σ) (hr.make C us []) (J.env0.make C us []) b rr q1) fun res s' w => ?_))
  rcases res with er | (_ | _ | _ | u)
  · exact hx σ pins _ _ er s' J w
  · exact False.elim w
  · exact False.elim w
  · exact False.elim w
  · obtain ⟨v, H', J', rv, ev, q3⟩ := J.after w
    subst ev
    exact ⟨rv, V.ref (s1.heap.objs.size + 1), H', J', rfl, q3⟩
end
end Sd

namespace Sd
open PySem PySem.Spec PyProof.Rows L2
def topS (i : Nat) : Stmt := PySem.Challenge.pw_slitdiscs_k46_errors_of_live_discs.main.body.getD i (.Pass ⟨0, 0, 0, 0⟩)
abbrev s_turned_list : Stmt := topS 1
theorem sc_turned_list : FnScope ["items", "turn", "size", "slot"] ["items", "turn"] (defScope s_turned_list) := ⟨rfl, rfl, rfl, by decide +kernel, rfl, by decide +kernel, by decide +kernel⟩
abbrev s_mirrored_list : Stmt := topS 2
theorem sc_mirrored_list : FnScope ["items", "size", "slot"] ["items"] (defScope s_mirrored_list) := ⟨rfl, rfl, rfl, by decide +kernel, rfl, by decide +kernel, by decide +kernel⟩
abbrev s_light_between : Stmt := topS 3
theorem sc_light_between : FnScope ["disc", "row", "turn", "under", "over"] ["disc", "row", "turn"] (defScope s_light_between) := ⟨rfl, rfl, rfl, by decide +kernel, rfl, by decide +kernel, by decide +kernel⟩
abbrev s_is_integer : Stmt := topS 20
theorem sc_is_integer : FnScope ["value"] ["value"] (defScope s_is_integer) := ⟨rfl, rfl, rfl, by decide +kernel, rfl, by decide +kernel, by decide +kernel⟩
abbrev s_has_slots : Stmt := topS 21
theorem sc_has_slots : FnScope ["value"] ["value"] (defScope s_has_slots) := ⟨rfl, rfl, rfl, by decide +kernel, rfl, by decide +kernel, by decide +kernel⟩
abbrev s_wrong_light : Stmt := topS 22
theorem sc_wrong_light : FnScope ["items", "most", "index", "item"] ["items", "most"] (defScope s_wrong_light) := ⟨rfl, rfl, rfl, by decide +kernel, rfl, by decide +kernel, by decide +kernel⟩
abbrev s_wrong_slot : Stmt := topS 23
theorem sc_wrong_slot : FnScope ["items"] ["items"] (defScope s_wrong_slot) := ⟨rfl, rfl, rfl, by decide +kernel, rfl, by decide +kernel, by decide +kernel⟩
abbrev s_check_disc : Stmt := topS 24
theorem sc_check_disc : FnScope ["disc", "index"] ["disc"] (defScope s_check_disc) := ⟨rfl, rfl, rfl, by decide +kernel, rfl, by decide +kernel, by decide +kernel⟩
abbrev s_check_discs : Stmt := topS 25
theorem sc_check_discs : FnScope ["disc", "other"] ["disc", "other"] (defScope s_check_discs) := ⟨rfl, rfl, rfl, by decide +kernel, rfl, by decide +kernel, by decide +kernel⟩
abbrev s_check_turn : Stmt := topS 26
theorem sc_check_turn : FnScope ["turn"] ["turn"] (defScope s_check_turn) := ⟨rfl, rfl, rfl, by decide +kernel, rfl, by decide +kernel, by decide +kernel⟩
abbrev s_check_slot : Stmt := topS 27
theorem sc_check_slot : FnScope ["slot", "slots"] ["slot", "slots"] (defScope s_check_slot) := ⟨rfl, rfl, rfl, by decide +kernel, rfl, by decide +kernel, by decide +kernel⟩
abbrev s_check_between : Stmt := topS 28
theorem sc_check_between : FnScope ["number", "least", "most"] ["number", "least", "most"] (defScope s_check_between) := ⟨rfl, rfl, rfl, by decide +kernel, rfl, by decide +kernel, by decide +kernel⟩
abbrev s_law_stock : Stmt := topS 32
theorem sc_law_stock : FnScope ["script", "digits", "mixed", "cell", "grown"] ["script"] (defScope s_law_stock) := ⟨rfl, rfl, rfl, by decide +kernel, rfl, by decide +kernel, by decide +kernel⟩
abbrev s_law_draw : Stmt := topS 33
theorem sc_law_draw : FnScope ["stock", "wide", "found", "grown"] ["stock", "wide"] (defScope s_law_draw) := ⟨rfl, rfl, rfl, by decide +kernel, rfl, by decide +kernel, by decide +kernel⟩
abbrev s_law_size : Stmt := topS 34
theorem sc_law_size : FnScope ["stock", "bound", "some", "one"] ["stock", "bound"] (defScope s_law_size) := ⟨rfl, rfl, rfl, by decide +kernel, rfl, by decide +kernel, by decide +kernel⟩
abbrev s_law_slots : Stmt := topS 35
theorem sc_law_slots : FnScope ["stock", "size", "far", "way_here", "found", "slot"] ["stock", "size", "far"] (defScope s_law_slots) := ⟨rfl, rfl, rfl, by decide +kernel, rfl, by decide +kernel, by decide +kernel⟩
abbrev s_law_seen : Stmt := topS 36
theorem sc_law_seen : FnScope ["rows", "others", "spin", "size", "slot"] ["rows", "others", "spin"] (defScope s_law_seen) := ⟨rfl, rfl, rfl, by decide +kernel, rfl, by decide +kernel, by decide +kernel⟩
abbrev s_law_after : Stmt := topS 37
theorem sc_law_after : FnScope ["now", "call", "others", "spin", "slot"] ["now", "call"] (defScope s_law_after) := ⟨rfl, rfl, rfl, by decide +kernel, rfl, by decide +kernel, by decide +kernel⟩
abbrev s_law_now : Stmt := topS 38
theorem sc_law_now : FnScope ["begin", "done"] ["begin", "done"] (defScope s_law_now) := ⟨rfl, rfl, rfl, by decide +kernel, rfl, by decide +kernel, by decide +kernel⟩
abbrev s_law_due : Stmt := topS 39
theorem sc_law_due : FnScope ["rows", "begin", "done", "others", "spin", "shine", "row"] ["rows", "begin", "done"] (defScope s_law_due) := ⟨rfl, rfl, rfl, by decide +kernel, rfl, by decide +kernel, by decide +kernel⟩
abbrev s_law_told : Stmt := topS 40
theorem sc_law_told : FnScope ["one_here"] ["one_here"] (defScope s_law_told) := ⟨rfl, rfl, rfl, by decide +kernel, rfl, by decide +kernel, by decide +kernel⟩
abbrev s_law_call : Stmt := topS 41
theorem sc_law_call : FnScope ["one_here", "call"] ["one_here", "call"] (defScope s_law_call) := ⟨rfl, rfl, rfl, by decide +kernel, rfl, by decide +kernel, by decide +kernel⟩
abbrev s_law_next : Stmt := topS 42
theorem sc_law_next : FnScope ["stock", "now", "far", "door", "size", "call", "spin", "shine"] ["stock", "now", "far"] (defScope s_law_next) := ⟨rfl, rfl, rfl, by decide +kernel, rfl, by decide +kernel, by decide +kernel⟩
abbrev s_law_fault : Stmt := topS 43
theorem sc_law_fault : FnScope ["error", "rows", "words", "word", "is_one", "odd"] ["error"] (defScope s_law_fault) := ⟨rfl, rfl, rfl, by decide +kernel, rfl, by decide +kernel, by decide +kernel⟩
abbrev s_law_raised : Stmt := topS 44
theorem sc_law_raised : FnScope ["door", "one_here", "row", "kept", "caught", "error", "told"] ["door", "one_here", "row"] (defScope s_law_raised) := ⟨rfl, rfl, rfl, by decide +kernel, rfl, by decide +kernel, by decide +kernel⟩
abbrev s_law_bad_discs : Stmt := topS 45
theorem sc_law_bad_discs : FnScope ["bound", "found", "bad", "odd"] ["bound"] (defScope s_law_bad_discs) := ⟨rfl, rfl, rfl, by decide +kernel, rfl, by decide +kernel, by decide +kernel⟩
abbrev s_law_refused_right : Stmt := topS 46
theorem sc_law_refused_right : FnScope ["one_here", "size", "kept", "twin", "others", "bad", "told", "slot"] ["one_here", "size"] (defScope s_law_refused_right) := ⟨rfl, rfl, rfl, by decide +kernel, rfl, by decide +kernel, by decide +kernel⟩
abbrev s_law_right : Stmt := topS 47
theorem sc_law_right : FnScope ["stock", "size", "often", "rows", "others", "one_here", "begin", "done", "turn", "due", "told"] ["stock", "size", "often"] (defScope s_law_right) := ⟨rfl, rfl, rfl, by decide +kernel, rfl, by decide +kernel, by decide +kernel⟩
abbrev s_law_made_right : Stmt := topS 48
theorem sc_law_made_right : FnScope ["rows", "others", "bad", "fault", "told", "more", "one"] ["rows", "others"] (defScope s_law_made_right) := ⟨rfl, rfl, rfl, by decide +kernel, rfl, by decide +kernel, by decide +kernel⟩
abbrev s_law : Stmt := topS 49
theorem sc_law : FnScope ["script", "stock", "turn", "size", "one_here", "told"] ["script"] (defScope s_law) := ⟨rfl, rfl, rfl, by decide +kernel, rfl, by decide +kernel, by decide +kernel⟩
abbrev s_InvalidDisc_init : Stmt := inClass (topS 12) 0
theorem sc_InvalidDisc_init : FnScope ["self", "index"] ["self", "index"] (defScope s_InvalidDisc_init) := ⟨rfl, rfl, rfl, by decide +kernel, rfl, by decide +kernel, by decide +kernel⟩
abbrev s_InvalidRow_init : Stmt := inClass (topS 13) 0
theorem sc_InvalidRow_init : FnScope ["self", "index"] ["self", "index"] (defScope s_InvalidRow_init) := ⟨rfl, rfl, rfl, by decide +kernel, rfl, by decide +kernel, by decide +kernel⟩
abbrev s_InvalidLights_init : Stmt := inClass (topS 14) 0
theorem sc_InvalidLights_init : FnScope ["self", "index"] ["self", "index"] (defScope s_InvalidLights_init) := ⟨rfl, rfl, rfl, by decide +kernel, rfl, by decide +kernel, by decide +kernel⟩
abbrev s_InvalidLooks_init : Stmt := inClass (topS 15) 0
theorem sc_InvalidLooks_init : FnScope ["self", "index"] ["self", "index"] (defScope s_InvalidLooks_init) := ⟨rfl, rfl, rfl, by decide +kernel, rfl, by decide +kernel, by decide +kernel⟩
abbrev s_InvalidSyntax_init : Stmt := inClass (topS 16) 0
theorem sc_InvalidSyntax_init : FnScope ["self", "word"] ["self", "word"] (defScope s_InvalidSyntax_init) := ⟨rfl, rfl, rfl, by decide +kernel, rfl, by decide +kernel, by decide +kernel⟩
abbrev s_LiveDiscs_init : Stmt := inClass (topS 30) 0
theorem sc_LiveDiscs_init : FnScope ["self", "disc", "other"] ["self", "disc", "other"] (defScope s_LiveDiscs_init) := ⟨rfl, rfl, rfl, by decide +kernel, rfl, by decide +kernel, by decide +kernel⟩
abbrev s_LiveDiscs_disc : Stmt := inClass (topS 30) 1
theorem sc_LiveDiscs_disc : FnScope ["self"] ["self"] (defScope s_LiveDiscs_disc) := ⟨rfl, rfl, rfl, by decide +kernel, rfl, by decide +kernel, by decide +kernel⟩
abbrev s_LiveDiscs_other : Stmt := inClass (topS 30) 2
theorem sc_LiveDiscs_other : FnScope ["self"] ["self"] (defScope s_LiveDiscs_other) := ⟨rfl, rfl, rfl, by decide +kernel, rfl, by decide +kernel, by decide +kernel⟩
abbrev s_LiveDiscs_turn : Stmt := inClass (topS 30) 3
theorem sc_LiveDiscs_turn : FnScope ["self"] ["self"] (defScope s_LiveDiscs_turn) := ⟨rfl, rfl, rfl, by decide +kernel, rfl, by decide +kernel, by decide +kernel⟩
abbrev s_LiveDiscs_light : Stmt := inClass (topS 30) 4
theorem sc_LiveDiscs_light : FnScope ["self", "other", "turn"] ["self"] (defScope s_LiveDiscs_light) := ⟨rfl, rfl, rfl, by decide +kernel, rfl, by decide +kernel, by decide +kernel⟩
abbrev s_LiveDiscs_log : Stmt := inClass (topS 30) 5
theorem sc_LiveDiscs_log : FnScope ["self"] ["self"] (defScope s_LiveDiscs_log) := ⟨rfl, rfl, rfl, by decide +kernel, rfl, by decide +kernel, by decide +kernel⟩
abbrev s_LiveDiscs_len : Stmt := inClass (topS 30) 6
theorem sc_LiveDiscs_len : FnScope ["self"] ["self"] (defScope s_LiveDiscs_len) := ⟨rfl, rfl, rfl, by decide +kernel, rfl, by decide +kernel, by decide +kernel⟩
abbrev s_LiveDiscs_eq : Stmt := inClass (topS 30) 7
theorem sc_LiveDiscs_eq : FnScope ["self", "other"] ["self", "other"] (defScope s_LiveDiscs_eq) := ⟨rfl, rfl, rfl, by decide +kernel, rfl, by decide +kernel, by decide +kernel⟩
abbrev s_LiveDiscs_turn_by : Stmt := inClass (topS 30) 8
theorem sc_LiveDiscs_turn_by : FnScope ["self", "turn"] ["self", "turn"] (defScope s_LiveDiscs_turn_by) := ⟨rfl, rfl, rfl, by decide +kernel, rfl, by decide +kernel, by decide +kernel⟩
abbrev s_LiveDiscs_set_slot : Stmt := inClass (topS 30) 9
theorem sc_LiveDiscs_set_slot : FnScope ["self", "slot", "light", "other"] ["self", "slot", "light"] (defScope s_LiveDiscs_set_slot) := ⟨rfl, rfl, rfl, by decide +kernel, rfl, by decide +kernel, by decide +kernel⟩
abbrev s_LiveDiscs_mirror_other : Stmt := inClass (topS 30) 10
theorem sc_LiveDiscs_mirror_other : FnScope ["self"] ["self"] (defScope s_LiveDiscs_mirror_other) := ⟨rfl, rfl, rfl, by decide +kernel, rfl, by decide +kernel, by decide +kernel⟩
abbrev s_LiveDiscs_undo : Stmt := inClass (topS 30) 11
theorem sc_LiveDiscs_undo : FnScope ["self"] ["self"] (defScope s_LiveDiscs_undo) := ⟨rfl, rfl, rfl, by decide +kernel, rfl, by decide +kernel, by decide +kernel⟩
abbrev s_LiveDiscs_fork : Stmt := inClass (topS 30) 12
theorem sc_LiveDiscs_fork : FnScope ["self", "live"] ["self"] (defScope s_LiveDiscs_fork) := ⟨rfl, rfl, rfl, by decide +kernel, rfl, by decide +kernel, by decide +kernel⟩
abbrev s_LiveDiscs_go_on : Stmt := inClass (topS 30) 13
theorem sc_LiveDiscs_go_on : FnScope ["self", "call", "other", "turn"] ["self", "call", "other", "turn"] (defScope s_LiveDiscs_go_on) := ⟨rfl, rfl, rfl, by decide +kernel, rfl, by decide +kernel, by decide +kernel⟩
/-- what the top has written -/
structure Txt (K : PySem.W.Frag) (mg : Str → Option Value) where
  a_turned_list : Addr
  d_turned_list : FuncData
  F_turned_list : Fun K "turned_list" "turned_list" s_turned_list a_turned_list d_turned_list
  b_turned_list : Binds K d_turned_list ["items", "turn"] []
  g_turned_list : mg "turned_list" = some (.ref a_turned_list)
  a_mirrored_list : Addr
  d_mirrored_list : FuncData
  F_mirrored_list : Fun K "mirrored_list" "mirrored_list" s_mirrored_list a_mirrored_list d_mirrored_list
  b_mirrored_list : Binds K d_mirrored_list ["items"] []
  g_mirrored_list : mg "mirrored_list" = some (.ref a_mirrored_list)
  a_light_between : Addr
  d_light_between : FuncData
  F_light_between : Fun K "light_between" "light_between" s_light_between a_light_between d_light_between
  b_light_between : Binds K d_light_between ["disc", "row", "turn"] []
  g_light_between : mg "light_between" = some (.ref a_light_between)
  a_is_integer : Addr
  d_is_integer : FuncData
  F_is_integer : Fun K "is_integer" "is_integer" s_is_integer a_is_integer d_is_integer
  b_is_integer : Binds K d_is_integer ["value"] []
  g_is_integer : mg "is_integer" = some (.ref a_is_integer)
  a_has_slots : Addr
  d_has_slots : FuncData
  F_has_slots : Fun K "has_slots" "has_slots" s_has_slots a_has_slots d_has_slots
  b_has_slots : Binds K d_has_slots ["value"] []
  g_has_slots : mg "has_slots" = some (.ref a_has_slots)
  a_wrong_light : Addr
  d_wrong_light : FuncData
  F_wrong_light : Fun K "wrong_light" "wrong_light" s_wrong_light a_wrong_light d_wrong_light
  b_wrong_light : Binds K d_wrong_light ["items", "most"] []
  g_wrong_light : mg "wrong_light" = some (.ref a_wrong_light)
  a_wrong_slot : Addr
  d_wrong_slot : FuncData
  F_wrong_slot : Fun K "wrong_slot" "wrong_slot" s_wrong_slot a_wrong_slot d_wrong_slot
  b_wrong_slot : Binds K d_wrong_slot ["items"] []
  g_wrong_slot : mg "wrong_slot" = some (.ref a_wrong_slot)
  a_check_disc : Addr
  d_check_disc : FuncData
  F_check_disc : Fun K "check_disc" "check_disc" s_check_disc a_check_disc d_check_disc
  b_check_disc : Binds K d_check_disc ["disc"] []
  g_check_disc : mg "check_disc" = some (.ref a_check_disc)
  a_check_discs : Addr
  d_check_discs : FuncData
  F_check_discs : Fun K "check_discs" "check_discs" s_check_discs a_check_discs d_check_discs
  b_check_discs : Binds K d_check_discs ["disc", "other"] []
  g_check_discs : mg "check_discs" = some (.ref a_check_discs)
  a_check_turn : Addr
  d_check_turn : FuncData
  F_check_turn : Fun K "check_turn" "check_turn" s_check_turn a_check_turn d_check_turn
  b_check_turn : Binds K d_check_turn ["turn"] []
  g_check_turn : mg "check_turn" = some (.ref a_check_turn)
  a_check_slot : Addr
  d_check_slot : FuncData
  F_check_slot : Fun K "check_slot" "check_slot" s_check_slot a_check_slot d_check_slot
  b_check_slot : Binds K d_check_slot ["slot", "slots"] []
  g_check_slot : mg "check_slot" = some (.ref a_check_slot)
  a_check_between : Addr
  d_check_between : FuncData
  F_check_between : Fun K "check_between" "check_between" s_check_between a_check_between d_check_between
  b_check_between : Binds K d_check_between ["number", "least", "most"] []
  g_check_between : mg "check_between" = some (.ref a_check_between)
  a_law_stock : Addr
  d_law_stock : FuncData
  F_law_stock : Fun K "_law_stock" "_law_stock" s_law_stock a_law_stock d_law_stock
  b_law_stock : Binds K d_law_stock ["script"] []
  g_law_stock : mg "_law_stock" = some (.ref a_law_stock)
  a_law_draw : Addr
  d_law_draw : FuncData
  F_law_draw : Fun K "_law_draw" "_law_draw" s_law_draw a_law_draw d_law_draw
  b_law_draw : Binds K d_law_draw ["stock", "wide"] []
  g_law_draw : mg "_law_draw" = some (.ref a_law_draw)
  a_law_size : Addr
  d_law_size : FuncData
  F_law_size : Fun K "_law_size" "_law_size" s_law_size a_law_size d_law_size
  b_law_size : Binds K d_law_size ["stock", "bound"] []
  g_law_size : mg "_law_size" = some (.ref a_law_size)
  a_law_slots : Addr
  d_law_slots : FuncData
  F_law_slots : Fun K "_law_slots" "_law_slots" s_law_slots a_law_slots d_law_slots
  b_law_slots : Binds K d_law_slots ["stock", "size", "far"] []
  g_law_slots : mg "_law_slots" = some (.ref a_law_slots)
  a_law_seen : Addr
  d_law_seen : FuncData
  F_law_seen : Fun K "_law_seen" "_law_seen" s_law_seen a_law_seen d_law_seen
  b_law_seen : Binds K d_law_seen ["rows", "others", "spin"] []
  g_law_seen : mg "_law_seen" = some (.ref a_law_seen)
  a_law_after : Addr
  d_law_after : FuncData
  F_law_after : Fun K "_law_after" "_law_after" s_law_after a_law_after d_law_after
  b_law_after : Binds K d_law_after ["now", "call"] []
  g_law_after : mg "_law_after" = some (.ref a_law_after)
  a_law_now : Addr
  d_law_now : FuncData
  F_law_now : Fun K "_law_now" "_law_now" s_law_now a_law_now d_law_now
  b_law_now : Binds K d_law_now ["begin", "done"] []
  g_law_now : mg "_law_now" = some (.ref a_law_now)
  a_law_due : Addr
  d_law_due : FuncData
  F_law_due : Fun K "_law_due" "_law_due" s_law_due a_law_due d_law_due
  b_law_due : Binds K d_law_due ["rows", "begin", "done"] []
  g_law_due : mg "_law_due" = some (.ref a_law_due)
  a_law_told : Addr
  d_law_told : FuncData
  F_law_told : Fun K "_law_told" "_law_told" s_law_told a_law_told d_law_told
  b_law_told : Binds K d_law_told ["one_here"] []
  g_law_told : mg "_law_told" = some (.ref a_law_told)
  a_law_call : Addr
  d_law_call : FuncData
  F_law_call : Fun K "_law_call" "_law_call" s_law_call a_law_call d_law_call
  b_law_call : Binds K d_law_call ["one_here", "call"] []
  g_law_call : mg "_law_call" = some (.ref a_law_call)
  a_law_next : Addr
  d_law_next : FuncData
  F_law_next : Fun K "_law_next" "_law_next" s_law_next a_law_next d_law_next
  b_law_next : Binds K d_law_next ["stock", "now", "far"] []
  g_law_next : mg "_law_next" = some (.ref a_law_next)
  a_law_fault : Addr
  d_law_fault : FuncData
  F_law_fault : Fun K "_law_fault" "_law_fault" s_law_fault a_law_fault d_law_fault
  b_law_fault : Binds K d_law_fault ["error"] []
  g_law_fault : mg "_law_fault" = some (.ref a_law_fault)
  a_law_raised : Addr
  d_law_raised : FuncData
  F_law_raised : Fun K "_law_raised" "_law_raised" s_law_raised a_law_raised d_law_raised
  b_law_raised : Binds K d_law_raised ["door", "one_here", "row"] []
  g_law_raised : mg "_law_raised" = some (.ref a_law_raised)
  a_law_bad_discs : Addr
  d_law_bad_discs : FuncData
  F_law_bad_discs : Fun K "_law_bad_discs" "_law_bad_discs" s_law_bad_discs a_law_bad_discs d_law_bad_discs
  b_law_bad_discs : Binds K d_law_bad_discs ["bound"] []
  g_law_bad_discs : mg "_law_bad_discs" = some (.ref a_law_bad_discs)
  a_law_refused_right : Addr
  d_law_refused_right : FuncData
  F_law_refused_right : Fun K "_law_refused_right" "_law_refused_right" s_law_refused_right a_law_refused_right d_law_refused_right
  b_law_refused_right : Binds K d_law_refused_right ["one_here", "size"] []
  g_law_refused_right : mg "_law_refused_right" = some (.ref a_law_refused_right)
  a_law_right : Addr
  d_law_right : FuncData
  F_law_right : Fun K "_law_right" "_law_right" s_law_right a_law_right d_law_right
  b_law_right : Binds K d_law_right ["stock", "size", "often"] []
  g_law_right : mg "_law_right" = some (.ref a_law_right)
  a_law_made_right : Addr
  d_law_made_right : FuncData
  F_law_made_right : Fun K "_law_made_right" "_law_made_right" s_law_made_right a_law_made_right d_law_made_right
  b_law_made_right : Binds K d_law_made_right ["rows", "others"] []
  g_law_made_right : mg "_law_made_right" = some (.ref a_law_made_right)
  a_law : Addr
  d_law : FuncData
  F_law : Fun K "law" "law" s_law a_law d_law
  g_law : mg "law" = some (.ref a_law)
  a_InvalidDisc_init : Addr
  d_InvalidDisc_init : FuncData
  F_InvalidDisc_init : Fun K "__init__" "InvalidDisc.__init__" s_InvalidDisc_init a_InvalidDisc_init d_InvalidDisc_init
  b_InvalidDisc_init : Binds K d_InvalidDisc_init ["self", "index"] []
  a_InvalidRow_init : Addr
  d_InvalidRow_init : FuncData
  F_InvalidRow_init : Fun K "__init__" "InvalidRow.__init__" s_InvalidRow_init a_InvalidRow_init d_InvalidRow_init
  b_InvalidRow_init : Binds K d_InvalidRow_init ["self", "index"] []
  a_InvalidLights_init : Addr
  d_InvalidLights_init : FuncData
  F_InvalidLights_init : Fun K "__init__" "InvalidLights.__init__" s_InvalidLights_init a_InvalidLights_init d_InvalidLights_init
  b_InvalidLights_init : Binds K d_InvalidLights_init ["self", "index"] []
  a_InvalidLooks_init : Addr
  d_InvalidLooks_init : FuncData
  F_InvalidLooks_init : Fun K "__init__" "InvalidLooks.__init__" s_InvalidLooks_init a_InvalidLooks_init d_InvalidLooks_init
  b_InvalidLooks_init : Binds K d_InvalidLooks_init ["self", "index"] []
  a_InvalidSyntax_init : Addr
  d_InvalidSyntax_init : FuncData
  F_InvalidSyntax_init : Fun K "__init__" "InvalidSyntax.__init__" s_InvalidSyntax_init a_InvalidSyntax_init d_InvalidSyntax_init
  b_InvalidSyntax_init : Binds K d_InvalidSyntax_init ["self", "word"] []
  a_LiveDiscs_init : Addr
  d_LiveDiscs_init : FuncData
  F_LiveDiscs_init : Fun K "__init__" "LiveDiscs.__init__" s_LiveDiscs_init a_LiveDiscs_init d_LiveDiscs_init
  b_LiveDiscs_init : Binds K d_LiveDiscs_init ["self", "disc", "other"] []
  a_LiveDiscs_disc : Addr
  d_LiveDiscs_disc : FuncData
  F_LiveDiscs_disc : Fun K "disc" "LiveDiscs.disc" s_LiveDiscs_disc a_LiveDiscs_disc d_LiveDiscs_disc
  b_LiveDiscs_disc : Binds K d_LiveDiscs_disc ["self"] []
  a_LiveDiscs_other : Addr
  d_LiveDiscs_other : FuncData
  F_LiveDiscs_other : Fun K "other" "LiveDiscs.other" s_LiveDiscs_other a_LiveDiscs_other d_LiveDiscs_other
  b_LiveDiscs_other : Binds K d_LiveDiscs_other ["self"] []
  a_LiveDiscs_turn : Addr
  d_LiveDiscs_turn : FuncData
  F_LiveDiscs_turn : Fun K "turn" "LiveDiscs.turn" s_LiveDiscs_turn a_LiveDiscs_turn d_LiveDiscs_turn
  b_LiveDiscs_turn : Binds K d_LiveDiscs_turn ["self"] []
  a_LiveDiscs_light : Addr
  d_LiveDiscs_light : FuncData
  F_LiveDiscs_light : Fun K "light" "LiveDiscs.light" s_LiveDiscs_light a_LiveDiscs_light d_LiveDiscs_light
  b_LiveDiscs_light : Binds K d_LiveDiscs_light ["self"] []
  a_LiveDiscs_log : Addr
  d_LiveDiscs_log : FuncData
  F_LiveDiscs_log : Fun K "log" "LiveDiscs.log" s_LiveDiscs_log a_LiveDiscs_log d_LiveDiscs_log
  b_LiveDiscs_log : Binds K d_LiveDiscs_log ["self"] []
  a_LiveDiscs_len : Addr
  d_LiveDiscs_len : FuncData
  F_LiveDiscs_len : Fun K "__len__" "LiveDiscs.__len__" s_LiveDiscs_len a_LiveDiscs_len d_LiveDiscs_len
  b_LiveDiscs_len : Binds K d_LiveDiscs_len ["self"] []
  a_LiveDiscs_eq : Addr
  d_LiveDiscs_eq : FuncData
  F_LiveDiscs_eq : Fun K "__eq__" "LiveDiscs.__eq__" s_LiveDiscs_eq a_LiveDiscs_eq d_LiveDiscs_eq
  b_LiveDiscs_eq : Binds K d_LiveDiscs_eq ["self", "other"] []
  a_LiveDiscs_turn_by : Addr
  d_LiveDiscs_turn_by : FuncData
  F_LiveDiscs_turn_by : Fun K "turn_by" "LiveDiscs.turn_by" s_LiveDiscs_turn_by a_LiveDiscs_turn_by d_LiveDiscs_turn_by
  b_LiveDiscs_turn_by : Binds K d_LiveDiscs_turn_by ["self", "turn"] []
  a_LiveDiscs_set_slot : Addr
  d_LiveDiscs_set_slot : FuncData
  F_LiveDiscs_set_slot : Fun K "set_slot" "LiveDiscs.set_slot" s_LiveDiscs_set_slot a_LiveDiscs_set_slot d_LiveDiscs_set_slot
  b_LiveDiscs_set_slot : Binds K d_LiveDiscs_set_slot ["self", "slot", "light"] []
  a_LiveDiscs_mirror_other : Addr
  d_LiveDiscs_mirror_other : FuncData
  F_LiveDiscs_mirror_other : Fun K "mirror_other" "LiveDiscs.mirror_other" s_LiveDiscs_mirror_other a_LiveDiscs_mirror_other d_LiveDiscs_mirror_other
  b_LiveDiscs_mirror_other : Binds K d_LiveDiscs_mirror_other ["self"] []
  a_LiveDiscs_undo : Addr
  d_LiveDiscs_undo : FuncData
  F_LiveDiscs_undo : Fun K "undo" "LiveDiscs.undo" s_LiveDiscs_undo a_LiveDiscs_undo d_LiveDiscs_undo
  b_LiveDiscs_undo : Binds K d_LiveDiscs_undo ["self"] []
  a_LiveDiscs_fork : Addr
  d_LiveDiscs_fork : FuncData
  F_LiveDiscs_fork : Fun K "fork" "LiveDiscs.fork" s_LiveDiscs_fork a_LiveDiscs_fork d_LiveDiscs_fork
  b_LiveDiscs_fork : Binds K d_LiveDiscs_fork ["self"] []
  a_LiveDiscs_go_on : Addr
  d_LiveDiscs_go_on : FuncData
  F_LiveDiscs_go_on : Fun K "_go_on" "LiveDiscs._go_on" s_LiveDiscs_go_on a_LiveDiscs_go_on d_LiveDiscs_go_on
  b_LiveDiscs_go_on : Binds K d_LiveDiscs_go_on ["self", "call", "other", "turn"] []
  C_LiveDiscs : Addr
  g_LiveDiscs : mg "LiveDiscs" = some (.ref C_LiveDiscs)
  cl_LiveDiscs : Cls K C_LiveDiscs
  mk_LiveDiscs : Mk K C_LiveDiscs a_LiveDiscs_init
  x_LiveDiscs_disc : NoAttr K C_LiveDiscs "_disc"
  x_LiveDiscs_states : NoAttr K C_LiveDiscs "_states"
  x_LiveDiscs_log : NoAttr K C_LiveDiscs "_log"
  P_LiveDiscs_disc : Addr
  p_LiveDiscs_disc : PropOf K C_LiveDiscs "disc" P_LiveDiscs_disc a_LiveDiscs_disc
  P_LiveDiscs_other : Addr
  p_LiveDiscs_other : PropOf K C_LiveDiscs "other" P_LiveDiscs_other a_LiveDiscs_other
  P_LiveDiscs_turn : Addr
  p_LiveDiscs_turn : PropOf K C_LiveDiscs "turn" P_LiveDiscs_turn a_LiveDiscs_turn
  P_LiveDiscs_light : Addr
  p_LiveDiscs_light : PropOf K C_LiveDiscs "light" P_LiveDiscs_light a_LiveDiscs_light
  P_LiveDiscs_log : Addr
  p_LiveDiscs_log : PropOf K C_LiveDiscs "log" P_LiveDiscs_log a_LiveDiscs_log
  m_LiveDiscs_len : Meth K C_LiveDiscs "__len__" a_LiveDiscs_len
  m_LiveDiscs_eq : Meth K C_LiveDiscs "__eq__" a_LiveDiscs_eq
  m_LiveDiscs_turn_by : Meth K C_LiveDiscs "turn_by" a_LiveDiscs_turn_by
  m_LiveDiscs_set_slot : Meth K C_LiveDiscs "set_slot" a_LiveDiscs_set_slot
  m_LiveDiscs_mirror_other : Meth K C_LiveDiscs "mirror_other" a_LiveDiscs_mirror_other
  m_LiveDiscs_undo : Meth K C_LiveDiscs "undo" a_LiveDiscs_undo
  m_LiveDiscs_fork : Meth K C_LiveDiscs "fork" a_LiveDiscs_fork
  m_LiveDiscs_go_on : Meth K C_LiveDiscs "_go_on" a_LiveDiscs_go_on
  ne_LiveDiscs : PySem.W.findIn K (.ref C_LiveDiscs) "__ne__" = some (some (.builtin "object.__ne__"))
  ob_LiveDiscs : PySem.W.mroIn K C_LiveDiscs (.type "object") = some true
  ha_LiveDiscs : PySem.W.findIn K (.ref C_LiveDiscs) "__class__" = some (some (.builtin "object.__class__"))
  hn_LiveDiscs : PySem.W.specialIn K (.builtin "object.__class__") "__get__" = some (some (.builtin "getset_descriptor.__get__"))
  ht_LiveDiscs : PySem.W.takesIn K (.builtin "object.__class__") = some true
  ki_LiveDiscs : PySem.W.kitOne K (.ref C_LiveDiscs) (.ref C_LiveDiscs) = some true
  C_DiscError : Addr
  g_DiscError : mg "DiscError" = some (.ref C_DiscError)
  ec_DiscError : ErrC K C_DiscError
  x_DiscError : PySem.W.excIn K C_DiscError [.type "ValueError", .type "Exception", .type "BaseException", .type "object"] "ValueError.__new__" = true
  C_InvalidNumber : Addr
  g_InvalidNumber : mg "InvalidNumber" = some (.ref C_InvalidNumber)
  ec_InvalidNumber : ErrC K C_InvalidNumber
  x_InvalidNumber : PySem.W.excIn K C_InvalidNumber [.type "ValueError", .type "Exception", .type "BaseException", .type "object"] "ValueError.__new__" = true
  C_InvalidTurn : Addr
  g_InvalidTurn : mg "InvalidTurn" = some (.ref C_InvalidTurn)
  ec_InvalidTurn : ErrC K C_InvalidTurn
  x_InvalidTurn : PySem.W.excIn K C_InvalidTurn [.type "ValueError", .type "Exception", .type "BaseException", .type "object"] "ValueError.__new__" = true
  C_InvalidSlot : Addr
  g_InvalidSlot : mg "InvalidSlot" = some (.ref C_InvalidSlot)
  ec_InvalidSlot : ErrC K C_InvalidSlot
  x_InvalidSlot : PySem.W.excIn K C_InvalidSlot [.type "ValueError", .type "Exception", .type "BaseException", .type "object"] "ValueError.__new__" = true
  C_Impossible : Addr
  g_Impossible : mg "Impossible" = some (.ref C_Impossible)
  ec_Impossible : ErrC K C_Impossible
  x_Impossible : PySem.W.excIn K C_Impossible [.type "ValueError", .type "Exception", .type "BaseException", .type "object"] "ValueError.__new__" = true
  C_NothingToUndo : Addr
  g_NothingToUndo : mg "NothingToUndo" = some (.ref C_NothingToUndo)
  ec_NothingToUndo : ErrC K C_NothingToUndo
  x_NothingToUndo : PySem.W.excIn K C_NothingToUndo [.type "ValueError", .type "Exception", .type "BaseException", .type "object"] "ValueError.__new__" = true
  C_InvalidCommand : Addr
  g_InvalidCommand : mg "InvalidCommand" = some (.ref C_InvalidCommand)
  ec_InvalidCommand : ErrC K C_InvalidCommand
  x_InvalidCommand : PySem.W.excIn K C_InvalidCommand [.type "ValueError", .type "Exception", .type "BaseException", .type "object"] "ValueError.__new__" = true
  C_InvalidDisc : Addr
  g_InvalidDisc : mg "InvalidDisc" = some (.ref C_InvalidDisc)
  ec_InvalidDisc : ErrC K C_InvalidDisc
  o_InvalidDisc : OexC K C_InvalidDisc
  i_InvalidDisc : PySem.W.findIn K (.ref C_InvalidDisc) "__init__" = some (some (.ref a_InvalidDisc_init))
  ti_InvalidDisc : PySem.W.typeIn K (.ref a_InvalidDisc_init) = some (.type "function")
  nf_InvalidDisc_index : PySem.W.findIn K (.ref C_InvalidDisc) "index" = some none
  C_InvalidRow : Addr
  g_InvalidRow : mg "InvalidRow" = some (.ref C_InvalidRow)
  ec_InvalidRow : ErrC K C_InvalidRow
  o_InvalidRow : OexC K C_InvalidRow
  i_InvalidRow : PySem.W.findIn K (.ref C_InvalidRow) "__init__" = some (some (.ref a_InvalidRow_init))
  ti_InvalidRow : PySem.W.typeIn K (.ref a_InvalidRow_init) = some (.type "function")
  nf_InvalidRow_index : PySem.W.findIn K (.ref C_InvalidRow) "index" = some none
  C_InvalidLights : Addr
  g_InvalidLights : mg "InvalidLights" = some (.ref C_InvalidLights)
  ec_InvalidLights : ErrC K C_InvalidLights
  o_InvalidLights : OexC K C_InvalidLights
  i_InvalidLights : PySem.W.findIn K (.ref C_InvalidLights) "__init__" = some (some (.ref a_InvalidLights_init))
  ti_InvalidLights : PySem.W.typeIn K (.ref a_InvalidLights_init) = some (.type "function")
  nf_InvalidLights_index : PySem.W.findIn K (.ref C_InvalidLights) "index" = some none
  C_InvalidLooks : Addr
  g_InvalidLooks : mg "InvalidLooks" = some (.ref C_InvalidLooks)
  ec_InvalidLooks : ErrC K C_InvalidLooks
  o_InvalidLooks : OexC K C_InvalidLooks
  i_InvalidLooks : PySem.W.findIn K (.ref C_InvalidLooks) "__init__" = some (some (.ref a_InvalidLooks_init))
  ti_InvalidLooks : PySem.W.typeIn K (.ref a_InvalidLooks_init) = some (.type "function")
  nf_InvalidLooks_index : PySem.W.findIn K (.ref C_InvalidLooks) "index" = some none
  C_InvalidSyntax : Addr
  g_InvalidSyntax : mg "InvalidSyntax" = some (.ref C_InvalidSyntax)
  ec_InvalidSyntax : ErrC K C_InvalidSyntax
  o_InvalidSyntax : OexC K C_InvalidSyntax
  i_InvalidSyntax : PySem.W.findIn K (.ref C_InvalidSyntax) "__init__" = some (some (.ref a_InvalidSyntax_init))
  ti_InvalidSyntax : PySem.W.typeIn K (.ref a_InvalidSyntax_init) = some (.type "function")
  nf_InvalidSyntax_word : PySem.W.findIn K (.ref C_InvalidSyntax) "word" = some none
  cr_DiscError : ClX.CRead K C_DiscError (.type "type")
  vi_DiscError : PySem.W.findCls K (.ref C_DiscError) (.type "type") "__init__" = some (.val (.builtin "ValueError.__init__"))
  ks_DiscError : Kits K C_DiscError [C_InvalidNumber, C_InvalidTurn, C_InvalidSlot, C_Impossible, C_NothingToUndo, C_InvalidCommand, C_InvalidDisc, C_InvalidRow, C_InvalidLights, C_InvalidLooks, C_InvalidSyntax] [false, false, false, false, false, false, false, false, false, false, false]
  kb_DiscError : PySem.W.kitOne K (.ref C_DiscError) (.ref C_DiscError) = some true
  kv_DiscError : PySem.W.kitOne K (.ref C_DiscError) (.type "ValueError") = some true
  xm_DiscError : PySem.W.exmOne K (.ref C_DiscError) (.ref C_DiscError) = some true
  ks_InvalidNumber : Kits K C_InvalidNumber [C_InvalidNumber, C_InvalidTurn, C_InvalidSlot, C_Impossible, C_NothingToUndo, C_InvalidCommand, C_InvalidDisc, C_InvalidRow, C_InvalidLights, C_InvalidLooks, C_InvalidSyntax] [true, false, false, false, false, false, false, false, false, false, false]
  kb_InvalidNumber : PySem.W.kitOne K (.ref C_InvalidNumber) (.ref C_DiscError) = some true
  kv_InvalidNumber : PySem.W.kitOne K (.ref C_InvalidNumber) (.type "ValueError") = some true
  xm_InvalidNumber : PySem.W.exmOne K (.ref C_InvalidNumber) (.ref C_DiscError) = some true
  ks_InvalidTurn : Kits K C_InvalidTurn [C_InvalidNumber, C_InvalidTurn, C_InvalidSlot, C_Impossible, C_NothingToUndo, C_InvalidCommand, C_InvalidDisc, C_InvalidRow, C_InvalidLights, C_InvalidLooks, C_InvalidSyntax] [false, true, false, false, false, false, false, false, false, false, false]
  kb_InvalidTurn : PySem.W.kitOne K (.ref C_InvalidTurn) (.ref C_DiscError) = some true
  kv_InvalidTurn : PySem.W.kitOne K (.ref C_InvalidTurn) (.type "ValueError") = some true
  xm_InvalidTurn : PySem.W.exmOne K (.ref C_InvalidTurn) (.ref C_DiscError) = some true
  ks_InvalidSlot : Kits K C_InvalidSlot [C_InvalidNumber, C_InvalidTurn, C_InvalidSlot, C_Impossible, C_NothingToUndo, C_InvalidCommand, C_InvalidDisc, C_InvalidRow, C_InvalidLights, C_InvalidLooks, C_InvalidSyntax] [false, false, true, false, false, false, false, false, false, false, false]
  kb_InvalidSlot : PySem.W.kitOne K (.ref C_InvalidSlot) (.ref C_DiscError) = some true
  kv_InvalidSlot : PySem.W.kitOne K (.ref C_InvalidSlot) (.type "ValueError") = some true
  xm_InvalidSlot : PySem.W.exmOne K (.ref C_InvalidSlot) (.ref C_DiscError) = some true
  ks_Impossible : Kits K C_Impossible [C_InvalidNumber, C_InvalidTurn, C_InvalidSlot, C_Impossible, C_NothingToUndo, C_InvalidCommand, C_InvalidDisc, C_InvalidRow, C_InvalidLights, C_InvalidLooks, C_InvalidSyntax] [false, false, false, true, false, false, false, false, false, false, false]
  kb_Impossible : PySem.W.kitOne K (.ref C_Impossible) (.ref C_DiscError) = some true
  kv_Impossible : PySem.W.kitOne K (.ref C_Impossible) (.type "ValueError") = some true
  xm_Impossible : PySem.W.exmOne K (.ref C_Impossible) (.ref C_DiscError) = some true
  ks_NothingToUndo : Kits K C_NothingToUndo [C_InvalidNumber, C_InvalidTurn, C_InvalidSlot, C_Impossible, C_NothingToUndo, C_InvalidCommand, C_InvalidDisc, C_InvalidRow, C_InvalidLights, C_InvalidLooks, C_InvalidSyntax] [false, false, false, false, true, false, false, false, false, false, false]
  kb_NothingToUndo : PySem.W.kitOne K (.ref C_NothingToUndo) (.ref C_DiscError) = some true
  kv_NothingToUndo : PySem.W.kitOne K (.ref C_NothingToUndo) (.type "ValueError") = some true
  xm_NothingToUndo : PySem.W.exmOne K (.ref C_NothingToUndo) (.ref C_DiscError) = some true
  ks_InvalidCommand : Kits K C_InvalidCommand [C_InvalidNumber, C_InvalidTurn, C_InvalidSlot, C_Impossible, C_NothingToUndo, C_InvalidCommand, C_InvalidDisc, C_InvalidRow, C_InvalidLights, C_InvalidLooks, C_InvalidSyntax] [false, false, false, false, false, true, false, false, false, false, false]
  kb_InvalidCommand : PySem.W.kitOne K (.ref C_InvalidCommand) (.ref C_DiscError) = some true
  kv_InvalidCommand : PySem.W.kitOne K (.ref C_InvalidCommand) (.type "ValueError") = some true
  xm_InvalidCommand : PySem.W.exmOne K (.ref C_InvalidCommand) (.ref C_DiscError) = some true
  ks_InvalidDisc : Kits K C_InvalidDisc [C_InvalidNumber, C_InvalidTurn, C_InvalidSlot, C_Impossible, C_NothingToUndo, C_InvalidCommand, C_InvalidDisc, C_InvalidRow, C_InvalidLights, C_InvalidLooks, C_InvalidSyntax] [false, false, false, false, false, false, true, false, false, false, false]
  kb_InvalidDisc : PySem.W.kitOne K (.ref C_InvalidDisc) (.ref C_DiscError) = some true
  kv_InvalidDisc : PySem.W.kitOne K (.ref C_InvalidDisc) (.type "ValueError") = some true
  xm_InvalidDisc : PySem.W.exmOne K (.ref C_InvalidDisc) (.ref C_DiscError) = some true
  ks_InvalidRow : Kits K C_InvalidRow [C_InvalidNumber, C_InvalidTurn, C_InvalidSlot, C_Impossible, C_NothingToUndo, C_InvalidCommand, C_InvalidDisc, C_InvalidRow, C_InvalidLights, C_InvalidLooks, C_InvalidSyntax] [false, false, false, false, false, false, false, true, false, false, false]
  kb_InvalidRow : PySem.W.kitOne K (.ref C_InvalidRow) (.ref C_DiscError) = some true
  kv_InvalidRow : PySem.W.kitOne K (.ref C_InvalidRow) (.type "ValueError") = some true
  xm_InvalidRow : PySem.W.exmOne K (.ref C_InvalidRow) (.ref C_DiscError) = some true
  ks_InvalidLights : Kits K C_InvalidLights [C_InvalidNumber, C_InvalidTurn, C_InvalidSlot, C_Impossible, C_NothingToUndo, C_InvalidCommand, C_InvalidDisc, C_InvalidRow, C_InvalidLights, C_InvalidLooks, C_InvalidSyntax] [false, false, false, false, false, false, false, false, true, false, false]
  kb_InvalidLights : PySem.W.kitOne K (.ref C_InvalidLights) (.ref C_DiscError) = some true
  kv_InvalidLights : PySem.W.kitOne K (.ref C_InvalidLights) (.type "ValueError") = some true
  xm_InvalidLights : PySem.W.exmOne K (.ref C_InvalidLights) (.ref C_DiscError) = some true
  ks_InvalidLooks : Kits K C_InvalidLooks [C_InvalidNumber, C_InvalidTurn, C_InvalidSlot, C_Impossible, C_NothingToUndo, C_InvalidCommand, C_InvalidDisc, C_InvalidRow, C_InvalidLights, C_InvalidLooks, C_InvalidSyntax] [false, false, false, false, false, false, false, false, false, true, false]
  kb_InvalidLooks : PySem.W.kitOne K (.ref C_InvalidLooks) (.ref C_DiscError) = some true
  kv_InvalidLooks : PySem.W.kitOne K (.ref C_InvalidLooks) (.type "ValueError") = some true
  xm_InvalidLooks : PySem.W.exmOne K (.ref C_InvalidLooks) (.ref C_DiscError) = some true
  ks_InvalidSyntax : Kits K C_InvalidSyntax [C_InvalidNumber, C_InvalidTurn, C_InvalidSlot, C_Impossible, C_NothingToUndo, C_InvalidCommand, C_InvalidDisc, C_InvalidRow, C_InvalidLights, C_InvalidLooks, C_InvalidSyntax] [false, false, false, false, false, false, false, false, false, false, true]
  kb_InvalidSyntax : PySem.W.kitOne K (.ref C_InvalidSyntax) (.ref C_DiscError) = some true
  kv_InvalidSyntax : PySem.W.kitOne K (.ref C_InvalidSyntax) (.type "ValueError") = some true
  xm_InvalidSyntax : PySem.W.exmOne K (.ref C_InvalidSyntax) (.ref C_DiscError) = some true
  t_MOST_SLOTS : Tok
  g_MOST_SLOTS : mg "MOST_SLOTS" = some (.int (40) t_MOST_SLOTS)
  t_MOST_LIGHT : Tok
  g_MOST_LIGHT : mg "MOST_LIGHT" = some (.int (1000000000000000000000000000000) t_MOST_LIGHT)
  n_ValueError : mg "ValueError" = none
  n_abs : mg "abs" = none
  n_bool : mg "bool" = none
  n_enumerate : mg "enumerate" = none
  n_int : mg "int" = none
  n_isinstance : mg "isinstance" = none
  n_len : mg "len" = none
  n_list : mg "list" = none
  n_max : mg "max" = none
  n_min : mg "min" = none
  n_property : mg "property" = none
  n_range : mg "range" = none
  n_repr : mg "repr" = none
  n_sum : mg "sum" = none
  n_zip : mg "zip" = none
section
variable {P : Program} {w : World} {K : PySem.W.Frag} {mg : Str → Option Value} {base : Heap}
/-! ### the errors' own __init__ -/
def FieldOk (x : V) : Prop := x = .non ∨ ∃ i : Int, x = .int i ∧ i.natAbs < 10 ^ 30
/-- f: the field -/
def spErrInit (K : PySem.W.Frag) (C : Addr) (f : Str) : Sp := fun vs H Q _ => ∃ (a : Addr) (x : V), vs = [.ref a, x] ∧ H a = some (exo a C none) ∧ FieldOk x ∧
  ∀ dx, H dx = none → dx ≠ a → Q .non (upd (upd H dx (exd dx [(f, x)])) a (exo a C (some dx)))
theorem field_log {i : Int} (h : i.natAbs < 10 ^ 30) : i.natAbs.log2 < 1920 := by
  have h2 : i.natAbs < 2 ^ 1919 := Nat.lt_trans h (by decide +kernel)
  by_cases e : i.natAbs = 0
  · rw [e]
    decide
  · exact Nat.lt_trans ((Nat.log2_lt e).mpr h2) (by decide)
theorem field_len {i : Int} (h : i.natAbs < 10 ^ 30) : (Str.ofString (toString i)).length ≤ 31 := by
  rw [str_int]
  show (mkS (intL i)).length ≤ 31
  rw [mk_len]
  exact intL_len (by decide) h
theorem fld_sz {t : Str} {n : Nat} (h : t.length ≤ n) (hn : n ≤ 1000) : t.length ≤ sizeLine := by
  rw [sizeLine_eq]
  omega
/-- the three parts of the text -/
theorem fld_join {t1 t3 : Str} {te : TE} {x : V} {σ : L2.St} {H : Hp} {Q : VK} (hx : FieldOk x) (h1 : t1.length ≤ 100) (h3 : t3.length ≤ 100) (he : ∀ R : VK, R x H → te σ H R) (q : ∀ y, Q (.str y) H) : tJoined [tC (.str t1), tFmtN te, tC (.str t3)] σ H Q := by
  have l0 : (Str.empty ++ t1).length ≤ 100 := by
    rw [Str.length_append]
    show 0 + t1.length ≤ 100
    omega
  refine ⟨t1, rfl, fld_sz l0 (by decide), ?_⟩
  refine he _ ?_
  rcases hx with rfl | ⟨i, rfl, hi⟩
  · refine .inl ⟨rfl, _, rfl, ?_, _, rfl, ?_, q _⟩
    · exact fld_sz (n := 200) (by rw [Str.length_append]; show _ + 4 ≤ 200; omega) (by decide)
    · exact fld_sz (n := 300) (by rw [Str.length_append, Str.length_append]; show _ + 4 + _ ≤ 300; omega) (by decide)
  · have hl := field_len hi
    refine .inr ⟨i, rfl, field_log hi, _, rfl, ?_, _, rfl, ?_, q _⟩
    · exact fld_sz (n := 200) (by rw [Str.length_append]; omega) (by decide)
    · exact fld_sz (n := 300) (by rw [Str.length_append, Str.length_append]; omega) (by decide)
theorem ok_InvalidDisc_init (T : Txt K mg) : FnOk P w K mg base CX0 1 T.a_InvalidDisc_init T.d_InvalidDisc_init ["self", "index"] (spErrInit K T.C_InvalidDisc "index") := by
  refine T.F_InvalidDisc_init.ok sc_InvalidDisc_init (fun vs H Q E h => ?_) (fun cdv A outer s H vs Q E hr h => ?_)
  · obtain ⟨_, _, rfl, _⟩ := h
    rfl
  · obtain ⟨a, x, rfl, hA, hx, q⟩ := h
    refine ⟨_, (pss_cons (ps_expr (pe_dinit (by rfl) T.g_DiscError T.cr_DiscError T.vi_DiscError (pa_cons (pv 0) (pa_cons (pe_joinedN (PJ.cons pe_str (PJ.cons (pe_fmtN (pv 1)) (PJ.cons pe_str PJ.nil)))) pa_nil))))
      (pss_one (ps_ost (pv 0) (pv 1)))), ?_⟩
    refine ⟨.ref a, rfl, ?_⟩
    refine fld_join hx (by decide +kernel) (by decide +kernel) (fun R h => ⟨x, rfl, h⟩) fun y => ?_
    refine ⟨a, T.C_InvalidDisc, [.str y], rfl, (by show 1 ≤ 1000; decide), T.o_InvalidDisc, hA, ?_⟩
    exact ⟨x, rfl, .ref a, rfl, a, T.C_InvalidDisc, rfl, T.o_InvalidDisc, T.nf_InvalidDisc_index, .inl ⟨hA, fun dx h1 h2 => q dx h1 h2⟩⟩

/-! ### checks that raise, over data of any kind -/
def oneQ : PyData → Bool
  | .int _ => true
  | _ => false
theorem oneQ_eq (d : PyData) : (intQ d && !boolQ d) = oneQ d := by cases d <;> rfl
def spIsIntQ : Sp := fun vs H Q _ => ∃ (v : V) (d : PyData), vs = [v] ∧ Dq H v d ∧ Q (.bl (oneQ d)) H
theorem ok_is_integerQ (T : Txt K mg) : FnOk P w K mg base CX0 1 T.a_is_integer T.d_is_integer ["value"] spIsIntQ := by
  refine T.F_is_integer.ok sc_is_integer (fun vs H Q E h => ?_) (fun cdv A outer s H vs Q E hr h => ?_)
  · obtain ⟨_, _, rfl, _⟩ := h
    rfl
  · obtain ⟨v, d, rfl, hd, q⟩ := h
    refine ⟨_, (pss_one (ps_ret (pe_and (pe_callB (isiL (K := K) rfl) (by rfl) T.n_isinstance (by decide +kernel) (pa_cons (pv 0) (pa_cons (pe_bltn (v := .ty "int") (u := Value.type "int") rfl T.n_int (by decide +kernel) rfl) pa_nil))) (pe_one (pe_not (pe_callB (isiL (K := K) rfl) (by rfl) T.n_isinstance (by decide +kernel) (pa_cons (pv 0) (pa_cons (pe_bltn (v := .ty "bool") (u := Value.type "bool") rfl T.n_bool (by decide +kernel) rfl) pa_nil)))))))), ?_⟩
    refine ⟨v, rfl, v, .ty "int", _, _, _, rfl, .ty _, ty_q hd, kit_intQ d, _, rfl, ?_⟩
    have e := oneQ_eq d
    cases h1 : intQ d with
    | false =>
      rw [h1] at e
      refine iteF ?_
      show Q (.bl false) H
      rw [show (false && !boolQ d) = false from rfl] at e
      rw [e]
      exact q
    | true =>
      rw [h1] at e
      refine ⟨v, rfl, v, .ty "bool", _, _, _, rfl, .ty _, ty_q hd, kit_boolQ d, _, rfl, ?_⟩
      show Q (.bl (!boolQ d)) H
      rw [Bool.true_and] at e
      rw [e]
      exact q
def spHasSlotsQ : Sp := fun vs H Q _ => ∃ (v : V) (d : PyData), vs = [v] ∧ Dq H v d ∧ Q (.bl (slotsQ d)) H
theorem ok_has_slotsQ (T : Txt K mg) : FnOk P w K mg base CX0 1 T.a_has_slots T.d_has_slots ["value"] spHasSlotsQ := by
  refine T.F_has_slots.ok sc_has_slots (fun vs H Q E h => ?_) (fun cdv A outer s H vs Q E hr h => ?_)
  · obtain ⟨_, _, rfl, _⟩ := h
    rfl
  · obtain ⟨v, d, rfl, hd, q⟩ := h
    refine ⟨_, (pss_one (ps_ret (pe_and (pe_callB (isiL (K := K) rfl) (by rfl) T.n_isinstance (by decide +kernel) (pa_cons (pv 0) (pa_cons (pe_bltn (v := .ty "list") (u := Value.type "list") rfl T.n_list (by decide +kernel) rfl) pa_nil))) (pe_one (pe_chain op_le op_le pe_int (pe_callB (lenL (K := K) rfl) (by rfl) T.n_len (by decide +kernel) (pa_cons (pv 0) pa_nil)) (pe_glob (v := .int (40)) rfl T.g_MOST_SLOTS ⟨_, rfl⟩)))))), ?_⟩
    refine ⟨v, rfl, v, .ty "list", _, _, _, rfl, .ty _, ty_q hd, kit_listQ d, _, rfl, ?_⟩
    cases hd with
    | @lst a xs ds h1 h2 =>
      have e := h2.length
      refine ⟨.ref a, rfl, a, _, rfl, .inl (SqL.of h1), 1, _, rfl, rfl, _, rfl, ?_⟩
      have q : Q (.bl (decide (1 ≤ ds.length) && decide (ds.length ≤ 40))) H := q
      by_cases z : 1 ≤ ds.length
      · rw [if_pos (decide_eq_true (by omega))]
        refine ⟨_, 40, rfl, rfl, ?_⟩
        show Q (.bl (decide ((xs.length : Int) ≤ 40))) H
        rw [decide_eq_true z, Bool.true_and] at q
        rw [show decide ((xs.length : Int) ≤ 40) = decide (ds.length ≤ 40) from decide_eq_decide.mpr (by omega)]
        exact q
      · rw [if_neg (fun y => z (by have := of_decide_eq_true y; omega))]
        rw [decide_eq_false z, Bool.false_and] at q
        exact q
    | non => exact q
    | bl _ => exact q
    | int _ => exact q
    | str _ => exact q
    | tup _ _ => exact q
    | emp _ => exact q
/-- the first wrong item stands at i -/
def BadAt (top : Int) (ds : List PyData) (i : Nat) : Prop := (∀ (j : Nat) (d : PyData), j < i → ds[j]? = some d → okS top d = true) ∧ ∃ d, ds[i]? = some d ∧ okS top d = false
def spWrongAt : Sp := fun vs H Q _ => ∃ (a : Addr) (xs : List V) (ds : List PyData) (top : Int) (i : Nat), vs = [.ref a, .int top] ∧ H a = some (.lst xs) ∧ DqAll H xs ds ∧ BadAt top ds i ∧ ∀ H' : Hp, Same H H' → Q (.int i) H'
theorem ok_wrong_lightQ (T : Txt K mg) : FnOk P w K mg base CX0 2 T.a_wrong_light T.d_wrong_light ["items", "most"] spWrongAt := by
  have G_is_integer := ok_is_integerQ (P := P) (w := w) (base := base) T
  refine T.F_wrong_light.ok sc_wrong_light (fun vs H Q E h => ?_) (fun cdv A outer s H vs Q E hr h => ?_)
  · obtain ⟨_, _, _, _, _, rfl, _⟩ := h
    rfl
  · obtain ⟨a, xs, ds, top, k, rfl, hA, hds, ⟨hok, dk, hk, hbad⟩, q⟩ := h
    refine ⟨_, (pss_cons (ps_for PassesOwn.never rfl (enumL (K := K) rfl (by rfl) T.n_enumerate (pa_cons (pv 0) pa_nil)) (pg_tupL (K := K) (n := 2) rfl rfl (pgs_cons (pg_name (i := 2) sc_wrong_light.nd rfl (.inl rfl)) (pgs_cons (pg_name (i := 3) sc_wrong_light.nd rfl (.inl rfl)) pgs_nil))) (pss_one (ps_if (PW.pt (pw_or (pt_not (pt_val (pe_call G_is_integer hr (by rfl) T.g_is_integer T.F_is_integer.kp T.b_is_integer .nil pass0 (pa_cons (pv 3) pa_nil)))) (pw_or1 (pt_not (pt_chain op_le op_le pe_int (pv 3) (pv 1)))))) (pss_one (ps_ret (pv 2))) pss_nil)))
      (pss_one (ps_ret pe_non))), ?_⟩
    have hkl : k < ds.length := (List.getElem?_eq_some_iff.mp hk).1
    refine ⟨.ref a, rfl, a, _, rfl, SqL.of hA, for_it (walk_enum (K := K) (xs := xs)) (fun i σ H' => ∃ y1 y2 : Option V, σ = [some (.ref a), some (.int top), y1, y2] ∧ Same H H' ∧ i ≤ k)
      ⟨none, none, rfl, Same.refl H, Nat.zero_le _⟩ (fun i σ H' _ ⟨_, _, _, s2, _⟩ => s2.seq (SqL.of hA)) (fun i x σ H1 H2 hi hP hY => ?_) (fun σ H1 hP => ?_)⟩
    · obtain ⟨y1, y2, rfl, s1, hik⟩ := hP
      obtain ⟨p, z1, x, rfl, hp, rfl, e1, e2⟩ := hY
      have e1 : V.int (i : Int) = z1 := Option.some.inj e1
      subst e1
      obtain ⟨d, hd, dq⟩ := hds.at e2
      have s2 := s1.trans (new_same (o := .tup [.int i, x]) hp)
      have dq2 := dq.same s2
      refine ⟨p, _, rfl, SqT.of upd_same, rfl, _, _, rfl, _, _, rfl, rfl, ?_⟩
      refine ⟨x, rfl, x, d, rfl, dq2, _, rfl, ?_⟩
      have bad : okS top d = false → Q (.int i) (upd H1 p (.tup [.int i, x])) := fun z => by
        have e : i = k := by
          rcases Nat.lt_or_ge i k with l | l
          · rw [hok i d l hd] at z
            cases z
          · omega
        rw [e]
        exact q _ (e ▸ s2)
      have good : okS top d = true → i + 1 ≤ k := fun z => by
        rcases Nat.lt_or_ge i k with l | l
        · exact l
        · have e : i = k := by omega
          rw [e, hk] at hd
          rw [← Option.some.inj hd, hbad] at z
          cases z
      cases dq with
      | int n =>
        refine iteF ?_
        refine ⟨.int n, rfl, 0, n, rfl, rfl, _, rfl, ?_⟩
        by_cases c0 : 0 ≤ n
        · rw [if_pos (decide_eq_true c0)]
          refine ⟨.int top, rfl, n, top, rfl, rfl, _, rfl, ?_⟩
          by_cases c1 : n ≤ top
          · refine iteNS c1 ⟨_, _, rfl, s2, good ?_⟩
            show (decide (0 ≤ n) && decide (n ≤ top)) = true
            rw [decide_eq_true c0, decide_eq_true c1]
            rfl
          · have c2 : decide (n ≤ top) = false := decide_eq_false c1
            show if (!decide (n ≤ top)) = true then _ else _
            rw [c2]
            exact iteT ⟨.int i, rfl, bad (by show (decide (0 ≤ n) && decide (n ≤ top)) = false; rw [c2, Bool.and_false])⟩
        · rw [if_neg (fun z => c0 (of_decide_eq_true z))]
          exact ⟨_, rfl, iteT ⟨.int i, rfl, bad (by show (decide (0 ≤ n) && decide (n ≤ top)) = false; rw [decide_eq_false c0, Bool.false_and])⟩⟩
      | non => exact iteT (iteT ⟨.int i, rfl, bad rfl⟩)
      | bl _ => exact iteT (iteT ⟨.int i, rfl, bad rfl⟩)
      | str _ => exact iteT (iteT ⟨.int i, rfl, bad rfl⟩)
      | lst _ _ => exact iteT (iteT ⟨.int i, rfl, bad rfl⟩)
      | tup _ _ => exact iteT (iteT ⟨.int i, rfl, bad rfl⟩)
      | emp _ => exact iteT (iteT ⟨.int i, rfl, bad rfl⟩)
    · obtain ⟨y1, y2, rfl, s1, hall⟩ := hP
      have := hds.length
      omega
def top30 : Int := 1000000000000000000000000000000
def spWrongSlotAt : Sp := fun vs H Q _ => ∃ (a : Addr) (xs : List V) (ds : List PyData) (i : Nat), vs = [.ref a] ∧ H a = some (.lst xs) ∧ DqAll H xs ds ∧ BadAt top30 ds i ∧ ∀ H' : Hp, Same H H' → Q (.int i) H'
theorem ok_wrong_slotQ (T : Txt K mg) : FnOk P w K mg base CX0 3 T.a_wrong_slot T.d_wrong_slot ["items"] spWrongSlotAt := by
  have G_wrong_light := ok_wrong_lightQ (P := P) (w := w) (base := base) T
  refine T.F_wrong_slot.ok sc_wrong_slot (fun vs H Q E h => ?_) (fun cdv A outer s H vs Q E hr h => ?_)
  · obtain ⟨_, _, _, _, rfl, _⟩ := h
    rfl
  · obtain ⟨a, xs, ds, i, rfl, hA, hds, hB, q⟩ := h
    refine ⟨_, (pss_one (ps_ret (pe_call G_wrong_light hr (by rfl) T.g_wrong_light T.F_wrong_light.kp T.b_wrong_light .nil pass0 (pa_cons (pv 0) (pa_cons (pe_glob (v := .int (1000000000000000000000000000000)) rfl T.g_MOST_LIGHT ⟨_, rfl⟩) pa_nil))))), ?_⟩
    exact ⟨.ref a, rfl, a, xs, ds, _, i, rfl, hA, hds, hB, q⟩
/-- no disc: what the error tells -/
inductive BadDisc : PyData → V → Prop
  | none {d : PyData} (h : slotsQ d = false) : BadDisc d .non
  | at {ds : List PyData} {i : Nat} (h : slotsQ (.list ds) = true) (b : BadAt top30 ds i) (i40 : i ≤ 40) : BadDisc (.list ds) (.int i)
theorem small_fld {i : Nat} (h : i ≤ 40) : FieldOk (.int (i : Int)) := .inr ⟨i, rfl, by
  have e30 : (10 : Nat) ^ 30 = 1000000000000000000000000000000 := by decide +kernel
  rw [e30]
  omega⟩
theorem raise_same {H : Hp} {a C dx : Addr} {f : Str} {x : V} (ha : H a = none) (hd : (upd H a (exo a C none)) dx = none) (hn : dx ≠ a) :
    Same H (upd (del (upd (upd (upd H a (exo a C none)) dx (exd dx [(f, x)])) a (exo a C (some dx))) a) dx (.xd [(f, x)])) := fun b o e => by
  have na : b ≠ a := fun z => by
    rw [z, ha] at e
    cases e
  have nd : b ≠ dx := fun z => by
    rw [upd_ne hn] at hd
    rw [z, hd] at e
    cases e
  rw [upd_ne nd, del_ne na, upd_ne na, upd_ne nd, upd_ne na]
  exact e
def spBadDisc (C : Addr) : Sp := fun vs H Q E => ∃ (v : V) (d : PyData) (x : V), vs = [v] ∧ Dq H v d ∧ BadDisc d x ∧ ∀ (dx : Addr) (H' : Hp), Same H H' → H' dx = some (.xd [("index", x)]) → E (.ref C) (some dx) H'
theorem ok_check_discX (T : Txt K mg) : FnOk P w K mg base (L2N.CX P w) 4 T.a_check_disc T.d_check_disc ["disc"] (spBadDisc T.C_InvalidDisc) := by
  have G_has_slots := ok_has_slotsQ (P := P) (w := w) (base := base) T
  have G_wrong_slot := ok_wrong_slotQ (P := P) (w := w) (base := base) T
  have G_InvalidDisc_init := ok_InvalidDisc_init (P := P) (w := w) (base := base) T
  refine okXN T.F_check_disc sc_check_disc (fun vs H Q E h => ?_) (fun cdv A outer s H vs Q E hr h => ?_)
  · obtain ⟨_, _, _, rfl, _⟩ := h
    rfl
  · obtain ⟨v, d, x, rfl, hd, hb, q⟩ := h
    refine ⟨_, (pss_cons (ps_if (pt_not (pt_val (pe_call G_has_slots (hr.mono (by decide)) (by rfl) T.g_has_slots T.F_has_slots.kp T.b_has_slots .nil pass0 (pa_cons (pv 0) pa_nil)))) (pss_one (L2N.ps_raise rfl (L2N.takes_of rfl rfl rfl rfl) (pmk_oexN T.o_InvalidDisc T.i_InvalidDisc T.ti_InvalidDisc G_InvalidDisc_init (hr.mono (by decide)) T.b_InvalidDisc_init pass0 (by rfl) T.g_InvalidDisc rfl (pa_cons pe_non pa_nil)))) pss_nil)
      (pss_cons (ps_set (i := 1) sc_check_disc.nd rfl (.inl rfl) (pe_call G_wrong_slot hr (by rfl) T.g_wrong_slot T.F_wrong_slot.kp T.b_wrong_slot .nil pass0 (pa_cons (pv 0) pa_nil)))
      (pss_one (ps_if (pt_cmpR op_notN (pv 1) pe_non (nomark _)) (pss_one (L2N.ps_raise rfl (L2N.takes_of rfl rfl rfl rfl) (pmk_oexN T.o_InvalidDisc T.i_InvalidDisc T.ti_InvalidDisc G_InvalidDisc_init (hr.mono (by decide)) T.b_InvalidDisc_init pass0 (by rfl) T.g_InvalidDisc rfl (pa_cons (pv 1) pa_nil)))) pss_nil)))), ?_⟩
    refine ⟨v, rfl, v, d, rfl, hd, _, rfl, ?_⟩
    cases hb with
    | none h =>
      rw [h]
      refine iteT ?_
      exact ⟨rfl, fun a ha => ⟨a, .non, rfl, upd_same, .inl rfl, fun dx hdx hn => ⟨rfl, dx, _, upd_same, by rw [upd_ne hn, upd_same], by rw [upd_ne hn] at hdx; exact hdx, q dx _ (raise_same ha hdx hn) upd_same⟩⟩⟩
    | @«at» ds i h b i40 =>
      rw [h]
      refine iteF ?_
      cases hd with
      | @lst l xs _ h1 h2 =>
        refine ⟨.ref l, rfl, l, xs, ds, i, rfl, h1, h2, b, fun H1 s1 => ?_⟩
        refine ⟨.int i, rfl, rfl, _, rfl, ite2 (fun _ => ?_) (fun h => absurd (by simp) h)⟩
        exact ⟨.int i, rfl, rfl, fun a ha => ⟨a, .int i, rfl, upd_same, small_fld i40, fun dx hdx hn => ⟨rfl, dx, _, upd_same, by rw [upd_ne hn, upd_same], by rw [upd_ne hn] at hdx; exact hdx, q dx _ (s1.trans (raise_same ha hdx hn)) upd_same⟩⟩⟩

def spLTurned (K : PySem.W.Frag) : Sp := fun vs H Q _ => ∃ (a : Addr) (ns : List Int) (t : Int), vs = [.ref a, .int t] ∧ SqL K H a (ns.map V.int) ∧ 1 ≤ ns.length ∧ ns.length ≤ 1000 ∧
  ∀ (l : Addr) (H' : Hp), Same H H' → H l = none → H' l = some (.lst ((rot ns t).map V.int)) → Q (.ref l) H'
def spLMirrored (K : PySem.W.Frag) : Sp := fun vs H Q _ => ∃ (a : Addr) (ns : List Int), vs = [.ref a] ∧ SqL K H a (ns.map V.int) ∧ 1 ≤ ns.length ∧ ns.length ≤ 1000 ∧
  ∀ (l : Addr) (H' : Hp), Same H H' → H l = none → H' l = some (.lst ((mir ns).map V.int)) → Q (.ref l) H'

/-! ### slitdiscs.around -/
def spTurnedList (K : PySem.W.Frag) : Sp := spLTurned K
theorem ok_turned_list (T : Txt K mg) : FnOk P w K mg base CX0 1 T.a_turned_list T.d_turned_list ["items", "turn"] (spTurnedList K) := by
  refine T.F_turned_list.ok sc_turned_list (fun vs H Q E h => ?_) (fun cdv A outer s H vs Q E hr h => ?_)
  · obtain ⟨_, _, _, rfl, _⟩ := h
    rfl
  · obtain ⟨a, ns, t, rfl, hS, hn1, hn, q⟩ := h
    refine ⟨_, (pss_cons (ps_set (i := 2) sc_turned_list.nd rfl (.inr rfl) (pe_callB (lenL (K := K) rfl) (by rfl) T.n_len (by decide +kernel) (pa_cons (pv 0) pa_nil)))
      (pss_one (ps_ret (pe_lc (own := [("slot", 3)]) (g := gName 3) (tt := tYes) (by rfl) sc_turned_list.nd (pi_range1 (by rfl) T.n_range (pa_cons (pv 2) pa_nil)) (blkOk_by (own := [("slot", 3)]) (N := ["items", "turn", "size", "slot"]) (sc := defScope s_turned_list) (by decide +kernel))
        (fun _ _ _ _ _ => (pg_name (i := 3) sc_turned_list.nd rfl (Or.inl rfl))) (fun _ _ _ _ _ => pts_nil) (fun _ _ _ _ _ => (pe_ix (ixL (K := K) rfl) (pv 0) (pe_op op_mod (pe_op op_sub (pv 3) (pv 1)) (pv 2)) (fun _ _ => rfl))))))), ?_⟩
    refine ⟨.ref a, rfl, a, _, rfl, .inl hS, ?_⟩
    rw [List.length_map]
    refine ⟨.int ns.length, rfl, ns.length, rfl, by omega, by omega, fun D hD => lc_range (lo := 0) (n := ((ns.length : Nat) : Int).toNat)
      (fun i H' => Same H H' ∧ H' D = some (.lst (((rot ns t).take i).map V.int))) ⟨new_same hD, upd_same⟩ (fun i H1 hi hP => ⟨rfl, ?_⟩) (fun H1 hP => ?_)⟩
    · obtain ⟨s1, hD1⟩ := hP
      rw [Int.toNat_natCast] at hi
      have hm := mod_in (i := (0 + (i : Int)) - t) (show 0 < ns.length by omega)
      obtain ⟨n, hx, hat⟩ := at_in hm.1 hm.2
      refine ⟨.ref a, rfl, .int (0 + i), rfl, .int t, rfl, 0 + i, t, rfl, rfl, .int ns.length, rfl, _, _, rfl, rfl, (by show (0 : Int) < _; omega), ?_⟩
      refine ⟨a, _, _, .int n, rfl, rfl, s1.seq hS, hat, _, hD1, ?_, ?_, ?_⟩
      · rw [List.length_map, List.length_take]
        exact sz40 (by omega)
      · intro b o e
        rw [upd_ne (ne_of_none e hD)]
        exact s1 b o e
      · rw [upd_same, take_next]
        rw [rot_at hi]
        rw [show (i : Int) - t = 0 + (i : Int) - t by omega, getD_at hx]
    · obtain ⟨s1, hD1⟩ := hP
      rw [Int.toNat_natCast, take_all (by rw [rot_len]; exact Nat.le_refl _)] at hD1
      exact q D H1 s1 hD hD1

def spMirroredList (K : PySem.W.Frag) : Sp := spLMirrored K
theorem ok_mirrored_list (T : Txt K mg) : FnOk P w K mg base CX0 1 T.a_mirrored_list T.d_mirrored_list ["items"] (spMirroredList K) := by
  refine T.F_mirrored_list.ok sc_mirrored_list (fun vs H Q E h => ?_) (fun cdv A outer s H vs Q E hr h => ?_)
  · obtain ⟨_, _, rfl, _⟩ := h
    rfl
  · obtain ⟨a, ns, rfl, hS, hn1, hn, q⟩ := h
    refine ⟨_, (pss_cons (ps_set (i := 1) sc_mirrored_list.nd rfl (.inr rfl) (pe_callB (lenL (K := K) rfl) (by rfl) T.n_len (by decide +kernel) (pa_cons (pv 0) pa_nil)))
      (pss_one (ps_ret (pe_lc (own := [("slot", 2)]) (g := gName 2) (tt := tYes) (by rfl) sc_mirrored_list.nd (pi_range1 (by rfl) T.n_range (pa_cons (pv 1) pa_nil)) (blkOk_by (own := [("slot", 2)]) (N := ["items", "size", "slot"]) (sc := defScope s_mirrored_list) (by decide +kernel))
        (fun _ _ _ _ _ => (pg_name (i := 2) sc_mirrored_list.nd rfl (Or.inl rfl))) (fun _ _ _ _ _ => pts_nil) (fun _ _ _ _ _ => (pe_ix (ixL (K := K) rfl) (pv 0) (pe_op op_mod (pe_un un_neg (pv 2)) (pv 1)) (fun _ _ => rfl))))))), ?_⟩
    refine ⟨.ref a, rfl, a, _, rfl, .inl hS, ?_⟩
    rw [List.length_map]
    refine ⟨.int ns.length, rfl, ns.length, rfl, by omega, by omega, fun D hD => lc_range (lo := 0) (n := ((ns.length : Nat) : Int).toNat)
      (fun i H' => Same H H' ∧ H' D = some (.lst (((mir ns).take i).map V.int))) ⟨new_same hD, upd_same⟩ (fun i H1 hi hP => ⟨rfl, ?_⟩) (fun H1 hP => ?_)⟩
    · obtain ⟨s1, hD1⟩ := hP
      rw [Int.toNat_natCast] at hi
      have hm := mod_in (i := -(0 + (i : Int))) (show 0 < ns.length by omega)
      obtain ⟨n, hx, hat⟩ := at_in hm.1 hm.2
      refine ⟨.ref a, rfl, .int (0 + i), rfl, 0 + i, rfl, .int ns.length, rfl, _, _, rfl, rfl, (by show (0 : Int) < _; omega), ?_⟩
      refine ⟨a, _, _, .int n, rfl, rfl, s1.seq hS, hat, _, hD1, ?_, ?_, ?_⟩
      · rw [List.length_map, List.length_take]
        exact sz40 (by omega)
      · intro b o e
        rw [upd_ne (ne_of_none e hD)]
        exact s1 b o e
      · rw [upd_same, take_next]
        rw [mir_at hi]
        rw [show -(i : Int) = -(0 + (i : Int)) by omega, getD_at hx]
    · obtain ⟨s1, hD1⟩ := hP
      rw [Int.toNat_natCast, take_all (by rw [mir_len]; exact Nat.le_refl _)] at hD1
      exact q D H1 s1 hD hD1

/-! ### slitdiscs.checks, over rims -/
def spIsInt : Sp := fun vs H Q _ => ∃ n : Int, vs = [.int n] ∧ Q (.bl true) H
theorem ok_is_integer (T : Txt K mg) : FnOk P w K mg base CX0 1 T.a_is_integer T.d_is_integer ["value"] spIsInt := by
  refine T.F_is_integer.ok sc_is_integer (fun vs H Q E h => ?_) (fun cdv A outer s H vs Q E hr h => ?_)
  · obtain ⟨_, rfl, _⟩ := h
    rfl
  · obtain ⟨n, rfl, q⟩ := h
    refine ⟨_, (pss_one (ps_ret (pe_and (pe_callB (isiL (K := K) rfl) (by rfl) T.n_isinstance (by decide +kernel) (pa_cons (pv 0) (pa_cons (pe_bltn (v := .ty "int") (u := Value.type "int") rfl T.n_int (by decide +kernel) rfl) pa_nil))) (pe_one (pe_not (pe_callB (isiL (K := K) rfl) (by rfl) T.n_isinstance (by decide +kernel) (pa_cons (pv 0) (pa_cons (pe_bltn (v := .ty "bool") (u := Value.type "bool") rfl T.n_bool (by decide +kernel) rfl) pa_nil)))))))), ?_⟩
    refine ⟨.int n, rfl, .int n, .ty "int", _, _, true, rfl, .ty _, .base (.int n), kit_int_int, true, rfl, iteT ?_⟩
    exact ⟨.int n, rfl, .int n, .ty "bool", _, _, false, rfl, .ty _, .base (.int n), kit_int_bool, false, rfl, q⟩
def spHasSlots (K : PySem.W.Frag) : Sp := fun vs H Q _ => ∃ (a : Addr) (xs : List V), vs = [.ref a] ∧ SqL K H a xs ∧ 1 ≤ xs.length ∧ xs.length ≤ 40 ∧ Q (.bl true) H
theorem ok_has_slots (T : Txt K mg) : FnOk P w K mg base CX0 1 T.a_has_slots T.d_has_slots ["value"] (spHasSlots K) := by
  refine T.F_has_slots.ok sc_has_slots (fun vs H Q E h => ?_) (fun cdv A outer s H vs Q E hr h => ?_)
  · obtain ⟨_, _, rfl, _⟩ := h
    rfl
  · obtain ⟨a, xs, rfl, hS, h1, h40, q⟩ := h
    refine ⟨_, (pss_one (ps_ret (pe_and (pe_callB (isiL (K := K) rfl) (by rfl) T.n_isinstance (by decide +kernel) (pa_cons (pv 0) (pa_cons (pe_bltn (v := .ty "list") (u := Value.type "list") rfl T.n_list (by decide +kernel) rfl) pa_nil))) (pe_one (pe_chain op_le op_le pe_int (pe_callB (lenL (K := K) rfl) (by rfl) T.n_len (by decide +kernel) (pa_cons (pv 0) pa_nil)) (pe_glob (v := .int (40)) rfl T.g_MOST_SLOTS ⟨_, rfl⟩)))))), ?_⟩
    refine ⟨.ref a, rfl, .ref a, .ty "list", _, _, true, rfl, .ty _, tyx_list hS, kit_list_list, true, rfl, iteT ?_⟩
    refine ⟨.ref a, rfl, a, _, rfl, .inl hS, 1, _, rfl, rfl, _, rfl, ?_⟩
    rw [if_pos (decide_eq_true (by omega))]
    refine ⟨_, 40, rfl, rfl, ?_⟩
    show Q (.bl (decide ((xs.length : Int) ≤ 40))) H
    rw [decide_eq_true (show (xs.length : Int) ≤ 40 by omega)]
    exact q
def spWrongLight (K : PySem.W.Frag) : Sp := fun vs H Q _ => ∃ (a : Addr) (ns : List Int) (m : Int), vs = [.ref a, .int m] ∧ SqL K H a (ns.map V.int) ∧ (∀ n ∈ ns, 0 ≤ n ∧ n ≤ m) ∧ ∀ H', Same H H' → Q .non H'
theorem ok_wrong_light (T : Txt K mg) : FnOk P w K mg base CX0 2 T.a_wrong_light T.d_wrong_light ["items", "most"] (spWrongLight K) := by
  have G_is_integer := ok_is_integer (P := P) (w := w) (base := base) T
  refine T.F_wrong_light.ok sc_wrong_light (fun vs H Q E h => ?_) (fun cdv A outer s H vs Q E hr h => ?_)
  · obtain ⟨_, _, _, rfl, _⟩ := h
    rfl
  · obtain ⟨a, ns, m, rfl, hS, hR, q⟩ := h
    refine ⟨_, (pss_cons (ps_for PassesOwn.never rfl (enumL (K := K) rfl (by rfl) T.n_enumerate (pa_cons (pv 0) pa_nil)) (pg_tupL (K := K) (n := 2) rfl rfl (pgs_cons (pg_name (i := 2) sc_wrong_light.nd rfl (.inl rfl)) (pgs_cons (pg_name (i := 3) sc_wrong_light.nd rfl (.inl rfl)) pgs_nil))) (pss_one (ps_if (PW.pt (pw_or (pt_not (pt_val (pe_call G_is_integer hr (by rfl) T.g_is_integer T.F_is_integer.kp T.b_is_integer .nil pass0 (pa_cons (pv 3) pa_nil)))) (pw_or1 (pt_not (pt_chain op_le op_le pe_int (pv 3) (pv 1)))))) (pss_one (ps_ret (pv 2))) pss_nil)))
      (pss_one (ps_ret pe_non))), ?_⟩
    refine ⟨.ref a, rfl, a, _, rfl, hS, for_it (walk_enum (K := K) (xs := ns.map V.int)) (fun i σ H' => ∃ y1 y2 : Option V, σ = [some (.ref a), some (.int m), y1, y2] ∧ Same H H')
      ⟨none, none, rfl, Same.refl H⟩ (fun i σ H' _ ⟨_, _, _, s2⟩ => s2.seq hS) (fun i x σ H1 H2 hi hP hY => ?_) (fun σ H1 hP => ?_)⟩
    · obtain ⟨y1, y2, rfl, s1⟩ := hP
      obtain ⟨p, z1, z2, rfl, hp, rfl, e1, e2⟩ := hY
      obtain ⟨n, hn, rfl⟩ := int_at e2
      have hb := hR n (List.mem_of_getElem? hn)
      refine ⟨p, _, rfl, SqT.of upd_same, rfl, _, _, rfl, _, _, rfl, rfl, ?_⟩
      refine ⟨.int n, rfl, n, rfl, true, rfl, iteF ?_⟩
      refine ⟨.int n, rfl, 0, n, rfl, rfl, _, rfl, ?_⟩
      rw [if_pos (decide_eq_true hb.1)]
      refine ⟨.int m, rfl, n, m, rfl, rfl, _, rfl, iteNS hb.2 ?_⟩
      exact ⟨_, _, rfl, s1.trans (new_same hp)⟩
    · obtain ⟨y1, y2, rfl, s1⟩ := hP
      exact q H1 s1
def spWrongSlot (K : PySem.W.Frag) : Sp := fun vs H Q _ => ∃ (a : Addr) (ns : List Int), vs = [.ref a] ∧ SqL K H a (ns.map V.int) ∧ Rim ns ∧ ∀ H', Same H H' → Q .non H'
theorem ok_wrong_slot (T : Txt K mg) : FnOk P w K mg base CX0 3 T.a_wrong_slot T.d_wrong_slot ["items"] (spWrongSlot K) := by
  have G_wrong_light := ok_wrong_light (P := P) (w := w) (base := base) T
  refine T.F_wrong_slot.ok sc_wrong_slot (fun vs H Q E h => ?_) (fun cdv A outer s H vs Q E hr h => ?_)
  · obtain ⟨_, _, rfl, _⟩ := h
    rfl
  · obtain ⟨a, ns, rfl, hS, hR, q⟩ := h
    refine ⟨_, (pss_one (ps_ret (pe_call G_wrong_light hr (by rfl) T.g_wrong_light T.F_wrong_light.kp T.b_wrong_light .nil pass0 (pa_cons (pv 0) (pa_cons (pe_glob (v := .int (1000000000000000000000000000000)) rfl T.g_MOST_LIGHT ⟨_, rfl⟩) pa_nil))))), ?_⟩
    exact ⟨.ref a, rfl, a, ns, _, rfl, hS, hR.all, q⟩
def spCheckDisc (K : PySem.W.Frag) : Sp := spWrongSlot K
theorem ok_check_disc (T : Txt K mg) : FnOk P w K mg base CX0 4 T.a_check_disc T.d_check_disc ["disc"] (spCheckDisc K) := by
  have G_has_slots := ok_has_slots (P := P) (w := w) (base := base) T
  have G_wrong_slot := ok_wrong_slot (P := P) (w := w) (base := base) T
  refine T.F_check_disc.ok sc_check_disc (fun vs H Q E h => ?_) (fun cdv A outer s H vs Q E hr h => ?_)
  · obtain ⟨_, _, rfl, _⟩ := h
    rfl
  · obtain ⟨a, ns, rfl, hS, hR, q⟩ := h
    refine ⟨_, (pss_cons (ps_if (pt_not (pt_val (pe_call G_has_slots (hr.mono (by decide)) (by rfl) T.g_has_slots T.F_has_slots.kp T.b_has_slots .nil pass0 (pa_cons (pv 0) pa_nil)))) (pss_one ps_never) pss_nil)
      (pss_cons (ps_set (i := 1) sc_check_disc.nd rfl (.inl rfl) (pe_call G_wrong_slot hr (by rfl) T.g_wrong_slot T.F_wrong_slot.kp T.b_wrong_slot .nil pass0 (pa_cons (pv 0) pa_nil)))
      (pss_one (ps_if (pt_cmpR op_notN (pv 1) pe_non (nomark _)) (pss_one ps_never) pss_nil)))), ?_⟩
    refine ⟨.ref a, rfl, a, _, rfl, hS, by rw [List.length_map]; exact hR.pos, by rw [List.length_map]; exact hR.le, true, rfl, iteF ?_⟩
    refine ⟨.ref a, rfl, a, ns, rfl, hS, hR, fun H1 s1 => ?_⟩
    refine ⟨.non, rfl, rfl, _, rfl, iteNS rfl ?_⟩
    exact q H1 s1

def spCheckTurn : Sp := fun vs H Q _ => ∃ n : Int, vs = [.int n] ∧ Q .non H
theorem ok_check_turn (T : Txt K mg) : FnOk P w K mg base CX0 2 T.a_check_turn T.d_check_turn ["turn"] spCheckTurn := by
  have G_is_integer := ok_is_integer (P := P) (w := w) (base := base) T
  refine T.F_check_turn.ok sc_check_turn (fun vs H Q E h => ?_) (fun cdv A outer s H vs Q E hr h => ?_)
  · obtain ⟨_, rfl, _⟩ := h
    rfl
  · obtain ⟨n, rfl, q⟩ := h
    refine ⟨_, (pss_one (ps_if (pt_not (pt_val (pe_call G_is_integer hr (by rfl) T.g_is_integer T.F_is_integer.kp T.b_is_integer .nil pass0 (pa_cons (pv 0) pa_nil)))) (pss_one ps_never) pss_nil)), ?_⟩
    exact ⟨.int n, rfl, n, rfl, true, rfl, iteF q⟩

def spCheckDiscs (K : PySem.W.Frag) : Sp := fun vs H Q _ => ∃ (a b : Addr) (ns ms : List Int), vs = [.ref a, .ref b] ∧ SqL K H a (ns.map V.int) ∧ SqL K H b (ms.map V.int) ∧ Rim ns ∧ Rim ms ∧ ns.length = ms.length ∧ ∀ H', Same H H' → Q .non H'
theorem ok_check_discs (T : Txt K mg) : FnOk P w K mg base CX0 5 T.a_check_discs T.d_check_discs ["disc", "other"] (spCheckDiscs K) := by
  have G_check_disc := ok_check_disc (P := P) (w := w) (base := base) T
  refine T.F_check_discs.ok sc_check_discs (fun vs H Q E h => ?_) (fun cdv A outer s H vs Q E hr h => ?_)
  · obtain ⟨_, _, _, _, rfl, _⟩ := h
    rfl
  · obtain ⟨a, b, ns, ms, rfl, hS, hS2, hR, hR2, hl, q⟩ := h
    refine ⟨_, (pss_cons (ps_expr (pe_call G_check_disc hr (by rfl) T.g_check_disc T.F_check_disc.kp T.b_check_disc .nil pass0 (pa_cons (pv 0) pa_nil)))
      (pss_cons (ps_expr (pe_call G_check_disc hr (by rfl) T.g_check_disc T.F_check_disc.kp T.b_check_disc .nil pass0 (pa_cons (pv 1) pa_nil)))
      (pss_one (ps_if (pt_cmpR op_ne (pe_callB (lenL (K := K) rfl) (by rfl) T.n_len (by decide +kernel) (pa_cons (pv 1) pa_nil)) (pe_callB (lenL (K := K) rfl) (by rfl) T.n_len (by decide +kernel) (pa_cons (pv 0) pa_nil)) (nomark _)) (pss_one ps_never) pss_nil)))), ?_⟩
    refine ⟨.ref a, rfl, a, ns, rfl, hS, hR, fun H1 s1 => ?_⟩
    refine ⟨.ref b, rfl, b, ms, rfl, s1.seq hS2, hR2, fun H2 s2 => ?_⟩
    refine ⟨.ref b, rfl, b, _, rfl, .inl ((s1.trans s2).seq hS2), .ref a, rfl, a, _, rfl, .inl ((s1.trans s2).seq hS), rfl, _, rfl, iteNS ?_ ?_⟩
    · rw [List.length_map, List.length_map, hl]
    · exact q H2 (s1.trans s2)

/-! ### lights -/
def spLight (K : PySem.W.Frag) : Sp := fun vs H Q _ => ∃ (a b : Addr) (ns ms : List Int) (t : Int), vs = [.ref a, .ref b, .int t] ∧ SqL K H a (ns.map V.int) ∧ SqL K H b (ms.map V.int) ∧
  ns.length = ms.length ∧ 1 ≤ ns.length ∧ ns.length ≤ 40 ∧ Ab 100 ns ∧ Ab 400 ms ∧ ∀ H', Same H H' → Q (.int (lightV ns ms t)) H'
theorem ok_light_between (T : Txt K mg) : FnOk P w K mg base CX0 2 T.a_light_between T.d_light_between ["disc", "row", "turn"] (spLight K) := by
  have G_turned_list := ok_turned_list (P := P) (w := w) (base := base) T
  refine T.F_light_between.ok sc_light_between (fun vs H Q E h => ?_) (fun cdv A outer s H vs Q E hr h => ?_)
  · obtain ⟨_, _, _, _, _, rfl, _⟩ := h
    rfl
  · obtain ⟨a, b, ns, ms, t, rfl, hS, hS2, hl, h1, h40, hA, hB, q⟩ := h
    refine ⟨_, (pss_one (ps_ret (pe_callB (sumL (K := K) rfl rfl) (by rfl) T.n_sum (by decide +kernel) (pa_cons (pe_lc (own := [("under", 3), ("over", 4)]) (tt := tYes) (by rfl) sc_light_between.nd (zipL (K := K) rfl (by rfl) T.n_zip (pa_cons (pv 0) (pa_cons (pe_call G_turned_list hr (by rfl) T.g_turned_list T.F_turned_list.kp T.b_turned_list .nil pass0 (pa_cons (pv 1) (pa_cons (pv 2) pa_nil))) pa_nil))) (blkOk_by (own := [("under", 3), ("over", 4)]) (N := ["disc", "row", "turn", "under", "over"]) (sc := defScope s_light_between) (by decide +kernel))
        (fun _ _ _ _ _ => (pg_tupL (K := K) (n := 2) rfl rfl (pgs_cons (pg_name (i := 3) sc_light_between.nd rfl (.inl rfl)) (pgs_cons (pg_name (i := 4) sc_light_between.nd rfl (.inl rfl)) pgs_nil)))) (fun _ _ _ _ _ => pts_nil) (fun _ _ _ _ _ => (pe_op op_mulW (pv 3) (pv 4)))) pa_nil)))), ?_⟩
    refine ⟨.ref a, rfl, .ref b, rfl, .int t, rfl, b, ms, t, rfl, hS2, by omega, by omega, fun l H1 s1 hl0 hl1 => ?_⟩
    refine ⟨a, l, _, _, rfl, s1.seq hS, SqL.of hl1, fun D hD => ?_⟩
    refine lc_it (walk_zip (K := K) (a := a) (b := l) (xs := ns.map V.int) (ys := (rot ms t).map V.int) (n := ns.length) (by rw [List.length_map, List.length_map, rot_len]; omega))
      (fun i H' => Same H1 H' ∧ H' D = some (.lst (((prods ns (rot ms t)).take i).map V.int))) ⟨new_same hD, upd_same⟩ (fun i H' _ hP => ⟨hP.1.seq (s1.seq hS), hP.1.seq (SqL.of hl1)⟩) (fun i x H2 H3 hi hP hY => ?_) (fun H2 hP => ?_)
    · obtain ⟨s2, hD2⟩ := hP
      obtain ⟨p, z1, z2, rfl, hp, rfl, e1, e2⟩ := hY
      obtain ⟨x, hx, rfl⟩ := int_at e1
      obtain ⟨y, hy, rfl⟩ := int_at e2
      refine ⟨p, _, rfl, SqT.of upd_same, rfl, _, _, rfl, _, _, rfl, rfl, rfl, ?_⟩
      refine ⟨.int x, rfl, .int y, rfl, x, y, rfl, rfl, wide_mul (hA.at hx) ((hB.rot t).at hy) (by decide) (by decide) (by decide), ?_⟩
      have s3 := s2.trans (new_same (o := .tup [.int x, .int y]) hp)
      refine ⟨_, (new_same hp) _ _ hD2, ?_, same_over s3 hD, ?_⟩
      · rw [List.length_map, List.length_take]
        exact sz40 (by omega)
      · rw [upd_same, take_next (prods_at hx hy)]
    · obtain ⟨s2, hD2⟩ := hP
      rw [take_all (by rw [prods_len, rot_len]; omega)] at hD2
      exact ⟨D, _, rfl, SqL.of hD2, q H2 (s1.trans s2)⟩

/-! ### slitdiscs.live -/
def spBetween : Sp := fun vs H Q _ => ∃ n lo hi : Int, vs = [.int n, .int lo, .int hi] ∧ lo ≤ n ∧ n ≤ hi ∧ Q .non H
theorem ok_check_between (T : Txt K mg) : FnOk P w K mg base CX0 2 T.a_check_between T.d_check_between ["number", "least", "most"] spBetween := by
  have G_is_integer := ok_is_integer (P := P) (w := w) (base := base) T
  refine T.F_check_between.ok sc_check_between (fun vs H Q E h => ?_) (fun cdv A outer s H vs Q E hr h => ?_)
  · obtain ⟨_, _, _, rfl, _⟩ := h
    rfl
  · obtain ⟨n, lo, hi, rfl, h1, h2, q⟩ := h
    refine ⟨_, (pss_one (ps_if (PW.pt (pw_or (pt_not (pt_val (pe_call G_is_integer hr (by rfl) T.g_is_integer T.F_is_integer.kp T.b_is_integer .nil pass0 (pa_cons (pv 0) pa_nil)))) (pw_or1 (pt_not (pt_chain op_le op_le (pv 1) (pv 0) (pv 2)))))) (pss_one ps_never) pss_nil)), ?_⟩
    refine ⟨.int n, rfl, n, rfl, true, rfl, iteF ?_⟩
    refine ⟨.int lo, rfl, .int n, rfl, lo, n, rfl, rfl, _, rfl, ?_⟩
    rw [if_pos (decide_eq_true h1)]
    exact ⟨.int hi, rfl, n, hi, rfl, rfl, _, rfl, iteNS h2 q⟩
def spSlotIn : Sp := fun vs H Q _ => ∃ n hi : Int, vs = [.int n, .int hi] ∧ 0 ≤ n ∧ n < hi ∧ Q .non H
theorem ok_check_slot (T : Txt K mg) : FnOk P w K mg base CX0 2 T.a_check_slot T.d_check_slot ["slot", "slots"] spSlotIn := by
  have G_is_integer := ok_is_integer (P := P) (w := w) (base := base) T
  refine T.F_check_slot.ok sc_check_slot (fun vs H Q E h => ?_) (fun cdv A outer s H vs Q E hr h => ?_)
  · obtain ⟨_, _, rfl, _⟩ := h
    rfl
  · obtain ⟨n, hi, rfl, h1, h2, q⟩ := h
    refine ⟨_, (pss_one (ps_if (PW.pt (pw_or (pt_not (pt_val (pe_call G_is_integer hr (by rfl) T.g_is_integer T.F_is_integer.kp T.b_is_integer .nil pass0 (pa_cons (pv 0) pa_nil)))) (pw_or1 (pt_not (pt_chain op_le op_lt pe_int (pv 0) (pv 1)))))) (pss_one ps_never) pss_nil)), ?_⟩
    refine ⟨.int n, rfl, n, rfl, true, rfl, iteF ?_⟩
    refine ⟨.int n, rfl, 0, n, rfl, rfl, _, rfl, ?_⟩
    rw [if_pos (decide_eq_true h1)]
    exact ⟨.int hi, rfl, n, hi, rfl, rfl, _, rfl, iteNS h2 q⟩
abbrev lfs (D S L : Addr) : List (Str × V) := putF "_log" (.ref L) (putF "_states" (.ref S) (putF "_disc" (.ref D) []))
def spInit (K : PySem.W.Frag) (C : Addr) : Sp := fun vs H Q _ => ∃ (p dx a b : Addr) (ns ms : List Int) (Z : Addr → Prop), vs = [.ref p, .ref a, .ref b] ∧ H p = some (.ins C dx []) ∧ H a = some (.lst (ns.map V.int)) ∧ H b = some (.lst (ms.map V.int)) ∧ Rim ns ∧ Rim ms ∧ ns.length = ms.length ∧
  (∀ z, Z z → H z ≠ none) ∧ ¬ Z p ∧ ∀ (D S L : Addr) (H' : Hp), LiveAt C Z H' p D S L ns [(ms, 0)] [] → (∀ b x, H b = some x → b ≠ p → H' b = some x) → Q .non H'
theorem ok_LiveDiscs_init (T : Txt K mg) : FnOk P w K mg base CX0 6 T.a_LiveDiscs_init T.d_LiveDiscs_init ["self", "disc", "other"] (spInit K T.C_LiveDiscs) := by
  have G_check_discs := ok_check_discs (P := P) (w := w) (base := base) T
  refine T.F_LiveDiscs_init.ok sc_LiveDiscs_init (fun vs H Q E h => ?_) (fun cdv A outer s H vs Q E hr h => ?_)
  · obtain ⟨_, _, _, _, _, _, _, rfl, _⟩ := h
    rfl
  · obtain ⟨p, dx, a, b, ns, ms, Z, rfl, hp, hS, hS2, hR, hR2, hl, hz, h0p, q⟩ := h
    have h0 : ∀ c, H c = none → ¬ Z c := fun c e z => hz c z e
    refine ⟨_, (pss_cons (ps_expr (pe_call G_check_discs hr (by rfl) T.g_check_discs T.F_check_discs.kp T.b_check_discs .nil pass0 (pa_cons (pv 1) (pa_cons (pv 2) pa_nil))))
      (pss_cons (ps_fld (pv 0) (pe_callTy (listL (K := K) rfl) (by rfl) T.n_list (by decide +kernel) (pa_cons (pv 1) pa_nil)) rfl)
      (pss_cons (ps_fld (pv 0) (pe_lst (pa_cons (pe_tup (pa_cons (pe_callTy (listL (K := K) rfl) (by rfl) T.n_list (by decide +kernel) (pa_cons (pv 2) pa_nil)) (pa_cons pe_int pa_nil))) pa_nil)) rfl)
      (pss_one (ps_fld (pv 0) (pe_lst pa_nil) rfl))))), ?_⟩
    have npb : p ≠ b := fun z => by
      rw [z, hS2] at hp
      cases hp
    refine ⟨.ref a, rfl, .ref b, rfl, a, b, ns, ms, rfl, SqL.of hS, SqL.of hS2, hR, hR2, hl, fun H1 s1 => ?_⟩
    have p1 := s1 _ _ hp
    have b1 := s1 _ _ hS2
    refine ⟨.ref a, rfl, a, _, rfl, .inl (SqL.of (s1 _ _ hS)), fun D fD => ?_⟩
    have d2 := new_same (o := .lst (ns.map V.int)) fD
    have s2 := s1.trans d2
    have gD : (upd H1 D (.lst (ns.map V.int))) D = some (.lst (ns.map V.int)) := upd_same
    have p2 := d2 _ _ p1
    have b2 := d2 _ _ b1
    have fD0 := h0 _ (none_back s1 fD)
    have nD := ne_of_none p1 fD
    generalize upd H1 D (.lst (ns.map V.int)) = H2 at s2 gD p2 b2 ⊢
    clear d2
    refine ⟨.ref p, rfl, p, T.C_LiveDiscs, dx, [], rfl, p2, T.cl_LiveDiscs, T.x_LiveDiscs_disc, (by show 0 < 1000; decide), ?_⟩
    have k3 : ∀ c x, H2 c = some x → c ≠ p → (upd H2 p (.ins T.C_LiveDiscs dx (putF "_disc" (.ref D) []))) c = some x := fun c x e n => by rw [upd_ne n]; exact e
    have p3 : (upd H2 p (.ins T.C_LiveDiscs dx (putF "_disc" (.ref D) []))) p = some (.ins T.C_LiveDiscs dx (putF "_disc" (.ref D) [])) := upd_same
    have g3 := k3 _ _ gD nD.symm
    have b3 := k3 _ _ b2 npb.symm
    have n3 : ∀ c, (upd H2 p (.ins T.C_LiveDiscs dx (putF "_disc" (.ref D) []))) c = none → H2 c = none := fun c e => by
      by_cases z : c = p
      · rw [z, upd_same] at e
        cases e
      · rwa [upd_ne z] at e
    generalize upd H2 p (.ins T.C_LiveDiscs dx (putF "_disc" (.ref D) [])) = H3 at k3 p3 g3 n3 b3 ⊢
    have fr : ∀ c, H3 c = none → ¬ Z c := fun c e => h0 _ (none_back s2 (n3 _ e))
    refine ⟨.ref b, rfl, b, _, rfl, .inl (SqL.of b3), fun O fO => ⟨(by show 2 ≤ sizeLine; decide), fun t ft => ⟨(by show 1 ≤ sizeLine; decide), fun S fS => ?_⟩⟩⟩
    have d1 := new_same (o := .lst (ms.map V.int)) fO
    have d2 := new_same (o := .tup [.ref O, .int 0]) ft
    have d3 := new_same (o := .lst [.ref t]) fS
    have d13 := (d1.trans d2).trans d3
    have gO := d3 _ _ (d2 _ _ (upd_same (H := H3) (a := O) (o := .lst (ms.map V.int))))
    have gt := d3 _ _ (upd_same (H := upd H3 O (.lst (ms.map V.int))) (a := t) (o := .tup [.ref O, .int 0]))
    have gS : (upd (upd (upd H3 O (.lst (ms.map V.int))) t (.tup [.ref O, .int 0])) S (.lst [.ref t])) S = some (.lst [.ref t]) := upd_same
    have p4 := d13 _ _ p3
    have g4 := d13 _ _ g3
    have O0 := fr _ fO
    have t0 := fr _ (none_back d1 ft)
    have S0 := fr _ (none_back (d1.trans d2) fS)
    have nOS : O ≠ S := ne_of_none (d2 _ _ (upd_same (H := H3) (a := O) (o := .lst (ms.map V.int)))) fS
    have nDS : D ≠ S := ne_of_none ((d1.trans d2) _ _ g3) fS
    have pS := ne_of_none ((d1.trans d2) _ _ p3) fS
    have pt := ne_of_none (d1 _ _ p3) ft
    have pO := ne_of_none p3 fO
    generalize upd (upd (upd H3 O (.lst (ms.map V.int))) t (.tup [.ref O, .int 0])) S (.lst [.ref t]) = H4 at d13 gO gt gS p4 g4 ⊢
    clear d1 d2 d3 fO ft fS
    refine ⟨.ref p, rfl, p, T.C_LiveDiscs, dx, _, rfl, p4, T.cl_LiveDiscs, T.x_LiveDiscs_states, (by show 1 < 1000; decide), ?_⟩
    have k5 : ∀ c x, H4 c = some x → c ≠ p → (upd H4 p (.ins T.C_LiveDiscs dx (putF "_states" (.ref S) (putF "_disc" (.ref D) [])))) c = some x := fun c x e n => by rw [upd_ne n]; exact e
    have p5 : (upd H4 p (.ins T.C_LiveDiscs dx (putF "_states" (.ref S) (putF "_disc" (.ref D) [])))) p = some (.ins T.C_LiveDiscs dx (putF "_states" (.ref S) (putF "_disc" (.ref D) []))) := upd_same
    have O5 := k5 _ _ gO pO.symm
    have t5 := k5 _ _ gt pt.symm
    have S5 := k5 _ _ gS pS.symm
    have D5 := k5 _ _ g4 nD.symm
    have n5 : ∀ c, (upd H4 p (.ins T.C_LiveDiscs dx (putF "_states" (.ref S) (putF "_disc" (.ref D) [])))) c = none → H4 c = none := fun c e => by
      by_cases z : c = p
      · rw [z, upd_same] at e
        cases e
      · rwa [upd_ne z] at e
    generalize upd H4 p (.ins T.C_LiveDiscs dx (putF "_states" (.ref S) (putF "_disc" (.ref D) []))) = H5 at k5 p5 O5 t5 S5 D5 n5 ⊢
    refine ⟨(by show 0 ≤ sizeLine; decide), fun L fL => ?_⟩
    have d5 := new_same (o := .lst []) fL
    have L6 : (upd H5 L (.lst [])) L = some (.lst []) := upd_same
    have L0 := fr _ (none_back d13 (n5 _ fL))
    have nDL : D ≠ L := ne_of_none D5 fL
    have nSL : S ≠ L := ne_of_none S5 fL
    have nOL : O ≠ L := ne_of_none O5 fL
    have npL : p ≠ L := ne_of_none p5 fL
    have p6 := d5 _ _ p5
    have O6 := d5 _ _ O5
    have t6 := d5 _ _ t5
    have S6 := d5 _ _ S5
    have D6 := d5 _ _ D5
    generalize upd H5 L (.lst []) = H6 at d5 p6 O6 t6 S6 D6 L6 ⊢
    refine ⟨.ref p, rfl, p, T.C_LiveDiscs, dx, _, rfl, p6, T.cl_LiveDiscs, T.x_LiveDiscs_log, (by show 2 < 1000; decide), ?_⟩
    have k7 : ∀ c x, H6 c = some x → c ≠ p → (upd H6 p (.ins T.C_LiveDiscs dx (lfs D S L))) c = some x := fun c x e n => by rw [upd_ne n]; exact e
    refine q D S L _ ⟨⟨dx, upd_same⟩, k7 _ _ D6 nD.symm, ⟨_, k7 _ _ S6 pS.symm, .cons (k7 _ _ t6 pt.symm) (k7 _ _ O6 pO.symm) t0 O0 nOS nOL .nil⟩, ⟨_, k7 _ _ L6 npL.symm, .nil⟩, fD0, S0, L0, h0p, nDS, nDL, nSL, hR, fun s hs => ?_, fun c hc => (List.not_mem_nil hc).elim, rfl, Nat.zero_le _, fun z y => stay_some (hz z y) fun x e => k7 _ _ (d5 _ _ (k5 _ _ (d13 _ _ (k3 _ _ (s2 _ _ e) (fun n => h0p (n ▸ y)))) (fun n => h0p (n ▸ y)))) (fun n => h0p (n ▸ y))⟩ fun c x e n => ?_
    · rw [List.mem_singleton.mp hs]
      exact ⟨hR2, hl.symm, Int.le_refl _, by have := hR.pos; show (0 : Int) < (ns.length : Int); omega⟩
    · exact k7 _ _ (d5 _ _ (k5 _ _ (d13 _ _ (k3 _ _ (s2 _ _ e) n)) n)) n
/-! the getters -/
def spGet (K : PySem.W.Frag) (C : Addr) (f : List Int → List LS → List LC → Hp → Hp → V → Prop) : Sp := fun vs H Q _ => ∃ (Z : Addr → Prop) (p D S L : Addr) (ns : List Int) (ss : List LS) (cs : List LC) (s : LS), vs = [.ref p] ∧ LiveAt C Z H p D S L ns (ss ++ [s]) cs ∧
  ∀ (v : V) (H' : Hp), Same H H' → f ns (ss ++ [s]) cs H H' v → Q v H'
def gDisc : List Int → List LS → List LC → Hp → Hp → V → Prop := fun ns _ _ H H' v => ∃ l, v = .ref l ∧ H l = none ∧ H' l = some (.lst (ns.map V.int))
def gOther : List Int → List LS → List LC → Hp → Hp → V → Prop := fun _ ss _ H H' v => ∃ l ss0 s, ss = ss0 ++ [s] ∧ v = .ref l ∧ H l = none ∧ H' l = some (.lst (s.1.map V.int))
def gTurn : List Int → List LS → List LC → Hp → Hp → V → Prop := fun _ ss _ H H' v => ∃ ss0 s, ss = ss0 ++ [s] ∧ v = .int s.2
def gLight : List Int → List LS → List LC → Hp → Hp → V → Prop := fun ns ss _ H H' v => ∃ ss0 s, ss = ss0 ++ [s] ∧ v = .int (lightV ns s.1 s.2)
def gLog : List Int → List LS → List LC → Hp → Hp → V → Prop := fun _ _ cs H H' v => ∃ l ws, v = .ref l ∧ H l = none ∧ H' l = some (.lst ws) ∧ ClsAt (fun _ => False) H' ws cs
def gLen : List Int → List LS → List LC → Hp → Hp → V → Prop := fun _ _ cs H H' v => v = .int cs.length
theorem ClsAt.any {Z : Addr → Prop} {H : Hp} {us : List V} {cs : List LC} (h : ClsAt Z H us cs) : ClsAt (fun _ => False) H us cs := by
  induction h with
  | nil => exact .nil
  | cons h _ _ ih => exact .cons h (fun z => z) ih
theorem ok_LiveDiscs_disc (T : Txt K mg) : FnOk P w K mg base CX0 1 T.a_LiveDiscs_disc T.d_LiveDiscs_disc ["self"] (spGet K T.C_LiveDiscs gDisc) := by
  refine T.F_LiveDiscs_disc.ok sc_LiveDiscs_disc (fun vs H Q E h => ?_) (fun cdv A outer s H vs Q E hr h => ?_)
  · obtain ⟨_, _, _, _, _, _, _, _, _, rfl, _⟩ := h
    rfl
  · obtain ⟨Z, p, D, S, L, ns, ss, cs, s, rfl, hL, q⟩ := h
    obtain ⟨dx, e0⟩ := hL.ob
    refine ⟨_, (pss_one (ps_ret (pe_callTy (listL (K := K) rfl) (by rfl) T.n_list (by decide +kernel) (pa_cons (pe_fld (pv 0) rfl) pa_nil)))), ?_⟩
    refine ⟨.ref p, rfl, p, T.C_LiveDiscs, dx, _, _, rfl, e0, T.cl_LiveDiscs, T.x_LiveDiscs_disc, lf_disc, D, _, rfl, .inl (SqL.of hL.gD), fun l hl => ?_⟩
    exact q _ _ (new_same hl) ⟨l, rfl, hl, upd_same⟩
theorem ok_LiveDiscs_other (T : Txt K mg) : FnOk P w K mg base CX0 1 T.a_LiveDiscs_other T.d_LiveDiscs_other ["self"] (spGet K T.C_LiveDiscs gOther) := by
  refine T.F_LiveDiscs_other.ok sc_LiveDiscs_other (fun vs H Q E h => ?_) (fun cdv A outer s H vs Q E hr h => ?_)
  · obtain ⟨_, _, _, _, _, _, _, _, _, rfl, _⟩ := h
    rfl
  · obtain ⟨Z, p, D, S, L, ns, ss, cs, s, rfl, hL, q⟩ := h
    obtain ⟨dx, e0⟩ := hL.ob
    obtain ⟨us, gS, rS⟩ := hL.gS
    obtain ⟨t, o, hat, et, eo, _⟩ := rS.last
    refine ⟨_, (pss_one (ps_ret (pe_callTy (listL (K := K) rfl) (by rfl) T.n_list (by decide +kernel) (pa_cons (pe_ix (ixTL (K := K) rfl) (pe_ix (ixL (K := K) rfl) (pe_fld (pv 0) rfl) (pe_un un_neg pe_int) (fun _ _ => rfl)) pe_int (fun _ _ => rfl)) pa_nil)))), ?_⟩
    refine ⟨.ref p, rfl, p, T.C_LiveDiscs, dx, _, _, rfl, e0, T.cl_LiveDiscs, T.x_LiveDiscs_states, lf_states, 1, rfl, S, _, _, .ref t, rfl, rfl, SqL.of gS, hat, t, _, 0, .ref o, rfl, rfl, SqT.of et, rfl, o, _, rfl, .inl (SqL.of eo), fun l hl => ?_⟩
    exact q _ _ (new_same hl) ⟨l, _, _, rfl, rfl, hl, upd_same⟩
theorem ok_LiveDiscs_turn (T : Txt K mg) : FnOk P w K mg base CX0 1 T.a_LiveDiscs_turn T.d_LiveDiscs_turn ["self"] (spGet K T.C_LiveDiscs gTurn) := by
  refine T.F_LiveDiscs_turn.ok sc_LiveDiscs_turn (fun vs H Q E h => ?_) (fun cdv A outer s H vs Q E hr h => ?_)
  · obtain ⟨_, _, _, _, _, _, _, _, _, rfl, _⟩ := h
    rfl
  · obtain ⟨Z, p, D, S, L, ns, ss, cs, s, rfl, hL, q⟩ := h
    obtain ⟨dx, e0⟩ := hL.ob
    obtain ⟨us, gS, rS⟩ := hL.gS
    obtain ⟨t, o, hat, et, eo, _⟩ := rS.last
    refine ⟨_, (pss_one (ps_ret (pe_ix (ixTL (K := K) rfl) (pe_ix (ixL (K := K) rfl) (pe_fld (pv 0) rfl) (pe_un un_neg pe_int) (fun _ _ => rfl)) pe_int (fun _ _ => rfl)))), ?_⟩
    refine ⟨.ref p, rfl, p, T.C_LiveDiscs, dx, _, _, rfl, e0, T.cl_LiveDiscs, T.x_LiveDiscs_states, lf_states, 1, rfl, S, _, _, .ref t, rfl, rfl, SqL.of gS, hat, t, _, 1, .int s.2, rfl, rfl, SqT.of et, rfl, ?_⟩
    exact q _ _ (Same.refl H) ⟨_, _, rfl, rfl⟩
theorem ok_LiveDiscs_light (T : Txt K mg) : FnOk P w K mg base CX0 3 T.a_LiveDiscs_light T.d_LiveDiscs_light ["self"] (spGet K T.C_LiveDiscs gLight) := by
  have G_light_between := ok_light_between (P := P) (w := w) (base := base) T
  refine T.F_LiveDiscs_light.ok sc_LiveDiscs_light (fun vs H Q E h => ?_) (fun cdv A outer s H vs Q E hr h => ?_)
  · obtain ⟨_, _, _, _, _, _, _, _, _, rfl, _⟩ := h
    rfl
  · obtain ⟨Z, p, D, S, L, ns, ss, cs, s, rfl, hL, q⟩ := h
    obtain ⟨dx, e0⟩ := hL.ob
    obtain ⟨us, gS, rS⟩ := hL.gS
    obtain ⟨t, o, hat, et, eo, _⟩ := rS.last
    obtain ⟨oR, ol, _⟩ := hL.sok s (List.mem_append_right _ List.mem_cons_self)
    refine ⟨_, (pss_cons (ps_asg (pe_ix (ixL (K := K) rfl) (pe_fld (pv 0) rfl) (pe_un un_neg pe_int) (fun _ _ => rfl)) (pg_tupL (K := K) (n := 2) rfl rfl (pgs_cons (pg_name (i := 1) sc_LiveDiscs_light.nd rfl (.inl rfl)) (pgs_cons (pg_name (i := 2) sc_LiveDiscs_light.nd rfl (.inl rfl)) pgs_nil))))
      (pss_one (ps_ret (pe_call G_light_between hr (by rfl) T.g_light_between T.F_light_between.kp T.b_light_between .nil pass0 (pa_cons (pe_fld (pv 0) rfl) (pa_cons (pv 1) (pa_cons (pv 2) pa_nil))))))), ?_⟩
    refine ⟨.ref p, rfl, p, T.C_LiveDiscs, dx, _, _, rfl, e0, T.cl_LiveDiscs, T.x_LiveDiscs_states, lf_states, 1, rfl, S, _, _, .ref t, rfl, rfl, SqL.of gS, hat, t, _, rfl, SqT.of et, rfl, _, _, rfl, _, _, rfl, rfl, ?_⟩
    refine ⟨.ref p, rfl, p, T.C_LiveDiscs, dx, _, _, rfl, e0, T.cl_LiveDiscs, T.x_LiveDiscs_disc, lf_disc, ?_⟩
    refine ⟨.ref o, rfl, .int s.2, rfl, D, o, ns, s.1, s.2, rfl, SqL.of hL.gD, SqL.of eo, ol.symm, hL.rim.pos, hL.rim.le, hL.rim.ab, oR.ab.mono (by decide), fun H' s' => ?_⟩
    exact q _ _ s' ⟨_, _, rfl, rfl⟩

theorem ok_LiveDiscs_log (T : Txt K mg) : FnOk P w K mg base CX0 1 T.a_LiveDiscs_log T.d_LiveDiscs_log ["self"] (spGet K T.C_LiveDiscs gLog) := by
  refine T.F_LiveDiscs_log.ok sc_LiveDiscs_log (fun vs H Q E h => ?_) (fun cdv A outer s H vs Q E hr h => ?_)
  · obtain ⟨_, _, _, _, _, _, _, _, _, rfl, _⟩ := h
    rfl
  · obtain ⟨Z, p, D, S, L, ns, ss, cs, s, rfl, hL, q⟩ := h
    obtain ⟨dx, e0⟩ := hL.ob
    obtain ⟨us, gS, rS⟩ := hL.gS
    obtain ⟨ws, gL, rL⟩ := hL.gL
    refine ⟨_, (pss_one (ps_ret (pe_callTy (listL (K := K) rfl) (by rfl) T.n_list (by decide +kernel) (pa_cons (pe_fld (pv 0) rfl) pa_nil)))), ?_⟩
    refine ⟨.ref p, rfl, p, T.C_LiveDiscs, dx, _, _, rfl, e0, T.cl_LiveDiscs, T.x_LiveDiscs_log, lf_log, L, _, rfl, .inl (SqL.of gL), fun l hl => ?_⟩
    exact q _ _ (new_same hl) ⟨l, ws, rfl, hl, upd_same, (rL.up ⟨_, gS⟩ ⟨_, gL⟩ fun b x e _ _ _ => (new_same hl) b x e).any⟩

theorem ok_LiveDiscs_len (T : Txt K mg) : FnOk P w K mg base CX0 1 T.a_LiveDiscs_len T.d_LiveDiscs_len ["self"] (spGet K T.C_LiveDiscs gLen) := by
  refine T.F_LiveDiscs_len.ok sc_LiveDiscs_len (fun vs H Q E h => ?_) (fun cdv A outer s H vs Q E hr h => ?_)
  · obtain ⟨_, _, _, _, _, _, _, _, _, rfl, _⟩ := h
    rfl
  · obtain ⟨Z, p, D, S, L, ns, ss, cs, s, rfl, hL, q⟩ := h
    obtain ⟨dx, e0⟩ := hL.ob
    obtain ⟨ws, gL, rL⟩ := hL.gL
    refine ⟨_, (pss_one (ps_ret (pe_callB (lenL (K := K) rfl) (by rfl) T.n_len (by decide +kernel) (pa_cons (pe_fld (pv 0) rfl) pa_nil)))), ?_⟩
    refine ⟨.ref p, rfl, p, T.C_LiveDiscs, dx, _, _, rfl, e0, T.cl_LiveDiscs, T.x_LiveDiscs_log, lf_log, L, _, rfl, .inl (SqL.of gL), ?_⟩
    rw [rL.len]
    exact q _ _ (Same.refl H) rfl
/-! the calls -/
def spGoOn (K : PySem.W.Frag) (C : Addr) : Sp := fun vs H Q _ => ∃ (Z : Addr → Prop) (p D S L t o : Addr) (n : Int) (ns : List Int) (ss : List LS) (cs : List LC) (c : LC) (ms : List Int), vs = [.ref p, .ref t, .ref o, .int n] ∧ LiveAt C Z H p D S L ns ss cs ∧
  H t = some (.tup c.v) ∧ ¬ Z t ∧ H o = some (.lst (ms.map V.int)) ∧ ¬ Z o ∧ o ≠ S ∧ o ≠ L ∧ LSok ns.length (ms, n % (ns.length : Int)) ∧ c.ok ns.length ∧ cs.length < 1000 ∧
  ∀ H', ButLS S L H H' → LiveAt C Z H' p D S L ns (ss ++ [(ms, n % (ns.length : Int))]) (cs ++ [c]) → Q .non H'
theorem ok_LiveDiscs_go_on (T : Txt K mg) : FnOk P w K mg base CX0 1 T.a_LiveDiscs_go_on T.d_LiveDiscs_go_on ["self", "call", "other", "turn"] (spGoOn K T.C_LiveDiscs) := by
  refine T.F_LiveDiscs_go_on.ok sc_LiveDiscs_go_on (fun vs H Q E h => ?_) (fun cdv A outer s H vs Q E hr h => ?_)
  · obtain ⟨_, _, _, _, _, _, _, _, _, _, _, _, _, rfl, _⟩ := h
    rfl
  · obtain ⟨Z, p, D, S, L, t, o, n, ns, ss, cs, c, ms, rfl, hL, et, t0, eo, o0, nS, nL, hok, hc, hm, q⟩ := h
    obtain ⟨dx, e0⟩ := hL.ob
    obtain ⟨us, gS, rS⟩ := hL.gS
    obtain ⟨ws, gL, rL⟩ := hL.gL
    have lu := rS.len
    have lw := rL.len
    have lm := hL.len
    refine ⟨_, (pss_cons (ps_expr (pe_bm PySem.F.plainAttrs_list PySem.F.slot_list_append PySem.F.type_list_append mt_append (pe_fld (pv 0) rfl) (pa_cons (pv 1) pa_nil)))
      (pss_one (ps_expr (pe_bm PySem.F.plainAttrs_list PySem.F.slot_list_append PySem.F.type_list_append mt_append (pe_fld (pv 0) rfl) (pa_cons (pe_tup (pa_cons (pv 2) (pa_cons (pe_op op_mod (pv 3) (pe_callB (lenL (K := K) rfl) (by rfl) T.n_len (by decide +kernel) (pa_cons (pe_fld (pv 0) rfl) pa_nil))) pa_nil))) pa_nil))))), ?_⟩
    have npL : p ≠ L := fun z => by
      rw [z, gL] at e0
      cases e0
    have npS : p ≠ S := fun z => by
      rw [z, gS] at e0
      cases e0
    refine ⟨.ref p, rfl, p, T.C_LiveDiscs, dx, _, _, rfl, e0, T.cl_LiveDiscs, T.x_LiveDiscs_log, lf_log, .inl ⟨rfl, _, SqL.of gL⟩, .ref t, rfl, L, _, _, rfl, rfl, gL, sz40 (by omega), ?_⟩
    have k1 : ∀ b x, H b = some x → b ≠ L → (upd H L (.lst (ws ++ [.ref t]))) b = some x := fun b x e n => by rw [upd_ne n]; exact e
    have L1 : (upd H L (.lst (ws ++ [.ref t]))) L = some (.lst (ws ++ [.ref t])) := upd_same
    have n1 : ∀ b, (upd H L (.lst (ws ++ [.ref t]))) b = none → H b = none := fun b e => by
      by_cases z : b = L
      · rw [z, upd_same] at e
        cases e
      · rwa [upd_ne z] at e
    generalize upd H L (.lst (ws ++ [.ref t])) = H1 at k1 L1 n1 ⊢
    have p1 := k1 _ _ e0 npL
    have S1 := k1 _ _ gS hL.SL
    have D1 := k1 _ _ hL.gD hL.DL
    have t1 := k1 _ _ et (tup_ne et ⟨_, gL⟩)
    have o1 := k1 _ _ eo nL
    refine ⟨.ref p, rfl, p, T.C_LiveDiscs, dx, _, _, rfl, p1, T.cl_LiveDiscs, T.x_LiveDiscs_states, lf_states, .inl ⟨rfl, _, SqL.of S1⟩, .ref o, rfl, .int n, rfl, .ref p, rfl, p, T.C_LiveDiscs, dx, _, _, rfl, p1, T.cl_LiveDiscs, T.x_LiveDiscs_disc, lf_disc, D, _, rfl, .inl (SqL.of D1), ?_⟩
    rw [List.length_map]
    have lp := hL.rim.pos
    refine ⟨n, ns.length, rfl, rfl, (by show (0 : Int) < (ns.length : Int); omega), (by show 2 ≤ sizeLine; decide), fun r hr => ?_⟩
    have d1 := new_same (o := .tup [.ref o, .int (n % (ns.length : Int))]) hr
    have r0 := hL.new (n1 _ hr)
    have S2 := d1 _ _ S1
    refine ⟨S, _, _, rfl, rfl, S2, sz40 (by omega), ?_⟩
    have k3 : ∀ b x, H b = some x → b ≠ S → b ≠ L → (upd (upd H1 r (.tup [.ref o, .int (n % (ns.length : Int))])) S (.lst (us ++ [.ref r]))) b = some x := fun b x e n m => by rw [upd_ne n]; exact d1 _ _ (k1 _ _ e m)
    have nrS : r ≠ S := (ne_of_none S1 hr).symm
    have r3 : (upd (upd H1 r (.tup [.ref o, .int (n % (ns.length : Int))])) S (.lst (us ++ [.ref r]))) r = some (.tup [.ref o, .int (n % (ns.length : Int))]) := by
      rw [upd_ne nrS, upd_same]
    refine q _ k3 { hL with
      ob := ⟨dx, k3 _ _ e0 npS npL⟩
      gD := k3 _ _ hL.gD hL.DS hL.DL
      gS := ⟨_, upd_same, ?_⟩
      gL := ⟨_, by rw [upd_ne hL.SL.symm]; exact d1 _ _ L1, ?_⟩
      sok := fun s hs => ?_
      cok := fun x hx => ?_
      len := by
        rw [List.length_append, List.length_append]
        show ss.length + 1 = cs.length + 1 + 1
        omega
      many := by rw [List.length_append]; show cs.length + 1 ≤ 1000; omega
      zst := fun z hz => stay_some (hL.zst z hz) fun x e => k3 _ _ e (fun y => hL.fS (y ▸ hz)) fun y => hL.fL (y ▸ hz) }
    · exact (rS.up ⟨_, gS⟩ ⟨_, gL⟩ fun b x e _ n m => k3 b x e n m).snoc r3 (k3 _ _ eo nS nL) r0 o0 nS nL
    · exact (rL.up ⟨_, gS⟩ ⟨_, gL⟩ fun b x e _ n m => k3 b x e n m).snoc (k3 _ _ et (tup_ne et ⟨_, gS⟩) (tup_ne et ⟨_, gL⟩)) t0
    · rcases List.mem_append.mp hs with h | h
      · exact hL.sok s h
      · rw [List.mem_singleton.mp h]
        exact hok
    · rcases List.mem_append.mp hx with h | h
      · exact hL.cok x h
      · rw [List.mem_singleton.mp h]
        exact hc
theorem snoc_inj {α : Type} {a b : List α} {x y : α} (h : a ++ [x] = b ++ [y]) : a = b ∧ x = y := by
  obtain ⟨h1, h2⟩ := List.append_inj' h rfl
  exact ⟨h1, List.head_eq_of_cons_eq h2⟩
def spDo (K : PySem.W.Frag) (C : Addr) (args : List V → LC → Prop) : Sp := fun vs H Q _ => ∃ (Z : Addr → Prop) (p D S L : Addr) (ns : List Int) (ss : List LS) (cs : List LC) (s : LS) (xs : List V) (c : LC), vs = .ref p :: xs ∧ args xs c ∧ LiveAt C Z H p D S L ns (ss ++ [s]) cs ∧ c.ok ns.length ∧ cs.length < 1000 ∧
  ∀ H', ButLS S L H H' → LiveAt C Z H' p D S L ns (ss ++ [s] ++ [c.on s]) (cs ++ [c]) → Q .non H'
def aTurn : List V → LC → Prop := fun xs c => ∃ n : Int, xs = [.int n] ∧ c = .turn n
def aSlot : List V → LC → Prop := fun xs c => ∃ (s : Nat) (l : Int), xs = [.int s, .int l] ∧ c = .slot s l
def aFlip : List V → LC → Prop := fun xs c => xs = [] ∧ c = .flip
theorem lf_noM {D S L : Addr} : (lfs D S L).lookup ("_go_on" : Str) = none := lf_no (by decide +kernel) (by decide +kernel) (by decide +kernel)
theorem mod_self {t : Int} {n : Nat} (h0 : 0 ≤ t) (h1 : t < n) : t % (n : Int) = t := Int.emod_eq_of_lt h0 h1
theorem ok_LiveDiscs_turn_by (T : Txt K mg) : FnOk P w K mg base CX0 3 T.a_LiveDiscs_turn_by T.d_LiveDiscs_turn_by ["self", "turn"] (spDo K T.C_LiveDiscs aTurn) := by
  have G_check_turn := ok_check_turn (P := P) (w := w) (base := base) T
  have G_LiveDiscs_other := ok_LiveDiscs_other (P := P) (w := w) (base := base) T
  have G_LiveDiscs_turn := ok_LiveDiscs_turn (P := P) (w := w) (base := base) T
  have G_LiveDiscs_go_on := ok_LiveDiscs_go_on (P := P) (w := w) (base := base) T
  refine T.F_LiveDiscs_turn_by.ok sc_LiveDiscs_turn_by (fun vs H Q E h => ?_) (fun cdv A outer s H vs Q E hr h => ?_)
  · obtain ⟨_, _, _, _, _, _, _, _, _, _, _, rfl, ⟨_, rfl, _⟩, _⟩ := h
    rfl
  · obtain ⟨Z, p, D, S, L, ns, ss, cs, s, xs, c, rfl, ⟨n, rfl, rfl⟩, hL, hc, hm, q⟩ := h
    refine ⟨_, (pss_cons (ps_expr (pe_call G_check_turn hr (by rfl) T.g_check_turn T.F_check_turn.kp T.b_check_turn .nil pass0 (pa_cons (pv 1) pa_nil)))
      (pss_one (ps_expr (pe_meth (pv 0) T.cl_LiveDiscs T.m_LiveDiscs_go_on G_LiveDiscs_go_on (hr.mono (by decide)) T.b_LiveDiscs_go_on .nil pass0 (pa_cons (pe_tup (pa_cons pe_str (pa_cons (pv 1) pa_nil))) (pa_cons (pe_prop (pv 0) T.cl_LiveDiscs T.p_LiveDiscs_other G_LiveDiscs_other (hr.mono (by decide)) T.b_LiveDiscs_other .nil pass0 rfl) (pa_cons (pe_op op_add (pe_prop (pv 0) T.cl_LiveDiscs T.p_LiveDiscs_turn G_LiveDiscs_turn (hr.mono (by decide)) T.b_LiveDiscs_turn .nil pass0 rfl) (pv 1)) pa_nil))))))), ?_⟩
    obtain ⟨dx, e0⟩ := hL.ob
    obtain ⟨us, gS, rS⟩ := hL.gS
    obtain ⟨ws, gL, rL⟩ := hL.gL
    have sok := hL.sok s (List.mem_append_right _ List.mem_cons_self)
    have cok := LC.on_ok sok hc
    refine ⟨.int n, rfl, n, rfl, ?_⟩
    refine ⟨.ref p, rfl, p, dx, _, rfl, e0, lf_noM, .int n, rfl, (by show 2 ≤ sizeLine; decide), fun t ht => ?_⟩
    have d1 := new_same (o := .tup (LC.v (.turn n))) ht
    have L1 := hL.same d1
    obtain ⟨_, e1⟩ := L1.ob
    refine ⟨.ref p, rfl, p, _, _, rfl, e1, Z, p, D, S, L, ns, ss, cs, s, rfl, L1, fun v H2 d2 hv => ?_⟩
    obtain ⟨o, ss', s', es, rfl, fo, go⟩ := hv
    obtain ⟨rfl, rfl⟩ := snoc_inj es
    have L2 := L1.same d2
    obtain ⟨_, e2⟩ := L2.ob
    refine ⟨.ref p, rfl, p, _, _, rfl, e2, Z, p, D, S, L, ns, ss, cs, s, rfl, L2, fun v H3 d3 hv => ?_⟩
    obtain ⟨ss', s', es, rfl⟩ := hv
    obtain ⟨rfl, rfl⟩ := snoc_inj es
    refine ⟨.int n, rfl, s.2, n, rfl, rfl, ?_⟩
    have L3 := L2.same d3
    have d13 := (d1.trans d2).trans d3
    have t1 : (upd H t (.tup (LC.v (.turn n)))) t = some (.tup (LC.v (.turn n))) := upd_same
    have eo : LC.on s (.turn n) = (s.1, (s.2 + n) % (ns.length : Int)) := by
      show (s.1, (s.2 + n) % (s.1.length : Int)) = _
      rw [sok.2.1]
    rw [eo] at cok q
    have S1 := d1 _ _ gS
    have LL1 := d1 _ _ gL
    exact ⟨Z, p, D, S, L, t, o, s.2 + n, ns, ss ++ [s], cs, .turn n, s.1, rfl, L3, d3 _ _ (d2 _ _ t1), hL.new ht, d3 _ _ go, L1.new fo, (ne_of_none S1 fo).symm, (ne_of_none LL1 fo).symm, cok, hc, hm, fun H4 u4 L4 => q H4 ((ButLS.of d13).trans u4) L4⟩
theorem ok_LiveDiscs_mirror_other (T : Txt K mg) : FnOk P w K mg base CX0 3 T.a_LiveDiscs_mirror_other T.d_LiveDiscs_mirror_other ["self"] (spDo K T.C_LiveDiscs aFlip) := by
  have G_mirrored_list := ok_mirrored_list (P := P) (w := w) (base := base) T
  have G_LiveDiscs_other := ok_LiveDiscs_other (P := P) (w := w) (base := base) T
  have G_LiveDiscs_turn := ok_LiveDiscs_turn (P := P) (w := w) (base := base) T
  have G_LiveDiscs_go_on := ok_LiveDiscs_go_on (P := P) (w := w) (base := base) T
  refine T.F_LiveDiscs_mirror_other.ok sc_LiveDiscs_mirror_other (fun vs H Q E h => ?_) (fun cdv A outer s H vs Q E hr h => ?_)
  · obtain ⟨_, _, _, _, _, _, _, _, _, _, _, rfl, ⟨rfl, _⟩, _⟩ := h
    rfl
  · obtain ⟨Z, p, D, S, L, ns, ss, cs, s, xs, c, rfl, ⟨rfl, rfl⟩, hL, hc, hm, q⟩ := h
    refine ⟨_, (pss_one (ps_expr (pe_meth (pv 0) T.cl_LiveDiscs T.m_LiveDiscs_go_on G_LiveDiscs_go_on (hr.mono (by decide)) T.b_LiveDiscs_go_on .nil pass0 (pa_cons (pe_tup (pa_cons pe_str pa_nil)) (pa_cons (pe_call G_mirrored_list (hr.mono (by decide)) (by rfl) T.g_mirrored_list T.F_mirrored_list.kp T.b_mirrored_list .nil pass0 (pa_cons (pe_prop (pv 0) T.cl_LiveDiscs T.p_LiveDiscs_other G_LiveDiscs_other (hr.mono (by decide)) T.b_LiveDiscs_other .nil pass0 rfl) pa_nil)) (pa_cons (pe_prop (pv 0) T.cl_LiveDiscs T.p_LiveDiscs_turn G_LiveDiscs_turn (hr.mono (by decide)) T.b_LiveDiscs_turn .nil pass0 rfl) pa_nil)))))), ?_⟩
    obtain ⟨dx, e0⟩ := hL.ob
    obtain ⟨us, gS, rS⟩ := hL.gS
    obtain ⟨ws, gL, rL⟩ := hL.gL
    have sok := hL.sok s (List.mem_append_right _ List.mem_cons_self)
    have cok := LC.on_ok sok hc
    refine ⟨.ref p, rfl, p, dx, _, rfl, e0, lf_noM, (by show 1 ≤ sizeLine; decide), fun t ht => ?_⟩
    have d1 := new_same (o := .tup (LC.v .flip)) ht
    have L1 := hL.same d1
    obtain ⟨_, e1⟩ := L1.ob
    refine ⟨.ref p, rfl, p, _, _, rfl, e1, Z, p, D, S, L, ns, ss, cs, s, rfl, L1, fun v H2 d2 hv => ?_⟩
    obtain ⟨o, ss', s', es, rfl, fo, go⟩ := hv
    obtain ⟨rfl, rfl⟩ := snoc_inj es
    refine ⟨o, s.1, rfl, SqL.of go, sok.1.pos, by have := sok.1.le; omega, fun m H2' d2' fm gm => ?_⟩
    have d12 := d2.trans d2'
    have L2 := L1.same d12
    obtain ⟨_, e2⟩ := L2.ob
    refine ⟨.ref p, rfl, p, _, _, rfl, e2, Z, p, D, S, L, ns, ss, cs, s, rfl, L2, fun v H3 d3 hv => ?_⟩
    obtain ⟨ss', s', es, rfl⟩ := hv
    obtain ⟨rfl, rfl⟩ := snoc_inj es
    have L3 := L2.same d3
    have d13 := (d1.trans d12).trans d3
    have t1 : (upd H t (.tup (LC.v .flip))) t = some (.tup (LC.v .flip)) := upd_same
    have eo : LC.on s .flip = (mir s.1, s.2 % (ns.length : Int)) := by
      rw [mod_self sok.2.2.1 sok.2.2.2]
      rfl
    rw [eo] at cok q
    have S1 := d2 _ _ (d1 _ _ gS)
    have LL1 := d2 _ _ (d1 _ _ gL)
    exact ⟨Z, p, D, S, L, t, m, s.2, ns, ss ++ [s], cs, .flip, mir s.1, rfl, L3, d3 _ _ (d12 _ _ t1), hL.new ht, d3 _ _ gm, (L1.same d2).new fm, (ne_of_none S1 fm).symm, (ne_of_none LL1 fm).symm, cok, hc, hm, fun H4 u4 L4 => q H4 ((ButLS.of d13).trans u4) L4⟩
theorem ok_LiveDiscs_set_slot (T : Txt K mg) : FnOk P w K mg base CX0 3 T.a_LiveDiscs_set_slot T.d_LiveDiscs_set_slot ["self", "slot", "light"] (spDo K T.C_LiveDiscs aSlot) := by
  have G_check_slot := ok_check_slot (P := P) (w := w) (base := base) T
  have G_check_between := ok_check_between (P := P) (w := w) (base := base) T
  have G_LiveDiscs_other := ok_LiveDiscs_other (P := P) (w := w) (base := base) T
  have G_LiveDiscs_turn := ok_LiveDiscs_turn (P := P) (w := w) (base := base) T
  have G_LiveDiscs_go_on := ok_LiveDiscs_go_on (P := P) (w := w) (base := base) T
  refine T.F_LiveDiscs_set_slot.ok sc_LiveDiscs_set_slot (fun vs H Q E h => ?_) (fun cdv A outer s H vs Q E hr h => ?_)
  · obtain ⟨_, _, _, _, _, _, _, _, _, _, _, rfl, ⟨_, _, rfl, _⟩, _⟩ := h
    rfl
  · obtain ⟨Z, p, D, S, L, ns, ss, cs, s, xs, c, rfl, ⟨i, l, rfl, rfl⟩, hL, hc, hm, q⟩ := h
    refine ⟨_, (pss_cons (ps_expr (pe_call G_check_slot hr (by rfl) T.g_check_slot T.F_check_slot.kp T.b_check_slot .nil pass0 (pa_cons (pv 1) (pa_cons (pe_callB (lenL (K := K) rfl) (by rfl) T.n_len (by decide +kernel) (pa_cons (pe_fld (pv 0) rfl) pa_nil)) pa_nil))))
      (pss_cons (ps_expr (pe_call G_check_between hr (by rfl) T.g_check_between T.F_check_between.kp T.b_check_between .nil pass0 (pa_cons (pv 2) (pa_cons pe_int (pa_cons (pe_glob (v := .int (1000000000000000000000000000000)) rfl T.g_MOST_LIGHT ⟨_, rfl⟩) pa_nil)))))
      (pss_cons (ps_set (i := 3) sc_LiveDiscs_set_slot.nd rfl (.inl rfl) (pe_prop (pv 0) T.cl_LiveDiscs T.p_LiveDiscs_other G_LiveDiscs_other (hr.mono (by decide)) T.b_LiveDiscs_other .nil pass0 rfl))
      (pss_cons (ps_asg (pv 2) (pg_sub (pv 3) (pv 1) set_list))
      (pss_one (ps_expr (pe_meth (pv 0) T.cl_LiveDiscs T.m_LiveDiscs_go_on G_LiveDiscs_go_on (hr.mono (by decide)) T.b_LiveDiscs_go_on .nil pass0 (pa_cons (pe_tup (pa_cons pe_str (pa_cons (pv 1) (pa_cons (pv 2) pa_nil)))) (pa_cons (pv 3) (pa_cons (pe_prop (pv 0) T.cl_LiveDiscs T.p_LiveDiscs_turn G_LiveDiscs_turn (hr.mono (by decide)) T.b_LiveDiscs_turn .nil pass0 rfl) pa_nil)))))))))), ?_⟩
    obtain ⟨dx, e0⟩ := hL.ob
    obtain ⟨us, gS, rS⟩ := hL.gS
    obtain ⟨ws, gL, rL⟩ := hL.gL
    have sok := hL.sok s (List.mem_append_right _ List.mem_cons_self)
    have cok := LC.on_ok sok hc
    obtain ⟨hi, hl0, hl1⟩ := id hc
    refine ⟨.int i, rfl, .ref p, rfl, p, T.C_LiveDiscs, dx, _, _, rfl, e0, T.cl_LiveDiscs, T.x_LiveDiscs_disc, lf_disc, D, _, rfl, .inl (SqL.of hL.gD), ?_⟩
    rw [List.length_map]
    refine ⟨i, ns.length, rfl, by omega, by omega, ?_⟩
    refine ⟨.int l, rfl, l, 0, _, rfl, hl0, hl1, ?_⟩
    refine ⟨.ref p, rfl, p, _, _, rfl, e0, Z, p, D, S, L, ns, ss, cs, s, rfl, hL, fun v H2 d2 hv => ?_⟩
    obtain ⟨o, ss', s', es, rfl, fo, go⟩ := hv
    obtain ⟨rfl, rfl⟩ := snoc_inj es
    refine ⟨.int l, rfl, .ref o, rfl, .int i, rfl, o, _, i, i, rfl, rfl, go, ixN_in (by omega) (by rw [List.length_map]; have := sok.2.1; omega), ?_⟩
    rw [map_set]
    have dS := same_over d2 fo (o := .lst ((s.1.set i l).map V.int))
    have oS : (upd H2 o (.lst ((s.1.set i l).map V.int))) o = some (.lst ((s.1.set i l).map V.int)) := upd_same
    generalize upd H2 o (.lst ((s.1.set i l).map V.int)) = H3 at dS oS ⊢
    have L1 := hL.same dS
    obtain ⟨_, e1⟩ := L1.ob
    refine ⟨.ref p, rfl, p, _, _, rfl, e1, lf_noM, .int i, rfl, .int l, rfl, (by show 3 ≤ sizeLine; decide), fun t ht => ?_⟩
    have d4 := new_same (o := .tup (LC.v (.slot i l))) ht
    have L2 := L1.same d4
    obtain ⟨_, e2⟩ := L2.ob
    refine ⟨.ref o, rfl, .ref p, rfl, p, _, _, rfl, e2, Z, p, D, S, L, ns, ss, cs, s, rfl, L2, fun v H5 d5 hv => ?_⟩
    obtain ⟨ss', s', es, rfl⟩ := hv
    obtain ⟨rfl, rfl⟩ := snoc_inj es
    have L3 := L2.same d5
    have d15 := (dS.trans d4).trans d5
    have t1 : (upd H3 t (.tup (LC.v (.slot i l)))) t = some (.tup (LC.v (.slot i l))) := upd_same
    have eo : LC.on s (.slot i l) = (s.1.set i l, s.2 % (ns.length : Int)) := by
      rw [mod_self sok.2.2.1 sok.2.2.2]
      rfl
    rw [eo] at cok q
    exact ⟨Z, p, D, S, L, t, o, s.2, ns, ss ++ [s], cs, .slot i l, s.1.set i l, rfl, L3, d5 _ _ t1, L1.new ht, d5 _ _ (d4 _ _ oS), hL.new fo, (ne_of_none gS fo).symm, (ne_of_none gL fo).symm, cok, hc, hm, fun H4 u4 L4 => q H4 ((ButLS.of d15).trans u4) L4⟩

/-! ### _law_stock, _law_draw -/
def spStock (K : PySem.W.Frag) : Sp := fun vs H Q _ => ∃ (a : Addr) (ns : List Int), vs = [.ref a] ∧ SqL K H a (ns.map V.int) ∧ ns.length ≤ 63 ∧
  ∀ (t : Addr) (H' : Hp), Same H H' → H t = none → Stk H' t 0 → Q (.ref t) H'
theorem ok_law_stock (T : Txt K mg) : FnOk P w K mg base CX0 1 T.a_law_stock T.d_law_stock ["script"] (spStock K) := by
  refine T.F_law_stock.ok sc_law_stock (fun vs H Q E h => ?_) (fun cdv A outer s H vs Q E hr h => ?_)
  · obtain ⟨_, _, rfl, _⟩ := h
    rfl
  · obtain ⟨a, ns, rfl, hS, hl, q⟩ := h
    refine ⟨_, (pss_cons (ps_asg (pe_tup (pa_cons pe_int (pa_cons pe_int pa_nil))) (pg_tupL (K := K) (n := 2) rfl rfl (pgs_cons (pg_name (i := 1) sc_law_stock.nd rfl (.inl rfl)) (pgs_cons (pg_name (i := 2) sc_law_stock.nd rfl (.inl rfl)) pgs_nil))))
      (pss_cons (ps_for PassesOwn.never rfl (pi_listL (K := K) rfl (pe_slice (slL (K := K) rfl) (pv 0) po_none (po_some pe_int))) (pg_name (i := 3) sc_law_stock.nd rfl (.inl rfl)) (pss_mid (ps_if (pt_cmpR op_ge (pe_callB call_abs (by rfl) T.n_abs (by decide +kernel) (pa_cons (pv 3) pa_nil)) (pe_op op_pow pe_int pe_int) (nomark _)) (pss_one (ps_set (i := 1) sc_law_stock.nd rfl (.inl rfl) (pe_op op_add (pe_op op_mulW (pv 1) (pe_op op_pow pe_int pe_int)) (pe_op op_mod (pe_callTy call_int1 (by rfl) T.n_int (by decide +kernel) (pa_cons (pe_callB call_abs (by rfl) T.n_abs (by decide +kernel) (pa_cons (pv 3) pa_nil)) pa_nil)) (pe_op op_pow pe_int pe_int))))) pss_nil)
      (pss_cons (ps_set (i := 4) sc_law_stock.nd rfl (.inl rfl) (pe_op op_add (pe_op op_add (pe_op op_mul (pv 2) pe_int) (pe_op op_mod (pe_callTy call_int1 (by rfl) T.n_int (by decide +kernel) (pa_cons (pv 3) pa_nil)) pe_int)) pe_int))
      (pss_one (ps_set (i := 2) sc_law_stock.nd rfl (.inl rfl) (pe_op op_mod (pe_callTy call_int1 (by rfl) T.n_int (by decide +kernel) (pa_cons (pv 4) pa_nil)) pe_int))))))
      (pss_one (ps_ret (pe_lst (pa_cons (pv 1) (pa_cons (pv 2) (pa_cons pe_int pa_nil)))))))), ?_⟩
    refine ⟨(by show 2 ≤ sizeLine; decide), fun p0 hp0 => ⟨p0, _, rfl, SqT.of upd_same, rfl, _, _, rfl, _, _, rfl, rfl, ?_⟩⟩
    have s0 := new_same (o := .tup [.int 0, .int 27644437]) hp0
    generalize upd H p0 (.tup [.int 0, .int 27644437]) = H0 at s0 ⊢
    refine ⟨.ref a, rfl, 63, rfl, a, _, rfl, s0.seq hS, fun p hp => ?_⟩
    have s1 := s0.trans (new_same (o := .lst (cutV (ns.map V.int) none (some 63))) hp)
    have g1 : (upd H0 p (.lst (cutV (ns.map V.int) none (some 63)))) p = some (.lst (ns.map V.int)) := by rw [upd_same, cut_take ns 63 (by decide), List.take_of_length_le (by show ns.length ≤ 63; exact hl)]
    generalize upd H0 p (.lst (cutV (ns.map V.int) none (some 63))) = H1 at s1 g1 ⊢
    refine ⟨p, rfl, ⟨_, SqL.of g1⟩, for_list (K := K) (a := p) (xs := ns.map V.int)
      (fun i σ H' => ∃ (d m : Int) (y3 y4 : Option V), σ = [some (.ref a), some (.int d), some (.int m), y3, y4] ∧ 0 ≤ d ∧ d.natAbs < 2 ^ (200 * i + 1) ∧ 0 ≤ m ∧ m < 170141183460469231731687303715884105727 ∧ H' = H1)
      ⟨0, 27644437, none, none, rfl, by decide, by decide, by decide, by decide, rfl⟩ (fun i σ H' _ ⟨_, _, _, _, _, _, _, _, _, e⟩ => by rw [e]; exact SqL.of g1) (fun i x σ H2 hx hP => ?_) (fun σ H2 hP => ?_)⟩
    · obtain ⟨d, m, y3, y4, rfl, d0, d1, m0, m1, rfl⟩ := hP
      obtain ⟨c, hc, rfl⟩ := int_at hx
      have hi : i < ns.length := (List.getElem?_eq_some_iff.mp hc).1
      have e60 : (10 : Int) ^ (60 : Int).toNat = 1000000000000000000000000000000000000000000000000000000000000 := by decide +kernel
      refine ⟨fun σ' H' => ∃ d' : Int, σ' = [some (.ref a), some (.int d'), some (.int m), some (.int c), y4] ∧ 0 ≤ d' ∧ d'.natAbs < 2 ^ (200 * (i + 1) + 1) ∧ H' = H2,
        ⟨.int c, rfl, c, rfl, 10, 18, rfl, rfl, ⟨by decide, by decide, by decide⟩, _, _, rfl, rfl, _, rfl, ite2 (fun _ => ?_) (fun _ => ?_)⟩, fun σ' H' hM => ?_⟩
      · refine ⟨.int d, rfl, 10, 60, rfl, rfl, ⟨by decide, by decide, by decide⟩, d, _, rfl, rfl, wide_mul (a := 200 * i + 1) (b := 200) d1 (by decide +kernel) (by omega) (by decide) (by omega), ?_⟩
        refine ⟨.int c, rfl, c, rfl, .inl ⟨_, rfl, 10, 60, rfl, rfl, ⟨by decide, by decide, by decide⟩, _, _, rfl, rfl, (by show (0 : Int) < 10 ^ (60 : Int).toNat; decide +kernel), _, _, rfl, rfl, ?_⟩⟩
        refine ⟨_, rfl, ?_, ?_, rfl⟩
        · rw [e60]
          have := Int.emod_nonneg (if c < 0 then -c else c) (show (1000000000000000000000000000000000000000000000000000000000000 : Int) ≠ 0 by decide)
          have := Int.mul_nonneg d0 (show (0 : Int) ≤ 1000000000000000000000000000000000000000000000000000000000000 by decide)
          omega
        · rw [e60]
          have b0 := Int.emod_nonneg (if c < 0 then -c else c) (show (1000000000000000000000000000000000000000000000000000000000000 : Int) ≠ 0 by decide)
          have b1 := Int.emod_lt_of_pos (if c < 0 then -c else c) (show (0 : Int) < 1000000000000000000000000000000000000000000000000000000000000 by decide)
          have eP : 2 ^ (200 * (i + 1) + 1) = 2 ^ (200 * i + 1) * 1606938044258990275541962092341162602522202993782792835301376 := by
            rw [show 200 * (i + 1) + 1 = (200 * i + 1) + 200 by omega, Nat.pow_add]
          rw [eP]
          generalize 2 ^ (200 * i + 1) = B at d1
          generalize (if c < 0 then -c else c) % 1000000000000000000000000000000000000000000000000000000000000 = z at b0 b1
          omega
      · exact ⟨d, rfl, d0, Nat.lt_of_lt_of_le d1 (Nat.pow_le_pow_right (by decide) (by omega)), rfl⟩
      · obtain ⟨d', rfl, z0, z1, rfl⟩ := hM
        refine ⟨.int m, rfl, m, 48271, rfl, rfl, .inr ⟨by decide, by decide⟩, .int c, rfl, .inl ⟨c, rfl, c, 2305843009213693951, rfl, rfl, (by show (0 : Int) < 2305843009213693951; decide), _, _, rfl, rfl, _, 101, rfl, rfl, ?_⟩⟩
        refine ⟨_, rfl, .inl ⟨_, rfl, _, 170141183460469231731687303715884105727, rfl, rfl, (by show (0 : Int) < 170141183460469231731687303715884105727; decide), ?_⟩⟩
        exact ⟨d', _, _, _, rfl, z0, z1, Int.emod_nonneg _ (by decide), Int.emod_lt_of_pos _ (by decide), rfl⟩
    · obtain ⟨d, m, y3, y4, rfl, d0, d1, m0, m1, rfl⟩ := hP
      refine ⟨.int d, rfl, .int m, rfl, (by show 3 ≤ sizeLine; decide), fun t ht => ?_⟩
      exact q t _ (s1.trans (new_same ht)) (none_back s1 ht) ⟨d, m, 0, upd_same, d0, m0, m1, by omega, by omega⟩
def spDraw : Sp := fun vs H Q _ => ∃ (T : Addr) (m c : Int), vs = [.ref T, .int m] ∧ 0 < m ∧ m < 2 ^ 200 ∧ Stk H T c ∧ c < 2 ^ 40 ∧
  ∀ (r : Int) (H' : Hp), 0 ≤ r → r < m → Stk H' T (c + 1) → But T H H' → Q (.int r) H'
theorem ok_law_draw (T : Txt K mg) : FnOk P w K mg base CX0 1 T.a_law_draw T.d_law_draw ["stock", "wide"] spDraw := by
  refine T.F_law_draw.ok sc_law_draw (fun vs H Q E h => ?_) (fun cdv A outer s H vs Q E hr h => ?_)
  · obtain ⟨_, _, _, rfl, _⟩ := h
    rfl
  · obtain ⟨t, m, c, rfl, hm0, hm, ⟨x, y, z, hT, hx, hy0, hy, hz0, hz⟩, hc, q⟩ := h
    refine ⟨_, (pss_cons (ps_if (pt_cmpR op_gt (pe_ix (ixL (K := K) rfl) (pv 0) pe_int (fun _ _ => rfl)) pe_int (nomark _)) (pss_cons (ps_set (i := 2) sc_law_draw.nd rfl (.inl rfl) (pe_op op_mod (pe_callTy call_int1 (by rfl) T.n_int (by decide +kernel) (pa_cons (pe_ix (ixL (K := K) rfl) (pv 0) pe_int (fun _ _ => rfl)) pa_nil)) (pv 1)))
      (pss_cons (ps_asg (pe_op op_fdivW (pe_ix (ixL (K := K) rfl) (pv 0) pe_int (fun _ _ => rfl)) (pv 1)) (pg_sub (pv 0) pe_int set_list))
      (pss_one (ps_ret (pv 2))))) pss_nil)
      (pss_cons (ps_asg (pe_op op_add (pe_ix (ixL (K := K) rfl) (pv 0) pe_int (fun _ _ => rfl)) pe_int) (pg_sub (pv 0) pe_int set_list))
      (pss_cons (ps_set (i := 3) sc_law_draw.nd rfl (.inl rfl) (pe_op op_add (pe_ix (ixL (K := K) rfl) (pv 0) pe_int (fun _ _ => rfl)) (pe_op op_mul pe_int (pe_ix (ixL (K := K) rfl) (pv 0) pe_int (fun _ _ => rfl)))))
      (pss_cons (ps_set (i := 3) sc_law_draw.nd rfl (.inl rfl) (pe_op op_add (pe_op op_mod (pe_callTy call_int1 (by rfl) T.n_int (by decide +kernel) (pa_cons (pe_op op_pow2 (pv 3) pe_int) pa_nil)) pe_int) (pe_op op_mul pe_int (pe_ix (ixL (K := K) rfl) (pv 0) pe_int (fun _ _ => rfl)))))
      (pss_cons (ps_set (i := 3) sc_law_draw.nd rfl (.inl rfl) (pe_op op_mod (pe_callTy call_int1 (by rfl) T.n_int (by decide +kernel) (pa_cons (pe_op op_pow3 (pv 3) pe_int) pa_nil)) pe_int))
      (pss_one (ps_ret (pe_op op_mod (pe_callTy call_int1 (by rfl) T.n_int (by decide +kernel) (pa_cons (pe_op op_fdivW (pv 3) pe_int) pa_nil)) (pv 1))))))))), ?_⟩
    refine ⟨.ref t, rfl, t, _, 0, .int x, rfl, rfl, SqL.of hT, rfl, x, 0, rfl, rfl, _, rfl, ite2 (fun h => ?_) (fun h => ?_)⟩
    · have hx1 : 0 < x := of_decide_eq_true h
      refine ⟨.ref t, rfl, t, _, 0, .int x, rfl, rfl, SqL.of hT, rfl, .inl ⟨x, rfl, .int m, rfl, x, m, rfl, rfl, hm0, ?_⟩⟩
      refine ⟨.ref t, rfl, t, _, 0, .int x, rfl, rfl, SqL.of hT, rfl, .int m, rfl, x, m, rfl, rfl, wide_div (b := 200) hm0 (by omega) (by decide) (by decide), ?_⟩
      refine ⟨.ref t, rfl, t, _, 0, 0, rfl, rfl, hT, rfl, ?_⟩
      refine ⟨.int (x % m), rfl, q _ _ (Int.emod_nonneg _ (by omega)) (Int.emod_lt_of_pos _ hm0) ⟨x / m, y, z, upd_same, Int.ediv_nonneg hx (by omega), hy0, hy, hz0, by omega⟩ upd_but⟩
    · refine ⟨.ref t, rfl, t, _, 2, .int z, rfl, rfl, SqL.of hT, rfl, z, 1, rfl, rfl, ?_⟩
      refine ⟨.ref t, rfl, t, _, 2, 2, rfl, rfl, hT, rfl, ?_⟩
      have hT2 : (upd H t (.lst [.int x, .int y, .int (z + 1)])) t = some (.lst [.int x, .int y, .int (z + 1)]) := upd_same
      refine ⟨.ref t, rfl, t, _, 1, .int y, rfl, rfl, SqL.of hT2, rfl, .ref t, rfl, t, _, 2, .int (z + 1), rfl, rfl, SqL.of hT2, rfl, 1000000000000000003, z + 1, rfl, rfl, .inl ⟨by decide, by decide⟩, _, _, rfl, rfl, ?_⟩
      obtain ⟨g, hg⟩ : ∃ g, g = y + 1000000000000000003 * (z + 1) := ⟨_, rfl⟩
      show gName 3 (V.int (y + 1000000000000000003 * (z + 1))) _ _ _
      rw [← hg]
      refine ⟨.int g, rfl, g, 2, rfl, rfl, ⟨rfl, by omega, by omega⟩, .inl ⟨_, rfl, _, 170141183460469231731687303715884105727, rfl, rfl, (by show (0 : Int) < 170141183460469231731687303715884105727; decide), ?_⟩⟩
      have a0 := Int.emod_nonneg (g ^ (2 : Int).toNat) (show (170141183460469231731687303715884105727 : Int) ≠ 0 by decide)
      have a1 := Int.emod_lt_of_pos (g ^ (2 : Int).toNat) (show (0 : Int) < 170141183460469231731687303715884105727 by decide)
      refine ⟨.ref t, rfl, t, _, 2, .int (z + 1), rfl, rfl, SqL.of hT2, rfl, 999999000001, z + 1, rfl, rfl, .inl ⟨by decide, by decide⟩, _, _, rfl, rfl, ?_⟩
      obtain ⟨f, hf⟩ : ∃ f, f = g ^ (2 : Int).toNat % 170141183460469231731687303715884105727 + 999999000001 * (z + 1) := ⟨_, rfl⟩
      show gName 3 (V.int (g ^ (2 : Int).toNat % 170141183460469231731687303715884105727 + 999999000001 * (z + 1))) _ _ _
      rw [← hf]
      refine ⟨.int f, rfl, f, 3, rfl, rfl, ⟨rfl, by omega, by omega⟩, .inl ⟨_, rfl, _, 170141183460469231731687303715884105727, rfl, rfl, (by show (0 : Int) < 170141183460469231731687303715884105727; decide), ?_⟩⟩
      refine ⟨_, rfl, _, 1048576, rfl, rfl, wide_div (b := 30) (by decide) (by decide) (by decide) (by decide), .inl ⟨_, rfl, .int m, rfl, _, m, rfl, rfl, hm0, ?_⟩⟩
      exact q _ _ (Int.emod_nonneg _ (by omega)) (Int.emod_lt_of_pos _ hm0) ⟨x, y, z + 1, upd_same, hx, hy0, hy, by omega, by omega⟩ upd_but

/-! ### _law_size, _law_slots -/
def spSize : Sp := fun vs H Q _ => ∃ (T : Addr) (m c : Int), vs = [.ref T, .int m] ∧ 1 ≤ m ∧ m ≤ 40 ∧ Stk H T c ∧ 0 ≤ c ∧ c < 2 ^ 39 ∧
  ∀ (r : Int) (H' : Hp), 1 ≤ r → r ≤ m → Stk H' T (c + 3) → But T H H' → Q (.int r) H'
theorem ok_law_size (T : Txt K mg) : FnOk P w K mg base CX0 2 T.a_law_size T.d_law_size ["stock", "bound"] spSize := by
  have G_law_draw := ok_law_draw (P := P) (w := w) (base := base) T
  refine T.F_law_size.ok sc_law_size (fun vs H Q E h => ?_) (fun cdv A outer s H vs Q E hr h => ?_)
  · obtain ⟨_, _, _, rfl, _⟩ := h
    rfl
  · obtain ⟨t, m, c, rfl, hm1, hm, hT, hc0, hc, q⟩ := h
    refine ⟨_, (pss_cons (ps_setLc (i := 2) (own := [("one", 3)]) (g := gName 3) (by rfl) sc_law_size.nd rfl rfl (sw_true rfl rfl rfl (by decide +kernel)) (pi_tupL (K := K) rfl (pe_tup (pa_cons pe_int (pa_cons pe_int (pa_cons pe_int (pa_cons pe_int (pa_cons pe_int (pa_cons pe_int (pa_cons pe_int (pa_cons pe_int (pa_cons pe_int (pa_cons pe_int (pa_cons pe_int (pa_cons pe_int pa_nil)))))))))))))) (blkOk_by (own := [("one", 3)]) (N := ["stock", "bound", "some", "one"]) (sc := defScope s_law_size) (by decide +kernel))
        (fun _ _ _ _ _ => (pg_name (i := 3) sc_law_size.nd rfl (Or.inl rfl))) (fun _ _ _ _ _ => (pts_one (pt_cmpR op_le (pv 3) (pv 1) (nomark _)))) (fun _ _ _ _ _ => (pv 3)))
      (pss_one (ps_ret (pe_ix (ixL (K := K) rfl) (pe_lst (pa_cons (pe_ix (ixL (K := K) rfl) (pv 2) (pe_call G_law_draw hr (by rfl) T.g_law_draw T.F_law_draw.kp T.b_law_draw .nil pass0 (pa_cons (pv 0) (pa_cons (pe_callB (lenL (K := K) rfl) (by rfl) T.n_len (by decide +kernel) (pa_cons (pv 2) pa_nil)) pa_nil))) (fun _ _ => rfl)) (pa_cons (pe_op op_add pe_int (pe_call G_law_draw hr (by rfl) T.g_law_draw T.F_law_draw.kp T.b_law_draw .nil pass0 (pa_cons (pv 0) (pa_cons (pv 1) pa_nil)))) (pa_cons (pv 1) pa_nil)))) (pe_call G_law_draw hr (by rfl) T.g_law_draw T.F_law_draw.kp T.b_law_draw .nil pass0 (pa_cons (pv 0) (pa_cons pe_int pa_nil))) (fun _ _ => rfl))))), ?_⟩
    refine ⟨(by show 12 ≤ sizeLine; decide), fun p hp => ⟨p, rfl, ⟨_, SqT.of upd_same⟩, fun D hD => ?_⟩⟩
    have s1 := new_same (o := .tup (([1, 2, 3, 4, 6, 7, 8, 12, 13, 30, 36, 40] : List Int).map V.int)) hp
    have g1 : (upd H p (.tup (([1, 2, 3, 4, 6, 7, 8, 12, 13, 30, 36, 40] : List Int).map V.int))) p = some (.tup (([1, 2, 3, 4, 6, 7, 8, 12, 13, 30, 36, 40] : List Int).map V.int)) := upd_same
    have hD : (upd H p (.tup (([1, 2, 3, 4, 6, 7, 8, 12, 13, 30, 36, 40] : List Int).map V.int))) D = none := hD
    show ∃ W : Nat → Nat → Hp → Prop, (∃ m, W 0 m (upd (upd H p (.tup (([1, 2, 3, 4, 6, 7, 8, 12, 13, 30, 36, 40] : List Int).map V.int))) D (.lst []))) ∧ _
    generalize upd H p (.tup (([1, 2, 3, 4, 6, 7, 8, 12, 13, 30, 36, 40] : List Int).map V.int)) = H1 at s1 g1 hD ⊢
    refine lc_tup (K := K) (a := p) (xs := ([1, 2, 3, 4, 6, 7, 8, 12, 13, 30, 36, 40] : List Int).map V.int) (fun i H' => Same H1 H' ∧ ∃ ss : List Int, H' D = some (.lst (ss.map V.int)) ∧ ss.length ≤ i ∧ (0 < i → 0 < ss.length) ∧ ∀ x ∈ ss, 1 ≤ x ∧ x ≤ m)
      ⟨new_same hD, [], upd_same, Nat.le_refl _, fun h => absurd h (Nat.lt_irrefl _), fun x hx => (List.not_mem_nil hx).elim⟩ (fun i H' _ hP => SqT.of (hP.1 _ _ g1)) (fun i x H2 hx hP => ⟨rfl, ?_⟩) (fun H2 hP => ?_)
    · obtain ⟨s2, ss, g2, l2, p2, a2⟩ := hP
      obtain ⟨n, hn, rfl⟩ := int_at hx
      have hi : i < 12 := (List.getElem?_eq_some_iff.mp hn).1
      have hn1 : 1 ≤ n := by
        have := List.mem_of_getElem? hn
        simp only [List.mem_cons, List.not_mem_nil, or_false] at this
        omega
      refine ⟨.int n, rfl, .int m, rfl, n, m, rfl, rfl, _, rfl, ite2 (fun h => ?_) (fun h => ?_)⟩
      · have hnm : n ≤ m := of_decide_eq_true h
        refine ⟨.int n, rfl, _, g2, by rw [List.length_map]; exact sz40 (by omega), same_over s2 hD, ss ++ [n], ?_, ?_, fun _ => ?_, fun x hx => ?_⟩
        · rw [upd_same, List.map_append]
          rfl
        · rw [List.length_append]
          show ss.length + 1 ≤ i + 1
          omega
        · rw [List.length_append]
          show 0 < ss.length + 1
          omega
        · rcases List.mem_append.mp hx with h | h
          · exact a2 x h
          · rw [List.mem_singleton.mp h]
            exact ⟨hn1, hnm⟩
      · refine ⟨s2, ss, g2, by omega, fun _ => ?_, a2⟩
        cases i with
        | zero =>
          have : n = 1 := (Option.some.inj hn).symm
          exact absurd (decide_eq_true (show n ≤ m by omega)) h
        | succ i => exact p2 (Nat.succ_pos _)
    · obtain ⟨s2, ss, g2, l2, p2, a2⟩ := hP
      have sp : 0 < ss.length := p2 (by decide)
      have sl : ss.length ≤ 12 := l2
      simp only [List.set_cons_zero, List.set_cons_succ]
      have kT := (hT.same s1).same s2
      have nD : D ≠ t := (hT.same s1).ne hD
      refine ⟨.ref D, rfl, .ref t, rfl, .ref D, rfl, D, _, rfl, .inl (SqL.of g2), t, _, c, rfl, by rw [List.length_map]; omega, by rw [List.length_map]; omega, kT, by omega, fun r1 H3 a3 b3 k3 u3 => ?_⟩
      rw [List.length_map] at b3
      obtain ⟨v, hv, hat⟩ := at_in (ns := ss) a3 b3
      have hv1 := a2 v (List.mem_of_getElem? hv)
      refine ⟨D, _, r1, .int v, rfl, rfl, SqL.of (u3 _ _ g2 nD), hat, ?_⟩
      refine ⟨.ref t, rfl, .int m, rfl, t, m, c + 1, rfl, by omega, by omega, k3, by omega, fun r2 H4 a4 b4 k4 u4 => ?_⟩
      refine ⟨1, r2, rfl, rfl, .int m, rfl, (by show 3 ≤ sizeLine; decide), fun l hl => ?_⟩
      refine ⟨.ref t, rfl, t, 3, c + 1 + 1, rfl, by omega, by omega, k4.up hl, by omega, fun r3 H5 a5 b5 k5 u5 => ?_⟩
      have g5 : H5 l = some (.lst (([v, 1 + r2, m] : List Int).map V.int)) := u5 _ _ upd_same (k4.ne hl)
      obtain ⟨z, hz, hat5⟩ := at_in (ns := [v, 1 + r2, m]) a5 (by show r3 < 3; omega)
      have hz1 : 1 ≤ z ∧ z ≤ m := by
        have := List.mem_of_getElem? hz
        simp only [List.mem_cons, List.not_mem_nil, or_false] at this
        omega
      refine ⟨l, _, r3, .int z, rfl, rfl, SqL.of g5, hat5, q z H5 hz1.1 hz1.2 (k5.mono (by omega)) ?_⟩
      exact ((((But.of s1).trans (But.of s2)).trans u3).trans u4).trans ((But.of (new_same hl)).trans u5)
def spSlots : Sp := fun vs H Q _ => ∃ (T : Addr) (n f c : Int), vs = [.ref T, .int n, .int f] ∧ 1 ≤ n ∧ n ≤ 40 ∧ 1 ≤ f ∧ f ≤ 1000000000000000000000000000000 ∧ Stk H T c ∧ 0 ≤ c ∧ c < 2 ^ 38 ∧
  ∀ (l : Addr) (ns : List Int) (H' : Hp), Rim ns → (ns.length : Int) = n → But T H H' → H l = none → H' l = some (.lst (ns.map V.int)) → Stk H' T (c + 300) → Q (.ref l) H'
def MidSl (t : Addr) (H : Hp) (n f k e : Int) : L2.St → Hp → Prop := fun σ' H' => ∃ (D : Addr) (ns : List Int) (y5 : Option V),
  σ' = [some (.ref t), some (.int n), some (.int f), some (.int k), some (.ref D), y5] ∧ Rim ns ∧ (ns.length : Int) = n ∧ H D = none ∧ H' D = some (.lst (ns.map V.int)) ∧ But t H H' ∧ Stk H' t e
theorem free_butS {t D : Addr} {c : Int} {H H1 : Hp} (u : But t H H1) (hT : Stk H t c) (n : H1 D = none) (ne : D ≠ t) : H D = none := by
  cases e : H D with
  | none => rfl
  | some o =>
    have := u _ _ e ne
    rw [n] at this
    cases this
theorem but_over {t D : Addr} {H H1 : Hp} {o : HO} (u : But t H H1) (n : H D = none) : But t H (upd H1 D o) := fun b x e ne => by
  rw [upd_ne (ne_of_none e n)]
  exact u b x e ne
theorem ok_law_slots (T : Txt K mg) : FnOk P w K mg base CX0 2 T.a_law_slots T.d_law_slots ["stock", "size", "far"] spSlots := by
  have G_law_draw := ok_law_draw (P := P) (w := w) (base := base) T
  refine T.F_law_slots.ok sc_law_slots (fun vs H Q E h => ?_) (fun cdv A outer s H vs Q E hr h => ?_)
  · obtain ⟨_, _, _, _, rfl, _⟩ := h
    rfl
  · obtain ⟨t, n, f, c, rfl, hn1, hn, hf1, hf, hT, hc0, hc, q⟩ := h
    refine ⟨_, (pss_cons (ps_par (i := 3) (j := 4) (by rfl) sc_law_slots.nd rfl rfl (by decide) rfl rfl (pa_cons (pe_call G_law_draw hr (by rfl) T.g_law_draw T.F_law_draw.kp T.b_law_draw .nil pass0 (pa_cons (pv 0) (pa_cons pe_int pa_nil))) (pa_cons (pe_lst pa_nil) pa_nil)) (by rfl))
      (pss_cons (ps_for PassesOwn.never rfl (pi_range1 (by rfl) T.n_range (pa_cons (pv 1) pa_nil)) (pg_name (i := 5) sc_law_slots.nd rfl (.inl rfl)) (pss_one (ps_expr (pe_bm PySem.F.plainAttrs_list PySem.F.slot_list_append PySem.F.type_list_append mt_append (pv 4) (pa_cons (pe_ix (ixL (K := K) rfl) (pe_lst (pa_cons (pe_call G_law_draw hr (by rfl) T.g_law_draw T.F_law_draw.kp T.b_law_draw .nil pass0 (pa_cons (pv 0) (pa_cons pe_int pa_nil))) (pa_cons (pe_callTy call_int1 (by rfl) T.n_int (by decide +kernel) (pa_cons (pe_cmpR op_eq (pv 5) pe_int (nomark _)) pa_nil)) (pa_cons pe_int (pa_cons (pe_callTy call_int1 (by rfl) T.n_int (by decide +kernel) (pa_cons (pe_cmpR op_eq (pe_op op_mod (pe_callTy call_int1 (by rfl) T.n_int (by decide +kernel) (pa_cons (pv 5) pa_nil)) pe_int) pe_int (nomark _)) pa_nil)) (pa_cons pe_int pa_nil)))))) (pe_callB (call_min2 rfl) (by rfl) T.n_min (by decide +kernel) (pa_cons (pv 3) (pa_cons pe_int pa_nil))) (fun _ _ => rfl)) pa_nil)))))
      (pss_mid (ps_if (pt_cmpR op_eq (pv 3) pe_int (nomark _)) (pss_one (ps_setLc (i := 4) (own := [("slot", 5)]) (g := gName 5) (tt := tYes) (by rfl) sc_law_slots.nd rfl rfl (sw_true rfl rfl rfl (by decide +kernel)) (pi_range1 (by rfl) T.n_range (pa_cons (pv 1) pa_nil)) (blkOk_by (own := [("slot", 5)]) (N := ["stock", "size", "far", "way_here", "found", "slot"]) (sc := defScope s_law_slots) (by decide +kernel))
        (fun _ _ _ _ _ => (pg_name (i := 5) sc_law_slots.nd rfl (Or.inl rfl))) (fun _ _ _ _ _ => pts_nil) (fun _ _ _ _ _ => (pe_call G_law_draw hr (by rfl) T.g_law_draw T.F_law_draw.kp T.b_law_draw .nil pass0 (pa_cons (pv 0) (pa_cons (pe_ix (ixL (K := K) rfl) (pe_lst (pa_cons pe_int (pa_cons (pe_op op_add (pv 2) pe_int) pa_nil))) (pe_call G_law_draw hr (by rfl) T.g_law_draw T.F_law_draw.kp T.b_law_draw .nil pass0 (pa_cons (pv 0) (pa_cons pe_int pa_nil))) (fun _ _ => rfl)) pa_nil)))))) pss_nil)
      (pss_mid (ps_if (pt_cmpR op_eq (pv 3) pe_int (nomark _)) (pss_one (ps_setLc (i := 4) (own := [("slot", 5)]) (g := gName 5) (tt := tYes) (by rfl) sc_law_slots.nd rfl rfl (sw_true rfl rfl rfl (by decide +kernel)) (pi_range1 (by rfl) T.n_range (pa_cons (pv 1) pa_nil)) (blkOk_by (own := [("slot", 5)]) (N := ["stock", "size", "far", "way_here", "found", "slot"]) (sc := defScope s_law_slots) (by decide +kernel))
        (fun _ _ _ _ _ => (pg_name (i := 5) sc_law_slots.nd rfl (Or.inl rfl))) (fun _ _ _ _ _ => pts_nil) (fun _ _ _ _ _ => (pe_ix (ixL (K := K) rfl) (pe_lst (pa_cons pe_int (pa_cons (pv 2) (pa_cons (pe_call G_law_draw hr (by rfl) T.g_law_draw T.F_law_draw.kp T.b_law_draw .nil pass0 (pa_cons (pv 0) (pa_cons (pe_op op_add (pv 2) pe_int) pa_nil))) pa_nil)))) (pe_call G_law_draw hr (by rfl) T.g_law_draw T.F_law_draw.kp T.b_law_draw .nil pass0 (pa_cons (pv 0) (pa_cons pe_int pa_nil))) (fun _ _ => rfl))))) pss_nil)
      (pss_one (ps_ret (pv 4))))))), ?_⟩
    refine ⟨.ref t, rfl, t, 6, c, rfl, by omega, by omega, hT, by omega, fun k H1 k0 k6 k1 u1 => ?_⟩
    refine ⟨(by show 0 ≤ sizeLine; decide), fun D hD => ⟨_, _, rfl, ?_⟩⟩
    have nD : D ≠ t := k1.ne hD
    have hHD := free_butS u1 hT hD nD
    have u2 := u1.trans (But.of (new_same (o := .lst []) hD))
    have k2 := k1.up (o := .lst []) hD
    have g2 : (upd H1 D (.lst [])) D = some (.lst (([] : List Int).map V.int)) := upd_same
    generalize upd H1 D (.lst []) = H2 at u2 k2 g2 ⊢
    refine ⟨.int n, rfl, n, rfl, by omega, by omega, for_range (lo := 0) (n := n.toNat)
      (fun i σ H' => ∃ (y5 : Option V) (ms : List Int), σ = [some (.ref t), some (.int n), some (.int f), some (.int k), some (.ref D), y5] ∧ But t H H' ∧ Stk H' t (c + 1 + i) ∧ H' D = some (.lst (ms.map V.int)) ∧ ms.length = i ∧ ∀ m ∈ ms, 0 ≤ m ∧ m ≤ 1000000000000000000000000000000)
      ⟨none, [], rfl, u2, k2.mono (by omega), g2, rfl, fun m hm => (List.not_mem_nil hm).elim⟩ (fun i σ H3 hi hP => ?_) (fun σ H3 hP => ?_)⟩
    · obtain ⟨y5, ms, rfl, u3, k3, g3, hlen, hall⟩ := hP
      refine ⟨.ref D, rfl, .inl ⟨rfl, _, SqL.of g3⟩, .ref t, rfl, t, 2, c + 1 + i, rfl, by omega, by omega, k3, by omega, fun v H4 v0 v1 k4 u4 => ?_⟩
      refine ⟨.int (0 + i), rfl, rfl, .inr ⟨decide (V.int (0 + (i : Int)) = V.int 0), rfl, .int (0 + i), rfl, .inl ⟨0 + i, rfl, 0 + i, 3, rfl, rfl, (by show (0 : Int) < 3; decide), rfl, .inr ⟨decide (V.int ((0 + (i : Int)) % 3) = V.int 1), rfl, (by show 5 ≤ sizeLine; decide), fun l hl => ?_⟩⟩⟩⟩
      obtain ⟨x, hx, hat⟩ := at_in (ns := [v, (if decide (V.int (0 + (i : Int)) = V.int 0) = true then 1 else 0), 1, (if decide (V.int ((0 + (i : Int)) % 3) = V.int 1) = true then 1 else 0), 0]) (i := if (4 : Int) < k then 4 else k) (by split <;> omega) (by show _ < ((5 : Nat) : Int); split <;> omega)
      have hx1 : 0 ≤ x ∧ x ≤ 1 := by
        have := List.mem_of_getElem? hx
        simp only [List.mem_cons, List.not_mem_nil, or_false] at this
        rcases this with e | e | e | e | e
        · omega
        · rw [e]; split <;> decide
        · omega
        · rw [e]; split <;> decide
        · omega
      have g4 : H4 D = some (.lst (ms.map V.int)) := u4 _ _ g3 nD
      have sl := new_same (o := .lst (([v, (if decide (V.int (0 + (i : Int)) = V.int 0) = true then 1 else 0), 1, (if decide (V.int ((0 + (i : Int)) % 3) = V.int 1) = true then 1 else 0), 0] : List Int).map V.int)) hl
      refine ⟨.int k, rfl, k, 4, rfl, l, _, _, .int x, rfl, rfl, SqL.of upd_same, hat, D, _, _, rfl, rfl, sl _ _ g4, by rw [List.length_map]; exact sz40 (by omega), ?_⟩
      refine ⟨_, ms ++ [x], rfl, but_over ((u3.trans u4).trans (But.of sl)) hHD, ((k4.same sl).over nD).mono (by omega), ?_, by rw [List.length_append]; show ms.length + 1 = i + 1; omega, fun z hz => ?_⟩
      · rw [upd_same, List.map_append]
        rfl
      · rcases List.mem_append.mp hz with h | h
        · exact hall z h
        · rw [List.mem_singleton.mp h]
          omega
    · obtain ⟨y5, ms, rfl, u3, k3, g3, hlen, hall⟩ := hP
      have hR : Rim ms := ⟨by omega, by omega, hall⟩
      refine ⟨MidSl t H n f k (c + 1 + n + 2 * n), ⟨.int k, rfl, rfl, _, rfl, ite2 (fun _ => ?_) (fun _ => ?_)⟩, fun σ' H6 hM => ?_⟩
      · refine ⟨.int n, rfl, n, rfl, by omega, by omega, fun D2 hD2 => ?_⟩
        have nD2 : D2 ≠ t := k3.ne hD2
        have hHD2 := free_butS u3 hT hD2 nD2
        refine lc_range (lo := 0) (n := n.toNat) (fun i H' => But t H H' ∧ Stk H' t (c + 1 + n + 2 * i) ∧ ∃ ms : List Int, H' D2 = some (.lst (ms.map V.int)) ∧ ms.length = i ∧ ∀ m ∈ ms, 0 ≤ m ∧ m ≤ 1000000000000000000000000000000)
          ⟨but_over u3 hHD2, (k3.up hD2).mono (by omega), [], upd_same, rfl, fun m hm => (List.not_mem_nil hm).elim⟩ (fun i H4 hi hP => ⟨rfl, ?_⟩) (fun H4 hP => ?_)
        · obtain ⟨u4, k4, ms, g4, hlen, hall⟩ := hP
          refine ⟨.ref t, rfl, .int f, rfl, f, 1, rfl, rfl, (by show 2 ≤ sizeLine; decide), fun l hl => ?_⟩
          refine ⟨.ref t, rfl, t, 2, c + 1 + n + 2 * i, rfl, by omega, by omega, k4.up hl, by omega, fun v H5 v0 v1 k5 u5 => ?_⟩
          have g5 : H5 l = some (.lst (([10, f + 1] : List Int).map V.int)) := u5 _ _ upd_same (k4.ne hl)
          obtain ⟨x, hx, hat⟩ := at_in (ns := [10, f + 1]) v0 (by show v < 2; omega)
          have hx1 : 1 ≤ x ∧ x ≤ 1000000000000000000000000000001 := by
            have := List.mem_of_getElem? hx
            simp only [List.mem_cons, List.not_mem_nil, or_false] at this
            omega
          refine ⟨l, _, v, .int x, rfl, rfl, SqL.of g5, hat, t, x, c + 1 + n + 2 * i + 1, rfl, by omega, by omega, k5, by omega, fun y H6 y0 y1 k6 u6 => ?_⟩
          have u46 := ((But.of (new_same hl)).trans u5).trans u6
          refine ⟨_, u46 _ _ g4 nD2, by rw [List.length_map]; exact sz40 (by omega), but_over (u4.trans u46) hHD2, (k6.over nD2).mono (by omega), ms ++ [y], ?_, by rw [List.length_append]; show ms.length + 1 = i + 1; omega, fun z hz => ?_⟩
          · rw [upd_same, List.map_append]
            rfl
          · rcases List.mem_append.mp hz with h | h
            · exact hall z h
            · rw [List.mem_singleton.mp h]
              omega
        · obtain ⟨u4, k4, ms, g4, hlen, hall⟩ := hP
          exact ⟨D2, ms, _, rfl, ⟨by omega, by omega, hall⟩, by omega, hHD2, g4, u4, k4.mono (by omega)⟩
      · exact ⟨D, ms, _, rfl, hR, by omega, hHD, g3, u3, k3.mono (by omega)⟩
      · obtain ⟨D6, n6, y5, rfl, hR6, hn6, hHD6, g6, u6, k6⟩ := hM
        refine ⟨MidSl t H n f k (c + 1 + n + 2 * n + 2 * n), ⟨.int k, rfl, rfl, _, rfl, ite2 (fun _ => ?_) (fun _ => ?_)⟩, fun σ' H8 hM => ?_⟩
        · refine ⟨.int n, rfl, n, rfl, by omega, by omega, fun D2 hD2 => ?_⟩
          have nD2 : D2 ≠ t := k6.ne hD2
          have hHD2 := free_butS u6 hT hD2 nD2
          refine lc_range (lo := 0) (n := n.toNat) (fun i H' => But t H H' ∧ Stk H' t (c + 1 + n + 2 * n + 2 * i) ∧ ∃ ms : List Int, H' D2 = some (.lst (ms.map V.int)) ∧ ms.length = i ∧ ∀ m ∈ ms, 0 ≤ m ∧ m ≤ 1000000000000000000000000000000)
            ⟨but_over u6 hHD2, (k6.up hD2).mono (by omega), [], upd_same, rfl, fun m hm => (List.not_mem_nil hm).elim⟩ (fun i H4 hi hP => ⟨rfl, ?_⟩) (fun H4 hP => ?_)
          · obtain ⟨u4, k4, ms, g4, hlen, hall⟩ := hP
            refine ⟨.int f, rfl, .ref t, rfl, .int f, rfl, f, 1, rfl, rfl, t, f + 1, c + 1 + n + 2 * n + 2 * i, rfl, by omega, by omega, k4, by omega, fun v H5 v0 v1 k5 u5 => ?_⟩
            refine ⟨(by show 3 ≤ sizeLine; decide), fun l hl => ?_⟩
            refine ⟨.ref t, rfl, t, 3, c + 1 + n + 2 * n + 2 * i + 1, rfl, by omega, by omega, k5.up hl, by omega, fun y H6 y0 y1 k6 u6 => ?_⟩
            have g5 : H6 l = some (.lst (([0, f, v] : List Int).map V.int)) := u6 _ _ upd_same (k5.ne hl)
            obtain ⟨x, hx, hat⟩ := at_in (ns := [0, f, v]) y0 (by show y < 3; omega)
            have hx1 : 0 ≤ x ∧ x ≤ 1000000000000000000000000000000 := by
              have := List.mem_of_getElem? hx
              simp only [List.mem_cons, List.not_mem_nil, or_false] at this
              omega
            have u46 := (u5.trans (But.of (new_same hl))).trans u6
            refine ⟨l, _, y, .int x, rfl, rfl, SqL.of g5, hat, _, u46 _ _ g4 nD2, by rw [List.length_map]; exact sz40 (by omega), but_over (u4.trans u46) hHD2, (k6.over nD2).mono (by omega), ms ++ [x], ?_, by rw [List.length_append]; show ms.length + 1 = i + 1; omega, fun z hz => ?_⟩
            · rw [upd_same, List.map_append]
              rfl
            · rcases List.mem_append.mp hz with h | h
              · exact hall z h
              · rw [List.mem_singleton.mp h]
                omega
          · obtain ⟨u4, k4, ms, g4, hlen, hall⟩ := hP
            exact ⟨D2, ms, _, rfl, ⟨by omega, by omega, hall⟩, by omega, hHD2, g4, u4, k4.mono (by omega)⟩
        · exact ⟨D6, n6, _, rfl, hR6, hn6, hHD6, g6, u6, k6.mono (by omega)⟩
        · obtain ⟨D8, n8, y5, rfl, hR8, hn8, hHD8, g8, u8, k8⟩ := hM
          exact ⟨.ref D8, rfl, q D8 n8 H8 hR8 hn8 u8 hHD8 g8 (k8.mono (by omega))⟩

theorem cut_drop (ns : List Int) (s : Int) (h0 : 0 ≤ s) : cutV (ns.map V.int) (some s) none = (ns.drop s.toNat).map V.int := by
  obtain ⟨k, rfl⟩ : ∃ k : Nat, s = (k : Int) := ⟨s.toNat, by omega⟩
  unfold cutV
  rw [HT.sIx_none, HT.sIx_nat, Int.toNat_natCast, List.map_drop]
  rcases Nat.le_total k (ns.map V.int).length with z | z
  · rw [Nat.min_eq_left z, List.take_of_length_le (by rw [List.length_drop]; omega)]
  · rw [Nat.min_eq_right z, List.drop_of_length_le (Nat.le_refl _), List.drop_of_length_le z, List.take_nil]

theorem ok_law_seen (T : Txt K mg) : FnOk P w K mg base CX0 1 T.a_law_seen T.d_law_seen ["rows", "others", "spin"] (spLight K) := by
  refine T.F_law_seen.ok sc_law_seen (fun vs H Q E h => ?_) (fun cdv A outer s H vs Q E hr h => ?_)
  · obtain ⟨_, _, _, _, _, rfl, _⟩ := h
    rfl
  · obtain ⟨a, b, ns, ms, t, rfl, hS, hS2, hl, h1, h40, hA, hB, q⟩ := h
    refine ⟨_, (pss_cons (ps_set (i := 3) sc_law_seen.nd rfl (.inr rfl) (pe_callB (lenL (K := K) rfl) (by rfl) T.n_len (by decide +kernel) (pa_cons (pv 0) pa_nil)))
      (pss_one (ps_ret (pe_callB (sumL (K := K) rfl rfl) (by rfl) T.n_sum (by decide +kernel) (pa_cons (pe_lc (own := [("slot", 4)]) (g := gName 4) (tt := tYes) (by rfl) sc_law_seen.nd (pi_range1 (by rfl) T.n_range (pa_cons (pv 3) pa_nil)) (blkOk_by (own := [("slot", 4)]) (N := ["rows", "others", "spin", "size", "slot"]) (sc := defScope s_law_seen) (by decide +kernel))
        (fun _ _ _ _ _ => (pg_name (i := 4) sc_law_seen.nd rfl (Or.inl rfl))) (fun _ _ _ _ _ => pts_nil) (fun _ _ _ _ _ => (pe_op op_mulW (pe_ix (ixL (K := K) rfl) (pv 0) (pv 4) (fun _ _ => rfl)) (pe_ix (ixL (K := K) rfl) (pv 1) (pe_op op_mod (pe_callTy call_int1 (by rfl) T.n_int (by decide +kernel) (pa_cons (pe_op op_sub (pv 4) (pv 2)) pa_nil)) (pv 3)) (fun _ _ => rfl))))) pa_nil))))), ?_⟩
    refine ⟨.ref a, rfl, a, _, rfl, .inl hS, ?_⟩
    rw [List.length_map]
    refine ⟨.int ns.length, rfl, ns.length, rfl, by omega, by omega, fun D hD => lc_range (lo := 0) (n := ((ns.length : Nat) : Int).toNat)
      (fun i H' => Same H H' ∧ H' D = some (.lst (((prods ns (rot ms t)).take i).map V.int))) ⟨new_same hD, upd_same⟩ (fun i H1 hi hP => ⟨rfl, ?_⟩) (fun H1 hP => ?_)⟩
    · obtain ⟨s1, hD1⟩ := hP
      rw [Int.toNat_natCast] at hi
      have hm := mod_in (i := (0 + (i : Int)) - t) (show 0 < ms.length by omega)
      obtain ⟨x, hx, hatx⟩ := at_in (ns := ns) (i := 0 + (i : Int)) (by omega) (by omega)
      obtain ⟨y, hy, haty⟩ := at_in hm.1 hm.2
      refine ⟨.ref a, rfl, .int (0 + i), rfl, a, _, _, .int x, rfl, rfl, s1.seq hS, hatx, ?_⟩
      refine ⟨.ref b, rfl, .int (0 + i), rfl, .int t, rfl, 0 + i, t, rfl, rfl, .inl ⟨_, rfl, .int ns.length, rfl, _, _, rfl, rfl, (by show (0 : Int) < _; omega), ?_⟩⟩
      rw [hl]
      refine ⟨b, _, _, .int y, rfl, rfl, s1.seq hS2, haty, x, y, rfl, rfl, wide_mul (hA.at hx) (hB.at hy) (by decide) (by decide) (by decide), ?_⟩
      refine ⟨_, hD1, ?_, same_over s1 hD, ?_⟩
      · rw [List.length_map, List.length_take]
        exact sz40 (by omega)
      · rw [upd_same, take_next]
        refine prods_at (by rw [show i = (0 + (i : Int)).toNat by omega]; exact hx) ?_
        rw [rot_at (by omega), ← getD_at hy, show (i : Int) - t = 0 + (i : Int) - t by omega]
    · obtain ⟨s1, hD1⟩ := hP
      rw [Int.toNat_natCast, take_all (by rw [prods_len, rot_len]; omega)] at hD1
      exact ⟨D, _, rfl, SqL.of hD1, q H1 s1⟩

/-! ### _law_after, _law_now -/
theorem set_parts {ms : List Int} {i : Nat} {l : Int} (h : i < ms.length) : ms.take i ++ [l] ++ ms.drop (i + 1) = ms.set i l := by
  rw [List.set_eq_take_append_cons_drop, if_pos h, List.append_assoc]
  rfl
def NowAt (H : Hp) (n o : Addr) (s : LS) : Prop := H n = some (.tup [.ref o, .int s.2]) ∧ H o = some (.lst (s.1.map V.int))
def spAfter (K : PySem.W.Frag) : Sp := fun vs H Q _ => ∃ (n o c : Addr) (s : LS) (m : Nat) (k : LC), vs = [.ref n, .ref c] ∧ NowAt H n o s ∧ H c = some (.tup k.v) ∧ LSok m s ∧ k.ok m ∧
  ∀ (r o' : Addr) (H' : Hp), Same H H' → H r = none → NowAt H' r o' (k.on s) → (o' = o ∨ H o' = none) → Q (.ref r) H'
theorem ok_law_after (T : Txt K mg) : FnOk P w K mg base CX0 1 T.a_law_after T.d_law_after ["now", "call"] (spAfter K) := by
  refine T.F_law_after.ok sc_law_after (fun vs H Q E h => ?_) (fun cdv A outer s H vs Q E hr h => ?_)
  · obtain ⟨_, _, _, _, _, _, rfl, _⟩ := h
    rfl
  · obtain ⟨n, o, c, s, m, k, rfl, ⟨gn, go⟩, gc, hs, hk, q⟩ := h
    obtain ⟨hR, hl, h0, h1⟩ := hs
    have lp := hR.pos
    have l40 := hR.le
    refine ⟨_, (pss_cons (ps_asg (pv 0) (pg_tupL (K := K) (n := 2) rfl rfl (pgs_cons (pg_name (i := 2) sc_law_after.nd rfl (.inr rfl)) (pgs_cons (pg_name (i := 3) sc_law_after.nd rfl (.inl rfl)) pgs_nil))))
      (pss_cons (ps_if (pt_cmpR op_eq (pe_ix (ixTL (K := K) rfl) (pv 1) pe_int (fun _ _ => rfl)) pe_str (nomark _)) (pss_one (ps_ret (pe_tup (pa_cons (pv 2) (pa_cons (pe_op op_mod (pe_callTy call_int1 (by rfl) T.n_int (by decide +kernel) (pa_cons (pe_op op_add (pv 3) (pe_ix (ixTL (K := K) rfl) (pv 1) pe_int (fun _ _ => rfl))) pa_nil)) (pe_callB (lenL (K := K) rfl) (by rfl) T.n_len (by decide +kernel) (pa_cons (pv 2) pa_nil))) pa_nil))))) pss_nil)
      (pss_cons (ps_if (pt_cmpR op_eq (pe_ix (ixTL (K := K) rfl) (pv 1) pe_int (fun _ _ => rfl)) pe_str (nomark _)) (pss_one (ps_ret (pe_tup (pa_cons (pe_op op_cat (pe_op op_cat (pe_slice (slL (K := K) rfl) (pv 2) po_none (po_some (pe_ix (ixTL (K := K) rfl) (pv 1) pe_int (fun _ _ => rfl)))) (pe_lst (pa_cons (pe_ix (ixTL (K := K) rfl) (pv 1) pe_int (fun _ _ => rfl)) pa_nil))) (pe_slice (slL (K := K) rfl) (pv 2) (po_some (pe_op op_add (pe_ix (ixTL (K := K) rfl) (pv 1) pe_int (fun _ _ => rfl)) pe_int)) po_none)) (pa_cons (pv 3) pa_nil))))) pss_nil)
      (pss_one (ps_ret (pe_tup (pa_cons (pe_lc (own := [("slot", 4)]) (g := gName 4) (tt := tYes) (by rfl) sc_law_after.nd (pi_range1 (by rfl) T.n_range (pa_cons (pe_callB (lenL (K := K) rfl) (by rfl) T.n_len (by decide +kernel) (pa_cons (pv 2) pa_nil)) pa_nil)) (blkOk_by (own := [("slot", 4)]) (N := ["now", "call", "others", "spin", "slot"]) (sc := defScope s_law_after) (by decide +kernel))
        (fun _ _ _ _ _ => (pg_name (i := 4) sc_law_after.nd rfl (Or.inl rfl))) (fun _ _ _ _ _ => pts_nil) (fun _ _ _ _ _ => (pe_ix (ixL (K := K) rfl) (pv 2) (pe_op op_mod (pe_callTy call_int1 (by rfl) T.n_int (by decide +kernel) (pa_cons (pe_op op_sub pe_int (pv 4)) pa_nil)) (pe_callB (lenL (K := K) rfl) (by rfl) T.n_len (by decide +kernel) (pa_cons (pv 2) pa_nil))) (fun _ _ => rfl)))) (pa_cons (pv 3) pa_nil)))))))), ?_⟩
    refine ⟨.ref n, rfl, n, _, rfl, SqT.of gn, rfl, _, _, rfl, _, _, rfl, rfl, ?_⟩
    cases k with
    | turn k =>
      refine ⟨.ref c, rfl, c, _, 0, .str sTurn, rfl, rfl, SqT.of gc, rfl, rfl, _, rfl, ite2 (fun _ => ?_) (fun h => absurd (by decide +kernel) h)⟩
      refine ⟨.ref o, rfl, .int s.2, rfl, .ref c, rfl, c, _, 1, .int k, rfl, rfl, SqT.of gc, rfl, s.2, k, rfl, rfl, .inl ⟨_, rfl, .ref o, rfl, o, _, rfl, .inl (SqL.of go), ?_⟩⟩
      rw [List.length_map]
      refine ⟨_, _, rfl, rfl, (by show (0 : Int) < (s.1.length : Int); omega), (by show 2 ≤ sizeLine; decide), fun r hr => ?_⟩
      exact q r o _ (new_same hr) hr ⟨upd_same, new_same hr _ _ go⟩ (.inl rfl)
    | slot i l =>
      obtain ⟨hi, hl0, hl1⟩ := hk
      refine ⟨.ref c, rfl, c, _, 0, .str sSlot, rfl, rfl, SqT.of gc, rfl, rfl, _, rfl, ite2 (fun h => absurd h (by decide +kernel)) (fun _ => ?_)⟩
      refine ⟨.ref c, rfl, c, _, 0, .str sSlot, rfl, rfl, SqT.of gc, rfl, rfl, _, rfl, ite2 (fun _ => ?_) (fun h => absurd (by decide +kernel) h)⟩
      refine ⟨.ref o, rfl, .ref c, rfl, c, _, 1, .int i, rfl, rfl, SqT.of gc, rfl, i, rfl, o, _, rfl, SqL.of go, fun x1 f1 => ?_⟩
      rw [cut_take s.1 _ (by omega), Int.toNat_natCast]
      have d1 := new_same (o := .lst ((s.1.take i).map V.int)) f1
      have g1 : (upd H x1 (.lst ((s.1.take i).map V.int))) x1 = some (.lst ((s.1.take i).map V.int)) := upd_same
      generalize upd H x1 (.lst ((s.1.take i).map V.int)) = H1 at d1 g1 ⊢
      refine ⟨.ref c, rfl, c, _, 2, .int l, rfl, rfl, SqT.of (d1 _ _ gc), rfl, (by show 1 ≤ sizeLine; decide), fun x2 f2 => ?_⟩
      have d2 := new_same (o := .lst [.int l]) f2
      refine ⟨x1, x2, _, _, rfl, rfl, d2 _ _ g1, upd_same, ?_, fun x3 f3 => ?_⟩
      · rw [List.length_map, List.length_take]
        exact sz40' (by show min i s.1.length + 1 ≤ 100000; omega)
      have e3 : (s.1.take i).map V.int ++ [V.int l] = (s.1.take i ++ [l]).map V.int := by rw [List.map_append]; rfl
      rw [e3]
      have d3 := new_same (o := .lst ((s.1.take i ++ [l]).map V.int)) f3
      have g3 : (upd (upd H1 x2 (.lst [.int l])) x3 (.lst ((s.1.take i ++ [l]).map V.int))) x3 = some (.lst ((s.1.take i ++ [l]).map V.int)) := upd_same
      have d13 := (d1.trans d2).trans d3
      generalize upd (upd H1 x2 (.lst [.int l])) x3 (.lst ((s.1.take i ++ [l]).map V.int)) = H3 at d13 g3 ⊢
      refine ⟨.ref o, rfl, .ref c, rfl, c, _, 1, .int i, rfl, rfl, SqT.of (d13 _ _ gc), rfl, i, 1, rfl, rfl, _, rfl, o, _, rfl, SqL.of (d13 _ _ go), fun x4 f4 => ?_⟩
      rw [cut_drop s.1 _ (by omega), show ((i : Int) + 1).toNat = i + 1 by omega]
      have d4 := new_same (o := .lst ((s.1.drop (i + 1)).map V.int)) f4
      refine ⟨x3, x4, _, _, rfl, rfl, d4 _ _ g3, upd_same, ?_, fun x5 f5 => ?_⟩
      · rw [List.length_map, List.length_map, List.length_append, List.length_take, List.length_drop]
        exact sz40' (by show min i s.1.length + 1 + (s.1.length - (i + 1)) ≤ 100000; omega)
      have e5 : (s.1.take i ++ [l]).map V.int ++ (s.1.drop (i + 1)).map V.int = (s.1.set i l).map V.int := by rw [← List.map_append, set_parts (by omega)]
      rw [e5]
      have d5 := new_same (o := .lst ((s.1.set i l).map V.int)) f5
      refine ⟨.int s.2, rfl, (by show 2 ≤ sizeLine; decide), fun r hr => ?_⟩
      have d6 := new_same (o := .tup [.ref x5, .int s.2]) hr
      have d16 := ((d13.trans d4).trans d5).trans d6
      exact q r x5 _ d16 (none_back ((d13.trans d4).trans d5) hr) ⟨upd_same, d6 _ _ upd_same⟩ (.inr (none_back (d13.trans d4) f5))
    | flip =>
      refine ⟨.ref c, rfl, c, _, 0, .str sMir, rfl, rfl, SqT.of gc, rfl, rfl, _, rfl, ite2 (fun h => absurd h (by decide +kernel)) (fun _ => ?_)⟩
      refine ⟨.ref c, rfl, c, _, 0, .str sMir, rfl, rfl, SqT.of gc, rfl, rfl, _, rfl, ite2 (fun h => absurd h (by decide +kernel)) (fun _ => ?_)⟩
      refine ⟨.ref o, rfl, o, _, rfl, .inl (SqL.of go), ?_⟩
      rw [List.length_map]
      refine ⟨s.1.length, rfl, by omega, by omega, fun D hD => lc_range (lo := 0) (n := ((s.1.length : Nat) : Int).toNat)
        (fun i H' => Same H H' ∧ H' D = some (.lst (((mir s.1).take i).map V.int))) ⟨new_same hD, upd_same⟩ (fun i H1 hi hP => ⟨rfl, ?_⟩) (fun H1 hP => ?_)⟩
      · obtain ⟨s1, hD1⟩ := hP
        rw [Int.toNat_natCast] at hi
        have hm := mod_in (i := 0 - (0 + (i : Int))) (show 0 < s.1.length by omega)
        obtain ⟨x, hx, hat⟩ := at_in hm.1 hm.2
        refine ⟨.ref o, rfl, .int (0 + i), rfl, 0, 0 + i, rfl, rfl, .inl ⟨_, rfl, .ref o, rfl, o, _, rfl, .inl (SqL.of (s1 _ _ go)), ?_⟩⟩
        rw [List.length_map]
        refine ⟨_, _, rfl, rfl, (by show (0 : Int) < _; omega), o, _, _, .int x, rfl, rfl, SqL.of (s1 _ _ go), hat, _, hD1, ?_, same_over s1 hD, ?_⟩
        · rw [List.length_map, List.length_take]
          exact sz40 (by omega)
        · rw [upd_same, take_next]
          rw [mir_at hi]
          rw [show -(i : Int) = 0 - (0 + (i : Int)) by omega, getD_at hx]
      · obtain ⟨s1, hD1⟩ := hP
        rw [Int.toNat_natCast, take_all (by rw [mir_len]; exact Nat.le_refl _)] at hD1
        refine ⟨.int s.2, rfl, (by show 2 ≤ sizeLine; decide), fun r hr => ?_⟩
        have d6 := new_same (o := .tup [.ref D, .int s.2]) hr
        exact q r D _ (s1.trans d6) (none_back s1 hr) ⟨upd_same, d6 _ _ hD1⟩ (.inr hD)

def LS.d (s : LS) : PyData := .tuple [dI s.1, .int s.2]
theorem e40P : (10 : Nat) ^ 40 = 10000000000000000000000000000000000000000 := by decide +kernel
theorem rim10 {ns : List Int} (h : Rim ns) : ∀ x ∈ ns, x.natAbs < 10 ^ 40 := fun x hx => by
  have := h.all x hx
  rw [e40P]
  omega
theorem LS.dat {n : Nat} {s : LS} (h : LSok n s) : Dat 2 90000 (LS.d s) := by
  have l40 := h.1.le
  have l1 := h.2.1
  have l2 := h.2.2
  exact (dat_tup (k := 1) (B := 40200) (n := 2) (fun d hd => by
    simp only [List.mem_cons, List.not_mem_nil, or_false] at hd
    rcases hd with rfl | rfl
    · exact (dat_ints (k := 40) (n := 40) (rim10 h.1) (by decide) h.1.le).mono (by decide) (by decide)
    · exact (dat_int (k := 40) (by rw [e40P]; omega) (by decide)).mono (by decide) (by decide)) (by decide) (by show 2 ≤ 2; decide)).mono (by decide) (by decide)

/-! ### what is done: each call with what is behind it -/
inductive DnAt (H : Hp) (ok : Addr → Prop) : List V → List (LC × LS) → Prop
  | nil : DnAt H ok [] []
  | cons {t c n o : Addr} {k : LC} {s : LS} {vs : List V} {rs : List (LC × LS)} (h : H t = some (.tup [.ref c, .ref n])) (hc : H c = some (.tup k.v)) (hn : NowAt H n o s) (ho : ok o) (r : DnAt H ok vs rs) : DnAt H ok (.ref t :: vs) ((k, s) :: rs)
theorem NowAt.upd {H H' : Hp} {n o : Addr} {s : LS} {ok : Addr → Prop} (h : NowAt H n o s) (ho : ok o) (k : ∀ b x, H b = some x → ok b → H' b = some x) (kt : ∀ b xs, H b = some (.tup xs) → ok b) : NowAt H' n o s :=
  ⟨k _ _ h.1 (kt _ _ h.1), k _ _ h.2 ho⟩
theorem DnAt.up {H H' : Hp} {ok : Addr → Prop} {vs : List V} {rs : List (LC × LS)} (h : DnAt H ok vs rs) (k : ∀ b x, H b = some x → ok b → H' b = some x) (kt : ∀ b xs, H b = some (.tup xs) → ok b) : DnAt H' ok vs rs := by
  induction h with
  | nil => exact .nil
  | cons h hc hn ho _ ih => exact .cons (k _ _ h (kt _ _ h)) (k _ _ hc (kt _ _ hc)) (hn.upd ho k kt) ho ih
theorem DnAt.same {H H' : Hp} {ok : Addr → Prop} {vs : List V} {rs : List (LC × LS)} (h : DnAt H ok vs rs) (s : Same H H') : DnAt H' ok vs rs := by
  induction h with
  | nil => exact .nil
  | cons h hc hn ho _ ih => exact .cons (s _ _ h) (s _ _ hc) ⟨s _ _ hn.1, s _ _ hn.2⟩ ho ih
theorem DnAt.len {H : Hp} {ok : Addr → Prop} {vs : List V} {rs : List (LC × LS)} (h : DnAt H ok vs rs) : vs.length = rs.length := by
  induction h with
  | nil => rfl
  | cons _ _ _ _ _ ih => rw [List.length_cons, List.length_cons, ih]
theorem DnAt.snoc {H : Hp} {ok : Addr → Prop} {vs : List V} {rs : List (LC × LS)} {t c n o : Addr} {k : LC} {s : LS} (h : DnAt H ok vs rs) (e : H t = some (.tup [.ref c, .ref n])) (hc : H c = some (.tup k.v)) (hn : NowAt H n o s) (ho : ok o) : DnAt H ok (vs ++ [.ref t]) (rs ++ [(k, s)]) := by
  induction h with
  | nil => exact .cons e hc hn ho .nil
  | cons h hc hn ho _ ih => exact .cons h hc hn ho ih
theorem DnAt.at {H : Hp} {ok : Addr → Prop} {vs : List V} {rs : List (LC × LS)} (h : DnAt H ok vs rs) : ∀ {i : Nat} {v : V}, vs[i]? = some v → ∃ t c n o k s, v = .ref t ∧ rs[i]? = some (k, s) ∧ H t = some (.tup [.ref c, .ref n]) ∧ H c = some (.tup k.v) ∧ NowAt H n o s ∧ ok o := by
  induction h with
  | nil => exact fun e => nomatch e
  | cons h hc hn ho _ ih =>
    intro i v e
    cases i with
    | zero => exact ⟨_, _, _, _, _, _, (Option.some.inj e).symm, rfl, h, hc, hn, ho⟩
    | succ i => exact ih e
def dRow (r : LC × LS) : PyData := .tuple [r.1.d, LS.d r.2]
theorem DnAt.dp {K : PySem.W.Frag} {H : Hp} {ok : Addr → Prop} {vs : List V} {rs : List (LC × LS)} (h : DnAt H ok vs rs) : DpAll K H vs (rs.map dRow) := by
  induction h with
  | nil => exact .nil
  | cons h hc hn _ _ ih => exact .cons (.tup (SqT.of h) (.cons (LC.dp hc) (.cons (.tup (SqT.of hn.1) (.cons (dp_ints (SqL.of hn.2)) (.cons (.int _) .nil))) .nil))) ih
theorem row_dat {n : Nat} {r : LC × LS} (h1 : r.1.ok n) (h2 : LSok n r.2) : Dat 3 200000 (dRow r) :=
  (dat_tup (k := 2) (B := 90000) (n := 2) (fun d hd => by
    simp only [List.mem_cons, List.not_mem_nil, or_false] at hd
    rcases hd with rfl | rfl
    · exact (LC.dat h1 (by have := h2.1.le; have := h2.2.1; omega)).mono (by decide) (by decide)
    · exact LS.dat h2) (by decide) (by show 2 ≤ 2; decide)).mono (by decide) (by decide)
def RsOk (n : Nat) (rs : List (LC × LS)) : Prop := ∀ r ∈ rs, r.1.ok n ∧ LSok n r.2
theorem rows_shaped {n : Nat} {rs : List (LC × LS)} (h : RsOk n rs) : SeqAt.shaped (.list (rs.map dRow)) = true :=
  (dat_list (k := 3) (B := 200000) (n := rs.length) (fun d hd => by
    obtain ⟨r, hr, rfl⟩ := List.mem_map.mp hd
    exact row_dat (h r hr).1 (h r hr).2) (by decide) (by rw [List.length_map]; exact Nat.le_refl _)).rp.shaped
theorem rows_ne {rs : List (LC × LS)} : PyData.eqv (.list (rs.map dRow)) (.list []) = rs.isEmpty := by cases rs <;> rfl
/-- what is behind all that is done -/
def nowOf (b : LS) (rs : List (LC × LS)) : LS := match rs.getLast? with
  | some r => r.2
  | none => b
def spNow (K : PySem.W.Frag) : Sp := fun vs H Q _ => ∃ (n o d : Addr) (b : LS) (m : Nat) (us : List V) (rs : List (LC × LS)) (ok : Addr → Prop), vs = [.ref n, .ref d] ∧ NowAt H n o b ∧ ok o ∧ H d = some (.lst us) ∧ DnAt H ok us rs ∧ RsOk m rs ∧
  ∀ (n' o' : Addr) (H' : Hp), Same H H' → NowAt H n' o' (nowOf b rs) → ok o' → Q (.ref n') H'
theorem ok_law_now (T : Txt K mg) : FnOk P w K mg base CX0 1 T.a_law_now T.d_law_now ["begin", "done"] (spNow K) := by
  refine T.F_law_now.ok sc_law_now (fun vs H Q E h => ?_) (fun cdv A outer s H vs Q E hr h => ?_)
  · obtain ⟨_, _, _, _, _, _, _, _, rfl, _⟩ := h
    rfl
  · obtain ⟨n, o, d, b, m, us, rs, ok, rfl, hb, ho, gd, hd, hk, q⟩ := h
    refine ⟨_, (pss_one (ps_ret (pe_ifExp (pt_cmpR (neD (K := K) rfl hr) (pv 1) (pe_lst pa_nil) (nomark _)) (pe_ix (ixTL (K := K) rfl) (pe_ix (ixL (K := K) rfl) (pv 1) (pe_un un_neg pe_int) (fun _ _ => rfl)) pe_int (fun _ _ => rfl)) (pv 0)))), ?_⟩
    refine ⟨.ref d, rfl, (by show 0 ≤ sizeLine; decide), fun l hl => ?_⟩
    have dl := new_same (o := .lst []) hl
    refine ⟨_, _, .lst (SqL.of (dl _ _ gd)) (hd.same dl).dp, .lst (SqL.of upd_same) .nil, rows_shaped hk, by decide, _, rfl, ?_⟩
    rw [rows_ne]
    by_cases hz : rs = []
    · subst hz
      refine ite2 (fun h => absurd h (by decide)) (fun _ => ?_)
      exact ⟨.ref n, rfl, q n o _ dl hb ho⟩
    · have hp : 0 < rs.length := List.length_pos_iff.mpr hz
      have e0 : rs.isEmpty = false := by
        cases rs with
        | nil => exact absurd rfl hz
        | cons _ _ => rfl
      rw [e0]
      refine ite2 (fun _ => ?_) (fun h => absurd rfl h)
      have hl2 := hd.len
      obtain ⟨v, hv⟩ : ∃ v, us[rs.length - 1]? = some v := ⟨us[rs.length - 1]'(by omega), List.getElem?_eq_getElem (by omega)⟩
      obtain ⟨t, c, n', o', k, s', rfl, er, et, ec, en, eo⟩ := hd.at hv
      have hat : atI us (-1) = some (.ref t) := by
        have e2 : us = us.take (us.length - 1) ++ [.ref t] := by
          have h2 := List.take_append_drop (us.length - 1) us
          have h3 : us.drop (us.length - 1) = [.ref t] := by
            rw [List.drop_eq_getElem_cons (by omega), List.drop_of_length_le (by omega)]
            rw [show rs.length - 1 = us.length - 1 by omega, List.getElem?_eq_getElem (by omega)] at hv
            rw [Option.some.inj hv]
          rw [h3] at h2
          exact h2.symm
        rw [e2]
        exact atI_last _ _
      refine ⟨.ref d, rfl, 1, rfl, d, _, _, .ref t, rfl, rfl, SqL.of (dl _ _ gd), hat, t, _, 1, .ref n', rfl, rfl, SqT.of (dl _ _ et), rfl, q n' o' _ dl ?_ eo⟩
      have e3 : nowOf b rs = s' := by
        unfold nowOf
        rw [List.getLast?_eq_getElem?, er]
      rw [e3]
      exact en
/-! ### all that is told -/
def dTold (ns : List Int) (s : LS) (cs : List LC) : PyData := .list [dI ns, dI s.1, .int s.2, .int (lightV ns s.1 s.2), .list (cs.map LC.d), .int cs.length]
theorem told_dat {ns : List Int} {s : LS} {cs : List LC} (hR : Rim ns) (hs : LSok ns.length s) (hc : ∀ c ∈ cs, c.ok ns.length) (hn : cs.length ≤ 600) : Dat 3 15000000 (dTold ns s cs) := by
  have l40 := hR.le
  have l1 := hs.2.1
  have l2 := hs.2.2
  have hli := lightV_lt hR.ab (hs.1.ab) (by omega) s.2
  refine (dat_list (k := 2) (B := 2000000) (n := 6) (fun d hd => ?_) (by decide) (by show 6 ≤ 6; decide)).mono (by decide) (by decide)
  simp only [List.mem_cons, List.not_mem_nil, or_false] at hd
  rcases hd with rfl | rfl | rfl | rfl | rfl | rfl
  · exact (dat_ints (k := 40) (n := 40) (rim10 hR) (by decide) hR.le).mono (by decide) (by decide)
  · exact (dat_ints (k := 40) (n := 40) (rim10 hs.1) (by decide) hs.1.le).mono (by decide) (by decide)
  · exact (dat_int (k := 40) (by rw [e40P]; omega) (by decide)).mono (by decide) (by decide)
  · exact (dat_int (k := 80) (Nat.lt_trans hli (by decide +kernel)) (by decide)).mono (by decide) (by decide)
  · exact (dat_list (k := 1) (B := 3012) (n := 600) (fun d hd => by
      obtain ⟨c, hc', rfl⟩ := List.mem_map.mp hd
      exact LC.dat (hc c hc') hR.le) (by decide) (by rw [List.length_map]; exact hn)).mono (by decide) (by decide)
  · exact (dat_int (k := 40) (by rw [e40P]; omega) (by decide)).mono (by decide) (by decide)
def spDue (K : PySem.W.Frag) : Sp := fun vs H Q _ => ∃ (a n o d : Addr) (ns : List Int) (b : LS) (us : List V) (rs : List (LC × LS)) (ok : Addr → Prop), vs = [.ref a, .ref n, .ref d] ∧ H a = some (.lst (ns.map V.int)) ∧ Rim ns ∧ NowAt H n o b ∧ ok o ∧ LSok ns.length b ∧ H d = some (.lst us) ∧ DnAt H ok us rs ∧
  RsOk ns.length rs ∧ rs.length ≤ 600 ∧ ∀ H', Same H H' → Q (.str (dTold ns (nowOf b rs) (rs.map (·.1))).shown) H'
theorem now_ok {m : Nat} {b : LS} {rs : List (LC × LS)} (hb : LSok m b) (h : RsOk m rs) : LSok m (nowOf b rs) := by
  unfold nowOf
  split
  · rename_i r e
    exact (h r (List.mem_of_getLast? e)).2
  · exact hb
theorem ClsAt.same {H H' : Hp} {us : List V} {cs : List LC} (h : ClsAt (fun _ => False) H us cs) (s : Same H H') : ClsAt (fun _ => False) H' us cs := by
  induction h with
  | nil => exact .nil
  | cons h f _ ih => exact .cons (s _ _ h) f ih
theorem ok_law_due (T : Txt K mg) : FnG P w K mg base CX0 2 T.a_law_due T.d_law_due ["rows", "begin", "done"] (spDue K) := by
  have G_law_now := ok_law_now (P := P) (w := w) (base := base) T
  have G_law_seen := ok_law_seen (P := P) (w := w) (base := base) T
  refine okG T.F_law_due sc_law_due (fun vs H Q E h => ?_) (fun cdv A outer s H vs Q E hg hr h => ?_)
  · obtain ⟨_, _, _, _, _, _, _, _, _, rfl, _⟩ := h
    rfl
  · obtain ⟨a, n, o, d, ns, b, us, rs, ok, rfl, gA, hR, hb, ho, hbk, gd, hd, hk, hn, q⟩ := h
    refine ⟨_, (pss_cons (ps_asg (pe_call G_law_now hr (by rfl) T.g_law_now T.F_law_now.kp T.b_law_now .nil pass0 (pa_cons (pv 1) (pa_cons (pv 2) pa_nil))) (pg_tupL (K := K) (n := 2) rfl rfl (pgs_cons (pg_name (i := 3) sc_law_due.nd rfl (.inl rfl)) (pgs_cons (pg_name (i := 4) sc_law_due.nd rfl (.inl rfl)) pgs_nil))))
      (pss_cons (ps_set (i := 5) sc_law_due.nd rfl (.inl rfl) (pe_call G_law_seen hr (by rfl) T.g_law_seen T.F_law_seen.kp T.b_law_seen .nil pass0 (pa_cons (pv 0) (pa_cons (pv 3) (pa_cons (pv 4) pa_nil)))))
      (pss_one (ps_ret (pe_callB (reprL (K := K) rfl hg hr) (by rfl) T.n_repr (by decide +kernel) (pa_cons (pe_lst (pa_cons (pv 0) (pa_cons (pv 3) (pa_cons (pv 4) (pa_cons (pv 5) (pa_cons (pe_lc (own := [("row", 6)]) (g := gName 6) (tt := tYes) (by rfl) sc_law_due.nd (pi_listL (K := K) rfl (pv 2)) (blkOk_by (own := [("row", 6)]) (N := ["rows", "begin", "done", "others", "spin", "shine", "row"]) (sc := defScope s_law_due) (by decide +kernel))
        (fun _ _ _ _ _ => (pg_name (i := 6) sc_law_due.nd rfl (Or.inl rfl))) (fun _ _ _ _ _ => pts_nil) (fun _ _ _ _ _ => (pe_ix (ixTL (K := K) rfl) (pv 6) pe_int (fun _ _ => rfl)))) (pa_cons (pe_callB (lenL (K := K) rfl) (by rfl) T.n_len (by decide +kernel) (pa_cons (pv 2) pa_nil)) pa_nil))))))) pa_nil)))))), ?_⟩
    have nk := now_ok hbk hk
    have hcs : ∀ c ∈ rs.map (·.1), c.ok ns.length := fun c hc => by
      obtain ⟨r, hr, rfl⟩ := List.mem_map.mp hc
      exact (hk r hr).1
    have hD := told_dat hR nk hcs (by rw [List.length_map]; exact hn)
    refine ⟨.ref n, rfl, .ref d, rfl, n, o, d, b, ns.length, us, rs, ok, rfl, hb, ho, gd, hd, hk, fun n' o' H1 s1 hN' ho' => ?_⟩
    have hN : NowAt H1 n' o' (nowOf b rs) := ⟨s1 _ _ hN'.1, s1 _ _ hN'.2⟩
    obtain ⟨S, hS⟩ : ∃ S, S = nowOf b rs := ⟨_, rfl⟩
    rw [← hS] at hN nk hD q
    refine ⟨n', _, rfl, SqT.of hN.1, rfl, _, _, rfl, _, _, rfl, rfl, ?_⟩
    refine ⟨.ref a, rfl, .ref o', rfl, .int S.2, rfl, a, o', ns, S.1, S.2, rfl, SqL.of (s1 _ _ gA), SqL.of hN.2, nk.2.1.symm, hR.pos, hR.le, hR.ab, nk.1.ab.mono (by decide), fun H2 s2 => ?_⟩
    have s12 := s1.trans s2
    refine ⟨.ref a, rfl, .ref o', rfl, .int S.2, rfl, .int (lightV ns S.1 S.2), rfl, .ref d, rfl, d, rfl, ⟨_, SqL.of (s12 _ _ gd)⟩, fun D hD1 => ?_⟩
    refine lc_list (K := K) (a := d) (xs := us) (fun i H' => Same H2 H' ∧ ∃ ws, H' D = some (.lst ws) ∧ ClsAt (fun _ => False) H2 ws ((rs.map (·.1)).take i))
      ⟨new_same hD1, [], upd_same, .nil⟩ (fun i H' _ hP => SqL.of (hP.1 _ _ (s12 _ _ gd))) (fun i x H3 hx hP => ⟨rfl, ?_⟩) (fun H3 hP => ?_)
    · obtain ⟨s3, ws, g3, r3⟩ := hP
      have hd2 := hd.same s12
      obtain ⟨t, c, n2, o2, k, s', rfl, er, et, ec, en, eo⟩ := hd2.at hx
      have wl := r3.len
      rw [List.length_take, List.length_map] at wl
      refine ⟨.ref t, rfl, t, _, 0, .ref c, rfl, rfl, SqT.of (s3 _ _ et), rfl, _, g3, sz40 (by omega), same_over s3 hD1, ws ++ [.ref c], upd_same, ?_⟩
      rw [List.take_add_one, List.getElem?_map, er]
      exact r3.snoc ec (fun z => z)
    · obtain ⟨s3, ws, g3, r3⟩ := hP
      have hul := hd.len
      rw [List.take_of_length_le (by rw [List.length_map, hul]; exact Nat.le_refl _)] at r3
      have s13 := s12.trans s3
      have hdl := hd.len
      have er : us.length = (rs.map (·.1)).length := by rw [List.length_map, hdl]
      refine ⟨.ref d, rfl, d, _, rfl, .inl (SqL.of (s13 _ _ gd)), ?_⟩
      rw [er]
      refine ⟨(by show 6 ≤ sizeLine; decide), fun z hz => ?_⟩
      have s4 := new_same (o := .lst [.ref a, .ref o', .int S.2, .int (lightV ns S.1 S.2), .ref D, .int (rs.map (·.1)).length]) hz
      have s14 := s13.trans s4
      refine ⟨z, _, rfl, .lst (SqL.of upd_same) (.cons (dp_ints (SqL.of (s14 _ _ gA))) (.cons (dp_ints (SqL.of (s4 _ _ (s3 _ _ (s2 _ _ hN.2))))) (.cons (.int _) (.cons (.int _) (.cons (.lst (SqL.of (s4 _ _ g3)) ((r3.same s3).same s4).dp) (.cons (.int _) .nil)))))), ?_⟩
      exact ⟨hD.rp.sh, hD.rp.nd, hD.rp.dp, hD.fits (by decide), q _ s14⟩
def spTold (K : PySem.W.Frag) (C : Addr) : Sp := fun vs H Q _ => ∃ (Z : Addr → Prop) (p D S L : Addr) (ns : List Int) (ss : List LS) (s : LS) (cs : List LC), vs = [.ref p] ∧ LiveAt C Z H p D S L ns (ss ++ [s]) cs ∧ cs.length ≤ 600 ∧ ∀ H', Same H H' → Q (.str (dTold ns s cs).shown) H'
theorem ok_law_told (T : Txt K mg) : FnG P w K mg base CX0 5 T.a_law_told T.d_law_told ["one_here"] (spTold K T.C_LiveDiscs) := by
  have G_LiveDiscs_disc := ok_LiveDiscs_disc (P := P) (w := w) (base := base) T
  have G_LiveDiscs_other := ok_LiveDiscs_other (P := P) (w := w) (base := base) T
  have G_LiveDiscs_turn := ok_LiveDiscs_turn (P := P) (w := w) (base := base) T
  have G_LiveDiscs_light := ok_LiveDiscs_light (P := P) (w := w) (base := base) T
  have G_LiveDiscs_log := ok_LiveDiscs_log (P := P) (w := w) (base := base) T
  have G_LiveDiscs_len := ok_LiveDiscs_len (P := P) (w := w) (base := base) T
  refine okG T.F_law_told sc_law_told (fun vs H Q E h => ?_) (fun cdv A outer s H vs Q E hg hr h => ?_)
  · obtain ⟨_, _, _, _, _, _, _, _, _, rfl, _⟩ := h
    rfl
  · obtain ⟨Z, p, D, S, L, ns, ss, s, cs, rfl, hL, hn, q⟩ := h
    refine ⟨_, (pss_one (ps_ret (pe_callB (reprL (K := K) rfl hg hr) (by rfl) T.n_repr (by decide +kernel) (pa_cons (pe_lst (pa_cons (pe_prop (pv 0) T.cl_LiveDiscs T.p_LiveDiscs_disc G_LiveDiscs_disc (hr.mono (by decide)) T.b_LiveDiscs_disc .nil pass0 rfl) (pa_cons (pe_prop (pv 0) T.cl_LiveDiscs T.p_LiveDiscs_other G_LiveDiscs_other (hr.mono (by decide)) T.b_LiveDiscs_other .nil pass0 rfl) (pa_cons (pe_prop (pv 0) T.cl_LiveDiscs T.p_LiveDiscs_turn G_LiveDiscs_turn (hr.mono (by decide)) T.b_LiveDiscs_turn .nil pass0 rfl) (pa_cons (pe_prop (pv 0) T.cl_LiveDiscs T.p_LiveDiscs_light G_LiveDiscs_light (hr.mono (by decide)) T.b_LiveDiscs_light .nil pass0 rfl) (pa_cons (pe_prop (pv 0) T.cl_LiveDiscs T.p_LiveDiscs_log G_LiveDiscs_log (hr.mono (by decide)) T.b_LiveDiscs_log .nil pass0 rfl) (pa_cons (pe_callB (cr_lenOwn T.cl_LiveDiscs T.m_LiveDiscs_len G_LiveDiscs_len (hr.mono (by decide)) T.b_LiveDiscs_len pass0) (by rfl) T.n_len (by decide +kernel) (pa_cons (pv 0) pa_nil)) pa_nil))))))) pa_nil)))), ?_⟩
    have sok := hL.sok s (List.mem_append_right _ List.mem_cons_self)
    have hD := told_dat hL.rim sok hL.cok hn
    obtain ⟨dx, e0⟩ := hL.ob
    refine ⟨.ref p, rfl, p, _, _, rfl, e0, Z, p, D, S, L, ns, ss, cs, s, rfl, hL, fun v H1 d1 hv => ?_⟩
    obtain ⟨l1, rfl, f1, g1⟩ := hv
    have L1 := hL.same d1
    obtain ⟨_, e1⟩ := L1.ob
    refine ⟨.ref p, rfl, p, _, _, rfl, e1, Z, p, D, S, L, ns, ss, cs, s, rfl, L1, fun v H2 d2 hv => ?_⟩
    obtain ⟨l2, ss', s', es, rfl, f2, g2⟩ := hv
    obtain ⟨rfl, rfl⟩ := snoc_inj es
    have L2 := L1.same d2
    obtain ⟨_, e2⟩ := L2.ob
    refine ⟨.ref p, rfl, p, _, _, rfl, e2, Z, p, D, S, L, ns, ss, cs, s, rfl, L2, fun v H3 d3 hv => ?_⟩
    obtain ⟨ss', s', es, rfl⟩ := hv
    obtain ⟨rfl, rfl⟩ := snoc_inj es
    have L3 := L2.same d3
    obtain ⟨_, e3⟩ := L3.ob
    refine ⟨.ref p, rfl, p, _, _, rfl, e3, Z, p, D, S, L, ns, ss, cs, s, rfl, L3, fun v H4 d4 hv => ?_⟩
    obtain ⟨ss', s', es, rfl⟩ := hv
    obtain ⟨rfl, rfl⟩ := snoc_inj es
    have L4 := L3.same d4
    obtain ⟨_, e4⟩ := L4.ob
    refine ⟨.ref p, rfl, p, _, _, rfl, e4, Z, p, D, S, L, ns, ss, cs, s, rfl, L4, fun v H5 d5 hv => ?_⟩
    obtain ⟨l5, ws, rfl, f5, g5, r5⟩ := hv
    have L5 := L4.same d5
    obtain ⟨_, e5⟩ := L5.ob
    refine ⟨.ref p, rfl, p, _, _, rfl, e5, Z, p, D, S, L, ns, ss, cs, s, rfl, L5, fun v H6 d6 hv => ?_⟩
    have hv : v = .int cs.length := hv
    subst hv
    refine ⟨cs.length, rfl, by omega, by omega, (by show 6 ≤ sizeLine; decide), fun z hz => ?_⟩
    have d7 := new_same (o := .lst [.ref l1, .ref l2, .int s.2, .int (lightV ns s.1 s.2), .ref l5, .int cs.length]) hz
    have d67 := d6.trans d7
    have d27 := (((d2.trans d3).trans d4).trans d5).trans d67
    have d37 := ((d3.trans d4).trans d5).trans d67
    refine ⟨z, _, rfl, .lst (SqL.of upd_same) (.cons (dp_ints (SqL.of (d27 _ _ g1))) (.cons (dp_ints (SqL.of (d37 _ _ g2))) (.cons (.int _) (.cons (.int _) (.cons (.lst (SqL.of (d67 _ _ g5)) (r5.same d67).dp) (.cons (.int _) .nil)))))), ?_⟩
    exact ⟨hD.rp.sh, hD.rp.nd, hD.rp.dp, hD.fits (by decide), q _ (d1.trans d27)⟩

/-! ### _law_call, _law_next, _law_spoilt -/
def spCallL (K : PySem.W.Frag) (C : Addr) : Sp := fun vs H Q _ => ∃ (Z : Addr → Prop) (p D S L c : Addr) (ns : List Int) (ss : List LS) (cs : List LC) (s : LS) (k : LC), vs = [.ref p, .ref c] ∧ H c = some (.tup k.v) ∧ LiveAt C Z H p D S L ns (ss ++ [s]) cs ∧ k.ok ns.length ∧ cs.length < 1000 ∧
  ∀ H', ButLS S L H H' → LiveAt C Z H' p D S L ns (ss ++ [s] ++ [k.on s]) (cs ++ [k]) → Q (.bl true) H'
theorem lf_noM2 {D S L : Addr} : (lfs D S L).lookup ("turn_by" : Str) = none := lf_no (by decide +kernel) (by decide +kernel) (by decide +kernel)
theorem lf_noM3 {D S L : Addr} : (lfs D S L).lookup ("set_slot" : Str) = none := lf_no (by decide +kernel) (by decide +kernel) (by decide +kernel)
theorem lf_noM4 {D S L : Addr} : (lfs D S L).lookup ("mirror_other" : Str) = none := lf_no (by decide +kernel) (by decide +kernel) (by decide +kernel)
theorem ok_law_call (T : Txt K mg) : FnOk P w K mg base CX0 5 T.a_law_call T.d_law_call ["one_here", "call"] (spCallL K T.C_LiveDiscs) := by
  have G_LiveDiscs_turn_by := ok_LiveDiscs_turn_by (P := P) (w := w) (base := base) T
  have G_LiveDiscs_set_slot := ok_LiveDiscs_set_slot (P := P) (w := w) (base := base) T
  have G_LiveDiscs_mirror_other := ok_LiveDiscs_mirror_other (P := P) (w := w) (base := base) T
  refine T.F_law_call.ok sc_law_call (fun vs H Q E h => ?_) (fun cdv A outer s H vs Q E hr h => ?_)
  · obtain ⟨_, _, _, _, _, _, _, _, _, _, _, rfl, _⟩ := h
    rfl
  · obtain ⟨Z, p, D, S, L, c, ns, ss, cs, s, k, rfl, gc, hL, hk, hm, q⟩ := h
    refine ⟨_, (pss_cons (ps_if (pt_cmpR op_eq (pe_ix (ixTL (K := K) rfl) (pv 1) pe_int (fun _ _ => rfl)) pe_str (nomark _)) (pss_one (ps_ret (pe_cmpR op_isN (pe_meth (pv 0) T.cl_LiveDiscs T.m_LiveDiscs_turn_by G_LiveDiscs_turn_by (hr.mono (by decide)) T.b_LiveDiscs_turn_by .nil pass0 (pa_cons (pe_ix (ixTL (K := K) rfl) (pv 1) pe_int (fun _ _ => rfl)) pa_nil)) pe_non (nomark _)))) pss_nil)
      (pss_cons (ps_if (pt_cmpR op_eq (pe_ix (ixTL (K := K) rfl) (pv 1) pe_int (fun _ _ => rfl)) pe_str (nomark _)) (pss_one (ps_ret (pe_cmpR op_isN (pe_meth (pv 0) T.cl_LiveDiscs T.m_LiveDiscs_set_slot G_LiveDiscs_set_slot (hr.mono (by decide)) T.b_LiveDiscs_set_slot .nil pass0 (pa_cons (pe_ix (ixTL (K := K) rfl) (pv 1) pe_int (fun _ _ => rfl)) (pa_cons (pe_ix (ixTL (K := K) rfl) (pv 1) pe_int (fun _ _ => rfl)) pa_nil))) pe_non (nomark _)))) pss_nil)
      (pss_one (ps_ret (pe_cmpR op_isN (pe_meth0 (pv 0) T.cl_LiveDiscs T.m_LiveDiscs_mirror_other G_LiveDiscs_mirror_other (hr.mono (by decide)) T.b_LiveDiscs_mirror_other .nil pass0) pe_non (nomark _)))))), ?_⟩
    obtain ⟨dx, e0⟩ := hL.ob
    cases k with
    | turn n =>
      refine ⟨.ref c, rfl, c, _, 0, .str sTurn, rfl, rfl, SqT.of gc, rfl, rfl, _, rfl, ite2 (fun _ => ?_) (fun h => absurd (by decide +kernel) h)⟩
      refine ⟨.ref p, rfl, p, dx, _, rfl, e0, lf_noM2, .ref c, rfl, c, _, 1, .int n, rfl, rfl, SqT.of gc, rfl, Z, p, D, S, L, ns, ss, cs, s, [.int n], .turn n, rfl, ⟨n, rfl, rfl⟩, hL, hk, hm, fun H' u hL' => ⟨rfl, q H' u hL'⟩⟩
    | slot i l =>
      refine ⟨.ref c, rfl, c, _, 0, .str sSlot, rfl, rfl, SqT.of gc, rfl, rfl, _, rfl, ite2 (fun h => absurd h (by decide +kernel)) (fun _ => ?_)⟩
      refine ⟨.ref c, rfl, c, _, 0, .str sSlot, rfl, rfl, SqT.of gc, rfl, rfl, _, rfl, ite2 (fun _ => ?_) (fun h => absurd (by decide +kernel) h)⟩
      refine ⟨.ref p, rfl, p, dx, _, rfl, e0, lf_noM3, .ref c, rfl, c, _, 1, .int i, rfl, rfl, SqT.of gc, rfl, .ref c, rfl, c, _, 2, .int l, rfl, rfl, SqT.of gc, rfl, Z, p, D, S, L, ns, ss, cs, s, [.int i, .int l], .slot i l, rfl, ⟨i, l, rfl, rfl⟩, hL, hk, hm, fun H' u hL' => ⟨rfl, q H' u hL'⟩⟩
    | flip =>
      refine ⟨.ref c, rfl, c, _, 0, .str sMir, rfl, rfl, SqT.of gc, rfl, rfl, _, rfl, ite2 (fun h => absurd h (by decide +kernel)) (fun _ => ?_)⟩
      refine ⟨.ref c, rfl, c, _, 0, .str sMir, rfl, rfl, SqT.of gc, rfl, rfl, _, rfl, ite2 (fun h => absurd h (by decide +kernel)) (fun _ => ?_)⟩
      refine ⟨.ref p, rfl, p, dx, _, rfl, e0, lf_noM4, Z, p, D, S, L, ns, ss, cs, s, [], .flip, rfl, ⟨rfl, rfl⟩, hL, hk, hm, fun H' u hL' => ⟨rfl, q H' u hL'⟩⟩

def spNext (K : PySem.W.Frag) : Sp := fun vs H Q _ => ∃ (T n o : Addr) (s : LS) (m : Nat) (f c : Int), vs = [.ref T, .ref n, .int f] ∧ NowAt H n o s ∧ o ≠ T ∧ LSok m s ∧ 1 ≤ f ∧ f ≤ 1000000000000000000000000000000000000000 ∧ Stk H T c ∧ 0 ≤ c ∧ c < 2 ^ 39 ∧
  ∀ (r c' n' o' : Addr) (k : LC) (H' : Hp), But T H H' → H r = none → H' r = some (.tup [.ref c', .ref n']) → H' c' = some (.tup k.v) → NowAt H' n' o' (k.on s) → (o' = o ∨ H o' = none) → k.ok m → Stk H' T (c + 10) → Q (.ref r) H'
theorem NowAt.but {T : Addr} {H H' : Hp} {n o : Addr} {s : LS} (h : NowAt H n o s) (u : But T H H') (ne : o ≠ T) (l : Lst H T) : NowAt H' n o s := ⟨u _ _ h.1 (tup_ne h.1 l), u _ _ h.2 ne⟩
theorem Stk.lst {H : Hp} {T : Addr} {c : Int} (h : Stk H T c) : Lst H T := let ⟨_, _, _, e, _⟩ := h; ⟨_, e⟩
def MidNx (t n o : Addr) (f : Int) (s : LS) (m : Nat) (H : Hp) (e : Int) : L2.St → Hp → Prop := fun σ' H' => ∃ (c' : Addr) (k : LC) (y3 y4 y6 y7 : Option V),
  σ' = [some (.ref t), some (.ref n), some (.int f), y3, y4, some (.ref c'), y6, y7] ∧ But t H H' ∧ H' c' = some (.tup k.v) ∧ k.ok m ∧ Stk H' t e
theorem ok_law_next (T : Txt K mg) : FnOk P w K mg base CX0 2 T.a_law_next T.d_law_next ["stock", "now", "far"] (spNext K) := by
  have G_law_draw := ok_law_draw (P := P) (w := w) (base := base) T
  have G_law_after := ok_law_after (P := P) (w := w) (base := base) T
  refine T.F_law_next.ok sc_law_next (fun vs H Q E h => ?_) (fun cdv A outer s H vs Q E hr h => ?_)
  · obtain ⟨_, _, _, _, _, _, _, rfl, _⟩ := h
    rfl
  · obtain ⟨t, n, o, s, m, f, c, rfl, hN, not, hs, hf0, hf, hT, hc0, hc, q⟩ := h
    obtain ⟨hR, hl, h0, h1⟩ := id hs
    have lp := hR.pos
    have l40 := hR.le
    refine ⟨_, (pss_cons (ps_par (i := 3) (j := 4) (by rfl) sc_law_next.nd rfl rfl (by decide) rfl rfl (pa_cons (pe_call G_law_draw hr (by rfl) T.g_law_draw T.F_law_draw.kp T.b_law_draw .nil pass0 (pa_cons (pv 0) (pa_cons pe_int pa_nil))) (pa_cons (pe_callB (lenL (K := K) rfl) (by rfl) T.n_len (by decide +kernel) (pa_cons (pe_ix (ixTL (K := K) rfl) (pv 1) pe_int (fun _ _ => rfl)) pa_nil)) pa_nil)) (by rfl))
      (pss_cons (ps_set (i := 5) sc_law_next.nd rfl (.inl rfl) (pe_tup (pa_cons pe_str pa_nil)))
      (pss_mid (ps_if (pt_cmpR op_lt (pv 3) pe_int (nomark _)) (pss_cons (ps_set (i := 6) sc_law_next.nd rfl (.inl rfl) (pe_ix (ixL (K := K) rfl) (pe_lst (pa_cons pe_int (pa_cons pe_int (pa_cons (pe_call G_law_draw hr (by rfl) T.g_law_draw T.F_law_draw.kp T.b_law_draw .nil pass0 (pa_cons (pv 0) (pa_cons pe_int pa_nil))) (pa_cons (pe_call G_law_draw hr (by rfl) T.g_law_draw T.F_law_draw.kp T.b_law_draw .nil pass0 (pa_cons (pv 0) (pa_cons (pv 2) pa_nil))) pa_nil))))) (pe_call G_law_draw hr (by rfl) T.g_law_draw T.F_law_draw.kp T.b_law_draw .nil pass0 (pa_cons (pv 0) (pa_cons pe_int pa_nil))) (fun _ _ => rfl)))
      (pss_one (ps_set (i := 5) sc_law_next.nd rfl (.inl rfl) (pe_tup (pa_cons pe_str (pa_cons (pe_op op_mul (pv 6) (pe_ix (ixL (K := K) rfl) (pe_lst (pa_cons pe_int (pa_cons (pe_un un_neg pe_int) pa_nil))) (pe_call G_law_draw hr (by rfl) T.g_law_draw T.F_law_draw.kp T.b_law_draw .nil pass0 (pa_cons (pv 0) (pa_cons pe_int pa_nil))) (fun _ _ => rfl))) pa_nil)))))) (pss_one (ps_if (pt_cmpR op_lt (pv 3) pe_int (nomark _)) (pss_cons (ps_set (i := 7) sc_law_next.nd rfl (.inl rfl) (pe_ix (ixL (K := K) rfl) (pe_lst (pa_cons pe_int (pa_cons pe_int (pa_cons (pe_call G_law_draw hr (by rfl) T.g_law_draw T.F_law_draw.kp T.b_law_draw .nil pass0 (pa_cons (pv 0) (pa_cons pe_int pa_nil))) (pa_cons (pe_op op_pow pe_int pe_int) (pa_cons (pe_call G_law_draw hr (by rfl) T.g_law_draw T.F_law_draw.kp T.b_law_draw .nil pass0 (pa_cons (pv 0) (pa_cons (pe_op op_pow pe_int pe_int) pa_nil))) pa_nil)))))) (pe_call G_law_draw hr (by rfl) T.g_law_draw T.F_law_draw.kp T.b_law_draw .nil pass0 (pa_cons (pv 0) (pa_cons pe_int pa_nil))) (fun _ _ => rfl)))
      (pss_one (ps_set (i := 5) sc_law_next.nd rfl (.inl rfl) (pe_tup (pa_cons pe_str (pa_cons (pe_call G_law_draw hr (by rfl) T.g_law_draw T.F_law_draw.kp T.b_law_draw .nil pass0 (pa_cons (pv 0) (pa_cons (pv 4) pa_nil))) (pa_cons (pv 7) pa_nil))))))) pss_nil)))
      (pss_one (ps_ret (pe_tup (pa_cons (pv 5) (pa_cons (pe_call G_law_after hr (by rfl) T.g_law_after T.F_law_after.kp T.b_law_after .nil pass0 (pa_cons (pv 1) (pa_cons (pv 5) pa_nil))) pa_nil)))))))), ?_⟩
    refine ⟨.ref t, rfl, t, 6, c, rfl, by omega, by omega, hT, by omega, fun v H1 v0 v1 k1 u1 => ?_⟩
    have hN1 := hN.but u1 not hT.lst
    refine ⟨.ref n, rfl, n, _, 0, .ref o, rfl, rfl, SqT.of hN1.1, rfl, o, _, rfl, .inl (SqL.of hN1.2), ?_⟩
    rw [List.length_map]
    refine ⟨_, _, rfl, (by show 1 ≤ sizeLine; decide), fun c1 h1 => ?_⟩
    have d1 := new_same (o := .tup (LC.v .flip)) h1
    have k2 := k1.same d1
    have u2 := u1.trans (But.of (T := t) d1)
    have gc1 : (upd H1 c1 (.tup (LC.v .flip))) c1 = some (.tup (LC.v .flip)) := upd_same
    show ∃ M : L2.St → Hp → Prop, _
    generalize hH2 : upd H1 c1 (.tup (LC.v .flip)) = H2 at k2 u2 gc1
    have hH2' : upd H1 c1 (.tup [.str (Str.ofString "mirror")]) = H2 := hH2
    simp only [hH2']
    refine ⟨MidNx t n o f s m H (c + 10), ⟨.int v, rfl, v, 3, rfl, rfl, _, rfl, ite2 (fun h => ?_) (fun h => ?_)⟩, fun σ' H' hM => ?_⟩
    · refine ⟨.ref t, rfl, t, 60, c + 1, rfl, by omega, by omega, k2, by omega, fun r1 H3 a3 b3 k3 u3 => ?_⟩
      refine ⟨.ref t, rfl, .int f, rfl, t, f, c + 1 + 1, rfl, by omega, by omega, k3, by omega, fun r2 H4 a4 b4 k4 u4 => ?_⟩
      refine ⟨(by show 4 ≤ sizeLine; decide), fun l hl => ?_⟩
      refine ⟨.ref t, rfl, t, 4, c + 1 + 1 + 1, rfl, by omega, by omega, k4.up hl, by omega, fun r3 H5 a5 b5 k5 u5 => ?_⟩
      have g5 : H5 l = some (.lst (([0, 1, r1, r2] : List Int).map V.int)) := u5 _ _ upd_same (k4.ne hl)
      obtain ⟨d, hd, hat⟩ := at_in (ns := [0, 1, r1, r2]) a5 (by show r3 < 4; omega)
      have hd1 : 0 ≤ d ∧ d ≤ 1000000000000000000000000000000000000000 := by
        have := List.mem_of_getElem? hd
        simp only [List.mem_cons, List.not_mem_nil, or_false] at this
        omega
      refine ⟨l, _, r3, .int d, rfl, rfl, SqL.of g5, hat, ?_⟩
      refine ⟨.int d, rfl, 1, rfl, (by show 2 ≤ sizeLine; decide), fun l2 hl2 => ?_⟩
      refine ⟨.ref t, rfl, t, 2, c + 1 + 1 + 1 + 1, rfl, by omega, by omega, k5.up hl2, by omega, fun r6 H6 a6 b6 k6 u6 => ?_⟩
      have g6 : H6 l2 = some (.lst (([1, -1] : List Int).map V.int)) := u6 _ _ upd_same (k5.ne hl2)
      obtain ⟨e, he, hat6⟩ := at_in (ns := [1, -1]) a6 (by show r6 < 2; omega)
      have he1 : e = 1 ∨ e = -1 := by
        have := List.mem_of_getElem? he
        simp only [List.mem_cons, List.not_mem_nil, or_false] at this
        omega
      refine ⟨l2, _, r6, .int e, rfl, rfl, SqL.of g6, hat6, d, e, rfl, rfl, .inr ⟨by omega, by omega⟩, (by show 2 ≤ sizeLine; decide), fun c2 h2 => ?_⟩
      have uu := ((((u2.trans u3).trans u4).trans (But.of (T := t) (new_same hl))).trans u5).trans ((But.of (T := t) (new_same hl2)).trans u6)
      refine ⟨c2, .turn (d * e), _, _, _, _, rfl, uu.trans (But.of (T := t) (new_same h2)), upd_same, ?_, (k6.up h2).mono (by omega)⟩
      show (d * e).natAbs < 10 ^ 40
      rw [e40P]
      rcases he1 with rfl | rfl <;> omega
    · refine ⟨.int v, rfl, v, 5, rfl, rfl, _, rfl, ite2 (fun h5 => ?_) (fun h5 => ?_)⟩
      · refine ⟨.ref t, rfl, t, 9, c + 1, rfl, by omega, by omega, k2, by omega, fun r1 H3 a3 b3 k3 u3 => ?_⟩
        have e30 : (10 : Int) ^ (30 : Int).toNat = 1000000000000000000000000000000 := by decide +kernel
        refine ⟨10, 30, rfl, rfl, ⟨by decide, by decide, by decide⟩, .ref t, rfl, 10, 30, rfl, rfl, ⟨by decide, by decide, by decide⟩, t, 10 ^ (30 : Int).toNat, c + 1 + 1, rfl, by decide +kernel, by decide +kernel, k3, by omega, fun r2 H4 a4 b4 k4 u4 => ?_⟩
        refine ⟨(by show 5 ≤ sizeLine; decide), fun l hl => ?_⟩
        refine ⟨.ref t, rfl, t, 5, c + 1 + 1 + 1, rfl, by omega, by omega, k4.up hl, by omega, fun r3 H5 a5 b5 k5 u5 => ?_⟩
        have g5 : H5 l = some (.lst (([0, 1, r1, 10 ^ (30 : Int).toNat, r2] : List Int).map V.int)) := u5 _ _ upd_same (k4.ne hl)
        obtain ⟨d, hd, hat⟩ := at_in (ns := [0, 1, r1, 10 ^ (30 : Int).toNat, r2]) a5 (by show r3 < 5; omega)
        have hd1 : 0 ≤ d ∧ d ≤ 1000000000000000000000000000000 := by
          rw [e30] at b4
          have := List.mem_of_getElem? hd
          simp only [List.mem_cons, List.not_mem_nil, or_false, e30] at this
          omega
        refine ⟨l, _, r3, .int d, rfl, rfl, SqL.of g5, hat, ?_⟩
        refine ⟨.ref t, rfl, .int s.1.length, rfl, t, s.1.length, c + 1 + 1 + 1 + 1, rfl, by omega, by omega, k5, by omega, fun r6 H6 a6 b6 k6 u6 => ?_⟩
        refine ⟨.int d, rfl, (by show 3 ≤ sizeLine; decide), fun c2 h2 => ?_⟩
        have uu := ((((u2.trans u3).trans u4).trans (But.of (T := t) (new_same hl))).trans u5).trans u6
        have er : r6 = ((r6.toNat : Nat) : Int) := by omega
        refine ⟨c2, .slot r6.toNat d, _, _, _, _, rfl, uu.trans (But.of (T := t) (new_same h2)), ?_, ⟨by omega, hd1.1, hd1.2⟩, (k6.up h2).mono (by omega)⟩
        rw [upd_same]
        show some (HO.tup [.str sSlot, .int r6, .int d]) = some (HO.tup [.str sSlot, .int ((r6.toNat : Nat) : Int), .int d])
        rw [← er]
      · exact ⟨c1, .flip, _, _, _, _, rfl, u2, gc1, trivial, k2.mono (by omega)⟩
    · obtain ⟨c', k, y3, y4, y6, y7, rfl, u, gc, hk, kM⟩ := hM
      have hN2 := hN.but u not hT.lst
      refine ⟨.ref c', rfl, .ref n, rfl, .ref c', rfl, n, o, c', s, m, k, rfl, hN2, gc, hs, hk, fun r o' H3 s3 fr hN3 ho => ⟨(by show 2 ≤ sizeLine; decide), fun z hz => ?_⟩⟩
      have d4 := new_same (o := .tup [.ref c', .ref r]) hz
      have k3 := kM.same s3
      have uz := u.trans (But.of (T := t) s3)
      refine q z c' r o' k _ (uz.trans (But.of (T := t) d4)) (free_butS uz hT hz (k3.ne hz)) upd_same (d4 _ _ (s3 _ _ gc)) ⟨d4 _ _ hN3.1, d4 _ _ hN3.2⟩ ?_ hk (k3.same d4)
      rcases ho with e | e
      · exact .inl e
      · exact .inr (free_butS u hT e (kM.ne e))

/-! ### LiveDiscs.__eq__ -/
theorem gOther_of {ns : List Int} {ss : List LS} {s : LS} {cs : List LC} {H H' : Hp} {v : V} (h : gOther ns (ss ++ [s]) cs H H' v) : ∃ l, v = .ref l ∧ H l = none ∧ H' l = some (.lst (s.1.map V.int)) := by
  obtain ⟨l, ss', s', es, rfl, f, g⟩ := h
  obtain ⟨rfl, rfl⟩ := snoc_inj es
  exact ⟨l, rfl, f, g⟩
theorem gTurn_of {ns : List Int} {ss : List LS} {s : LS} {cs : List LC} {H H' : Hp} {v : V} (h : gTurn ns (ss ++ [s]) cs H H' v) : v = .int s.2 := by
  obtain ⟨ss', s', es, rfl⟩ := h
  obtain ⟨rfl, rfl⟩ := snoc_inj es
  rfl
theorem gLight_of {ns : List Int} {ss : List LS} {s : LS} {cs : List LC} {H H' : Hp} {v : V} (h : gLight ns (ss ++ [s]) cs H H' v) : v = .int (lightV ns s.1 s.2) := by
  obtain ⟨ss', s', es, rfl⟩ := h
  obtain ⟨rfl, rfl⟩ := snoc_inj es
  rfl
theorem at0 (x : V) (r : List V) : atI (x :: r) 0 = some x := atI_nat (j := 0) (xs := x :: r) rfl
def liveEq (ns1 : List Int) (s1 : LS) (cs1 : List LC) (ns2 : List Int) (s2 : LS) (cs2 : List LC) : Bool := PyData.eqv (dI ns1) (dI ns2) && (PyData.eqv (LS.d s1) (LS.d s2) && PyData.eqv (.list (cs1.map LC.d)) (.list (cs2.map LC.d)))
theorem calls_shaped {n : Nat} {cs : List LC} (h : ∀ c ∈ cs, c.ok n) (hn : n ≤ 40) : SeqAt.shaped (.list (cs.map LC.d)) = true :=
  (dat_list (k := 1) (B := 3012) (n := cs.length) (fun d hd => by
    obtain ⟨c, hc, rfl⟩ := List.mem_map.mp hd
    exact LC.dat (h c hc) hn) (by decide) (by rw [List.length_map]; exact Nat.le_refl _)).rp.shaped
def spEqL (K : PySem.W.Frag) (C : Addr) : Sp := fun vs H Q _ => ∃ (Z Z' : Addr → Prop) (p D S L p' D' S' L' : Addr) (ns ns' : List Int) (s s' : LS) (ss ss' : List LS) (cs cs' : List LC), vs = [.ref p, .ref p'] ∧ LiveAt C Z H p D S L ns (s :: ss) cs ∧ LiveAt C Z' H p' D' S' L' ns' (s' :: ss') cs' ∧
  Q (.bl (liveEq ns s cs ns' s' cs')) H
theorem ok_LiveDiscs_eq (T : Txt K mg) : FnOk P w K mg base CX0 1 T.a_LiveDiscs_eq T.d_LiveDiscs_eq ["self", "other"] (spEqL K T.C_LiveDiscs) := by
  refine T.F_LiveDiscs_eq.ok sc_LiveDiscs_eq (fun vs H Q E h => ?_) (fun cdv A outer s H vs Q E hr h => ?_)
  · obtain ⟨_, _, _, _, _, _, _, _, _, _, _, _, _, _, _, _, _, _, rfl, _⟩ := h
    rfl
  · obtain ⟨Z, Z', p, D, S, L, p', D', S', L', ns, ns', s, s', ss, ss', cs, cs', rfl, h1, h2, q⟩ := h
    refine ⟨_, (pss_one (ps_ret (pe_and (pe_callB (isiL (K := K) rfl) (by rfl) T.n_isinstance (by decide +kernel) (pa_cons (pv 1) (pa_cons (pe_glob (v := .ref T.C_LiveDiscs) rfl T.g_LiveDiscs rfl) pa_nil))) (pe_and (pe_cmpR (eqD (K := K) rfl hr) (pe_fld (pv 0) rfl) (pe_fld (pv 1) rfl) (nomark _)) (pe_and (pe_cmpR (eqD (K := K) rfl hr) (pe_ix (ixL (K := K) rfl) (pe_fld (pv 0) rfl) pe_int (fun _ _ => rfl)) (pe_ix (ixL (K := K) rfl) (pe_fld (pv 1) rfl) pe_int (fun _ _ => rfl)) (nomark _)) (pe_one (pe_cmpR (eqD (K := K) rfl hr) (pe_fld (pv 0) rfl) (pe_fld (pv 1) rfl) (nomark _)))))))), ?_⟩
    obtain ⟨dx, e0⟩ := h1.ob
    obtain ⟨dy, e1⟩ := h2.ob
    obtain ⟨us, gS, rS⟩ := h1.gS
    obtain ⟨us', gS', rS'⟩ := h2.gS
    obtain ⟨ws, gL, rL⟩ := h1.gL
    obtain ⟨ws', gL', rL'⟩ := h2.gL
    have n40 := h1.rim.le
    have n40' := h2.rim.le
    cases rS with
    | @cons t o _ us _ et eo _ _ _ _ rS =>
    cases rS' with
    | @cons t' o' _ us' _ et' eo' _ _ _ _ rS' =>
    have sk := h1.sok s List.mem_cons_self
    have sk' := h2.sok s' List.mem_cons_self
    refine ⟨.ref p', rfl, .ref p', .ref T.C_LiveDiscs, _, _, true, rfl, .own _, .base (.ins e1 T.cl_LiveDiscs T.ha_LiveDiscs T.hn_LiveDiscs T.ht_LiveDiscs T.ob_LiveDiscs), T.ki_LiveDiscs, true, rfl, iteT ?_⟩
    refine ⟨.ref p, rfl, p, T.C_LiveDiscs, dx, _, _, rfl, e0, T.cl_LiveDiscs, T.x_LiveDiscs_disc, lf_disc, .ref p', rfl, p', T.C_LiveDiscs, dy, _, _, rfl, e1, T.cl_LiveDiscs, T.x_LiveDiscs_disc, lf_disc, ?_⟩
    refine ⟨_, _, dp_ints (SqL.of h1.gD), dp_ints (SqL.of h2.gD), (rp_ints h1.rim.abs).shaped, (rp_ints h2.rim.abs).shaped, _, rfl, ?_⟩
    unfold liveEq at q
    cases b1 : PyData.eqv (dI ns) (dI ns') with
    | false =>
      rw [b1] at q
      exact iteF q
    | true =>
      rw [b1] at q
      refine iteT ?_
      refine ⟨.ref p, rfl, p, T.C_LiveDiscs, dx, _, _, rfl, e0, T.cl_LiveDiscs, T.x_LiveDiscs_states, lf_states, S, _, 0, .ref t, rfl, rfl, SqL.of gS, at0 _ _, .ref p', rfl, p', T.C_LiveDiscs, dy, _, _, rfl, e1, T.cl_LiveDiscs, T.x_LiveDiscs_states, lf_states, S', _, 0, .ref t', rfl, rfl, SqL.of gS', at0 _ _, ?_⟩
      refine ⟨LS.d s, LS.d s', .tup (SqT.of et) (.cons (dp_ints (SqL.of eo)) (.cons (.int _) .nil)), .tup (SqT.of et') (.cons (dp_ints (SqL.of eo')) (.cons (.int _) .nil)), (LS.dat sk).rp.shaped, (LS.dat sk').rp.shaped, _, rfl, ?_⟩
      cases b2 : PyData.eqv (LS.d s) (LS.d s') with
      | false =>
        rw [b2] at q
        exact iteF q
      | true =>
        rw [b2] at q
        refine iteT ?_
        refine ⟨.ref p, rfl, p, T.C_LiveDiscs, dx, _, _, rfl, e0, T.cl_LiveDiscs, T.x_LiveDiscs_log, lf_log, .ref p', rfl, p', T.C_LiveDiscs, dy, _, _, rfl, e1, T.cl_LiveDiscs, T.x_LiveDiscs_log, lf_log, ?_⟩
        exact ⟨_, _, .lst (SqL.of gL) rL.dp, .lst (SqL.of gL') rL'.dp, calls_shaped h1.cok n40, calls_shaped h2.cok n40', q⟩

/-! ### _law_right, _law_many_right -/
theorem LiveAt.butZ {T C : Addr} {Z : Addr → Prop} {H H' : Hp} {p D S L : Addr} {ns : List Int} {ss : List LS} {cs : List LC} (h : LiveAt C Z H p D S L ns ss cs) (s : But T H H') (zT : Z T) (n : H' T ≠ none) : LiveAt C Z H' p D S L ns ss cs :=
  h.up (fun b x e f => s b x e fun z => f (z ▸ zT)) fun z hz => by
    by_cases e : z = T
    · rw [e]
      exact n
    · exact stay_some (h.zst z hz) fun x y => s _ _ y e
theorem LiveAt.over {a C : Addr} {Z : Addr → Prop} {H : Hp} {p D S L : Addr} {ns : List Int} {ss : List LS} {cs : List LC} {o : HO} (h : LiveAt C Z H p D S L ns ss cs) (za : Z a) : LiveAt C Z (upd H a o) p D S L ns ss cs :=
  h.up (fun b x e f => by rw [upd_ne fun (z : b = a) => f (by rw [z]; exact za)]; exact e) fun z hz => by
    by_cases e : z = a
    · rw [e, upd_same]
      exact fun y => nomatch y
    · rw [upd_ne e]
      exact h.zst z hz
theorem Stk.nn {H : Hp} {T : Addr} {c : Int} (h : Stk H T c) : H T ≠ none := by
  obtain ⟨o, e⟩ := h.some
  rw [e]
  exact fun y => nomatch y
theorem some_nn {H : Hp} {a : Addr} {o : HO} (e : H a = some o) : H a ≠ none := by
  rw [e]
  exact fun y => nomatch y
theorem now_snoc (b : LS) (rs : List (LC × LS)) (r : LC × LS) : nowOf b (rs ++ [r]) = r.2 := by
  unfold nowOf
  rw [List.getLast?_concat]
/-- all stays but the stock, the states and the log -/
def ButT3 (T S L : Addr) (H H' : Hp) : Prop := ∀ b x, H b = some x → b ≠ T → b ≠ S → b ≠ L → H' b = some x
theorem ButT3.trans {T S L : Addr} {H H1 H2 : Hp} (a : ButT3 T S L H H1) (b : ButT3 T S L H1 H2) : ButT3 T S L H H2 := fun c o h n1 n2 n3 => b c o (a c o h n1 n2 n3) n1 n2 n3
theorem ButT3.same {T S L : Addr} {H H' : Hp} (s : Same H H') : ButT3 T S L H H' := fun b o h _ _ _ => s b o h
theorem ButT3.but {T S L : Addr} {H H' : Hp} (s : But T H H') : ButT3 T S L H H' := fun b o h n _ _ => s b o h n
theorem ButT3.ls {T S L : Addr} {H H' : Hp} (s : ButLS S L H H') : ButT3 T S L H H' := fun b o h _ n m => s b o h n m
theorem rowof {H : Hp} {t : Addr} {xs : List V} (h : H t = some (.tup xs)) {S : Addr} (l : Lst H S) : t ≠ S := tup_ne h l

/-! ### LiveDiscs.undo, LiveDiscs.fork -/
theorem StsAt.unsnoc {Z : Addr → Prop} {H : Hp} {S L : Addr} {s : LS} : ∀ {us : List V} {ss : List LS}, StsAt Z S L H us (ss ++ [s]) → StsAt Z S L H us.dropLast ss := by
  intro us ss
  induction ss generalizing us with
  | nil =>
    intro h
    cases h with
    | cons h g f1 f2 n1 n2 r =>
      cases r with
      | nil => exact .nil
  | cons x ss ih =>
    intro h
    cases h with
    | @cons t o _ us _ h g f1 f2 n1 n2 r =>
      have hl : us.length = (ss ++ [s]).length := r.len
      rw [List.length_append] at hl
      have e : (V.ref t :: us).dropLast = V.ref t :: us.dropLast := by
        cases us with
        | nil => exact absurd hl (by show (0 : Nat) ≠ ss.length + 1; omega)
        | cons y us => rfl
      rw [e]
      exact .cons h g f1 f2 n1 n2 (ih r)
theorem ClsAt.unsnoc {Z : Addr → Prop} {H : Hp} {c : LC} : ∀ {us : List V} {cs : List LC}, ClsAt Z H us (cs ++ [c]) → ClsAt Z H us.dropLast cs := by
  intro us cs
  induction cs generalizing us with
  | nil =>
    intro h
    cases h with
    | cons h f1 r =>
      cases r with
      | nil => exact .nil
  | cons x cs ih =>
    intro h
    cases h with
    | @cons t _ us _ h f1 r =>
      have hl : us.length = (cs ++ [c]).length := r.len
      rw [List.length_append] at hl
      have e : (V.ref t :: us).dropLast = V.ref t :: us.dropLast := by
        cases us with
        | nil => exact absurd hl (by show (0 : Nat) ≠ cs.length + 1; omega)
        | cons y us => rfl
      rw [e]
      exact .cons h f1 (ih r)
def spUndo (K : PySem.W.Frag) (C : Addr) : Sp := fun vs H Q _ => ∃ (Z : Addr → Prop) (p D S L : Addr) (ns : List Int) (ss : List LS) (cs : List LC) (s : LS) (c : LC), vs = [.ref p] ∧ LiveAt C Z H p D S L ns (ss ++ [s]) (cs ++ [c]) ∧
  ∀ H', ButLS S L H H' → LiveAt C Z H' p D S L ns ss cs → Q .non H'
theorem last_some {us : List V} {n : Nat} (h : us.length = n + 1) : ∃ y, us[us.length - 1]? = some y := ⟨us[us.length - 1]'(by omega), List.getElem?_eq_getElem (by omega)⟩
theorem ok_LiveDiscs_undo (T : Txt K mg) : FnOk P w K mg base CX0 1 T.a_LiveDiscs_undo T.d_LiveDiscs_undo ["self"] (spUndo K T.C_LiveDiscs) := by
  refine T.F_LiveDiscs_undo.ok sc_LiveDiscs_undo (fun vs H Q E h => ?_) (fun cdv A outer s H vs Q E hr h => ?_)
  · obtain ⟨_, _, _, _, _, _, _, _, _, _, rfl, _⟩ := h
    rfl
  · obtain ⟨Z, p, D, S, L, ns, ss, cs, s, c, rfl, hL, q⟩ := h
    refine ⟨_, (pss_cons (ps_if (pt_not (pt_truth (pe_fld (pv 0) rfl) (fun _ => rfl))) (pss_one ps_never) pss_nil)
      (pss_cons (ps_expr (pe_bm0 PySem.F.plainAttrs_list PySem.F.slot_list_pop PySem.F.type_list_pop mt_pop (pe_fld (pv 0) rfl)))
      (pss_one (ps_expr (pe_bm0 PySem.F.plainAttrs_list PySem.F.slot_list_pop PySem.F.type_list_pop mt_pop (pe_fld (pv 0) rfl)))))), ?_⟩
    obtain ⟨dx, e0⟩ := hL.ob
    obtain ⟨us, gS, rS⟩ := hL.gS
    obtain ⟨ws, gL, rL⟩ := hL.gL
    have npS : p ≠ S := fun z => by
      rw [z, gS] at e0
      cases e0
    have npL : p ≠ L := fun z => by
      rw [z, gL] at e0
      cases e0
    have lS := rS.len
    have lL := rL.len
    rw [List.length_append] at lS lL
    obtain ⟨yS, hyS⟩ := last_some (us := us) (n := ss.length) lS
    obtain ⟨yL, hyL⟩ := last_some (us := ws) (n := cs.length) lL
    have hws : ws.length = cs.length + 1 := lL
    refine ⟨.ref p, rfl, p, T.C_LiveDiscs, dx, _, _, rfl, e0, T.cl_LiveDiscs, T.x_LiveDiscs_log, lf_log, ?_⟩
    have he : (!ws.isEmpty) = true := by
      cases ws with
      | nil => exact absurd hws (by show (0 : Nat) ≠ _; omega)
      | cons _ _ => rfl
    refine ⟨true, .inl ⟨ws, SqL.of gL, he.symm⟩, iteF ?_⟩
    refine ⟨.ref p, rfl, p, T.C_LiveDiscs, dx, _, _, rfl, e0, T.cl_LiveDiscs, T.x_LiveDiscs_log, lf_log, ?_⟩
    refine ⟨.inl ⟨rfl, _, SqL.of gL⟩, L, ws, yL, rfl, rfl, gL, hyL, ?_⟩
    have e1 : (upd H L (.lst ws.dropLast)) p = some (.ins T.C_LiveDiscs dx (lfs D S L)) := by rw [upd_ne npL]; exact e0
    have S1 : (upd H L (.lst ws.dropLast)) S = some (.lst us) := by rw [upd_ne hL.SL]; exact gS
    refine ⟨.ref p, rfl, p, T.C_LiveDiscs, dx, _, _, rfl, e1, T.cl_LiveDiscs, T.x_LiveDiscs_states, lf_states, .inl ⟨rfl, _, SqL.of S1⟩, S, us, yS, rfl, rfl, S1, hyS, ?_⟩
    have k3 : ButLS S L H (upd (upd H L (.lst ws.dropLast)) S (.lst us.dropLast)) := fun b x e n m => by rw [upd_ne n, upd_ne m]; exact e
    refine q _ k3 { hL with
      ob := ⟨dx, k3 _ _ e0 npS npL⟩
      gD := k3 _ _ hL.gD hL.DS hL.DL
      gS := ⟨_, upd_same, (rS.up ⟨_, gS⟩ ⟨_, gL⟩ fun b x e _ n m => k3 b x e n m).unsnoc⟩
      gL := ⟨_, by rw [upd_ne hL.SL.symm, upd_same], (rL.up ⟨_, gS⟩ ⟨_, gL⟩ fun b x e _ n m => k3 b x e n m).unsnoc⟩
      sok := fun x hx => hL.sok x (List.mem_append_left _ hx)
      cok := fun x hx => hL.cok x (List.mem_append_left _ hx)
      len := by
        have h := hL.len
        rw [List.length_append, List.length_append] at h
        have h : ss.length + 1 = cs.length + 1 + 1 := h
        omega
      many := by
        have h := hL.many
        rw [List.length_append] at h
        omega
      zst := fun z hz => stay_some (hL.zst z hz) fun x e => k3 _ _ e (fun y => hL.fS (y ▸ hz)) fun y => hL.fL (y ▸ hz) }
def kD : Str := "_disc"
def kS : Str := "_states"
def kL : Str := "_log"
theorem lfs_eq {D S L : Addr} : lfs D S L = [(kD, V.ref D), (kS, V.ref S), (kL, V.ref L)] := by
  have h1 : putF kS (V.ref S) [(kD, V.ref D)] = (kD, V.ref D) :: [(kS, V.ref S)] := if_neg (by decide +kernel)
  have h2 : putF kL (V.ref L) ((kD, V.ref D) :: [(kS, V.ref S)]) = (kD, V.ref D) :: putF kL (V.ref L) [(kS, V.ref S)] := if_neg (by decide +kernel)
  have h3 : putF kL (V.ref L) [(kS, V.ref S)] = (kS, V.ref S) :: [(kL, V.ref L)] := if_neg (by decide +kernel)
  show putF kL (V.ref L) (putF kS (V.ref S) [(kD, V.ref D)]) = _
  rw [h1, h2, h3]
theorem put_fork {D S L S' L' : Addr} : putF "_log" (V.ref L') (putF "_states" (V.ref S') (lfs D S L)) = lfs D S' L' := by
  rw [lfs_eq, lfs_eq]
  have h1 : putF kS (V.ref S') [(kD, V.ref D), (kS, V.ref S), (kL, V.ref L)] = (kD, V.ref D) :: putF kS (V.ref S') [(kS, V.ref S), (kL, V.ref L)] := if_neg (by decide +kernel)
  have h2 : putF kS (V.ref S') [(kS, V.ref S), (kL, V.ref L)] = (kS, V.ref S') :: [(kL, V.ref L)] := if_pos rfl
  have h3 : putF kL (V.ref L') ((kD, V.ref D) :: (kS, V.ref S') :: [(kL, V.ref L)]) = (kD, V.ref D) :: putF kL (V.ref L') ((kS, V.ref S') :: [(kL, V.ref L)]) := if_neg (by decide +kernel)
  have h4 : putF kL (V.ref L') ((kS, V.ref S') :: [(kL, V.ref L)]) = (kS, V.ref S') :: putF kL (V.ref L') [(kL, V.ref L)] := if_neg (by decide +kernel)
  have h5 : putF kL (V.ref L') [(kL, V.ref L)] = [(kL, V.ref L')] := if_pos rfl
  show putF kL (V.ref L') (putF kS (V.ref S') _) = _
  rw [h1, h2, h3, h4, h5]
theorem put_len {D S L S' : Addr} : (putF "_states" (V.ref S') (lfs D S L)).length = 3 := by
  rw [lfs_eq]
  have h1 : putF kS (V.ref S') [(kD, V.ref D), (kS, V.ref S), (kL, V.ref L)] = (kD, V.ref D) :: putF kS (V.ref S') [(kS, V.ref S), (kL, V.ref L)] := if_neg (by decide +kernel)
  have h2 : putF kS (V.ref S') [(kS, V.ref S), (kL, V.ref L)] = (kS, V.ref S') :: [(kL, V.ref L)] := if_pos rfl
  show (putF kS (V.ref S') _).length = 3
  rw [h1, h2]
  rfl
theorem StsAt.fork {Z Z' : Addr → Prop} {H H' : Hp} {S L S' L' : Addr} {us : List V} {ss : List LS} (h : StsAt Z S L H us ss) (hS : Lst H S) (hL : Lst H L) (s : ∀ b x, H b = some x → H' b = some x) (z : ∀ b, Z' b → Z b ∨ b = S ∨ b = L) (fS : H S' = none) (fL : H L' = none) : StsAt Z' S' L' H' us ss := by
  induction h with
  | nil => exact .nil
  | cons h g f1 f2 n1 n2 _ ih =>
    exact .cons (s _ _ h) (s _ _ g) (fun y => (z _ y).elim f1 fun y => y.elim (tup_ne h hS) (tup_ne h hL)) (fun y => (z _ y).elim f2 fun y => y.elim n1 n2) (ne_of_none g fS) (ne_of_none g fL) ih
theorem ClsAt.fork {Z Z' : Addr → Prop} {H H' : Hp} {S L : Addr} {us : List V} {cs : List LC} (h : ClsAt Z H us cs) (hS : Lst H S) (hL : Lst H L) (s : ∀ b x, H b = some x → H' b = some x) (z : ∀ b, Z' b → Z b ∨ b = S ∨ b = L) : ClsAt Z' H' us cs := by
  induction h with
  | nil => exact .nil
  | cons h f1 _ ih => exact .cons (s _ _ h) (fun y => (z _ y).elim f1 fun y => y.elim (tup_ne h hS) (tup_ne h hL)) ih
def spFork (K : PySem.W.Frag) (C : Addr) : Sp := fun vs H Q _ => ∃ (Z : Addr → Prop) (p D S L : Addr) (ns : List Int) (s : LS) (ss : List LS) (cs : List LC), vs = [.ref p] ∧ LiveAt C Z H p D S L ns (s :: ss) cs ∧
  ∀ (p' D' S' L' : Addr) (H' : Hp), Same H H' → H p' = none → H D' = none → H S' = none → H L' = none → LiveAt C (fun b => Z b ∨ b = S ∨ b = L) H' p' D' S' L' ns (s :: ss) cs → Q (.ref p') H'
theorem ok_LiveDiscs_fork (T : Txt K mg) : FnOk P w K mg base CX0 8 T.a_LiveDiscs_fork T.d_LiveDiscs_fork ["self"] (spFork K T.C_LiveDiscs) := by
  have G_LiveDiscs_init := ok_LiveDiscs_init (P := P) (w := w) (base := base) T
  refine T.F_LiveDiscs_fork.ok sc_LiveDiscs_fork (fun vs H Q E h => ?_) (fun cdv A outer s H vs Q E hr h => ?_)
  · obtain ⟨_, _, _, _, _, _, _, _, _, rfl, _⟩ := h
    rfl
  · obtain ⟨Z, p, D, S, L, ns, s, ss, cs, rfl, hL, q⟩ := h
    refine ⟨_, (pss_cons (ps_set (i := 1) sc_LiveDiscs_fork.nd rfl (.inl rfl) (pe_make T.mk_LiveDiscs G_LiveDiscs_init (hr.mono (by decide)) rfl T.g_LiveDiscs T.b_LiveDiscs_init .nil pass0 (pa_cons (pe_fld (pv 0) rfl) (pa_cons (pe_ix (ixTL (K := K) rfl) (pe_ix (ixL (K := K) rfl) (pe_fld (pv 0) rfl) pe_int (fun _ _ => rfl)) pe_int (fun _ _ => rfl)) pa_nil))))
      (pss_cons (ps_fld (pv 1) (pe_callTy (listL (K := K) rfl) (by rfl) T.n_list (by decide +kernel) (pa_cons (pe_fld (pv 0) rfl) pa_nil)) rfl)
      (pss_cons (ps_fld (pv 1) (pe_callTy (listL (K := K) rfl) (by rfl) T.n_list (by decide +kernel) (pa_cons (pe_fld (pv 0) rfl) pa_nil)) rfl)
      (pss_one (ps_ret (pv 1)))))), ?_⟩
    obtain ⟨dx, e0⟩ := hL.ob
    obtain ⟨us, gS, rS⟩ := hL.gS
    obtain ⟨ws, gL, rL⟩ := hL.gL
    cases rS with
    | @cons t o _ us _ et eo n1 n2 n3 n4 rS =>
    have sk := hL.sok s List.mem_cons_self
    refine ⟨.ref p, rfl, p, T.C_LiveDiscs, dx, _, _, rfl, e0, T.cl_LiveDiscs, T.x_LiveDiscs_disc, lf_disc, ?_⟩
    refine ⟨.ref p, rfl, p, T.C_LiveDiscs, dx, _, _, rfl, e0, T.cl_LiveDiscs, T.x_LiveDiscs_states, lf_states, S, _, 0, .ref t, rfl, rfl, SqL.of gS, at0 _ _, t, _, 0, .ref o, rfl, rfl, SqT.of et, rfl, ?_⟩
    refine fun x dy nx ndy nex => ?_
    have mk5 : ∀ b y, H b = some y → (upd (upd H dy (.own x)) x (.ins T.C_LiveDiscs dy [])) b = some y := fun b y e => by
      rw [upd_ne (ne_of_none e nx), upd_ne (ne_of_none e ndy)]
      exact e
    refine ⟨x, dy, D, o, ns, s.1, fun b => H b ≠ none, rfl, upd_same, mk5 _ _ hL.gD, mk5 _ _ eo, hL.rim, sk.1, sk.2.1.symm, fun z hz => ?_, fun z => z nx, fun D' S0 L0 H6 hL6 s6 => ⟨rfl, ?_⟩⟩
    · cases e : H z with
      | none => exact absurd e hz
      | some y => exact some_nn (mk5 _ _ e)
    have s16 : Same H H6 := fun b y e => s6 _ _ (mk5 _ _ e) (ne_of_none e nx)
    obtain ⟨dy, e6⟩ := hL6.ob
    have D6 := hL6.gD
    have fresh : ∀ {b}, ¬ H b ≠ none → H b = none := fun {b} h => Classical.byContradiction h
    have fD := fresh hL6.fD
    obtain ⟨_, eS6, _⟩ := hL6.gS
    clear hL6 s6 mk5 ndy nex
    have k6 := s16 _ _ e0
    have gS6 := s16 _ _ gS
    have npx : p ≠ x := ne_of_none e0 nx
    refine ⟨.ref p, rfl, p, T.C_LiveDiscs, dx, _, _, rfl, k6, T.cl_LiveDiscs, T.x_LiveDiscs_states, lf_states, S, _, rfl, .inl (SqL.of gS6), fun S' fS' => ?_⟩
    have d7 := new_same (o := .lst (V.ref t :: us)) fS'
    have gS7 : (upd H6 S' (.lst (V.ref t :: us))) S' = some (.lst (V.ref t :: us)) := upd_same
    have e7 := d7 _ _ e6
    have k7 := d7 _ _ k6
    have L7 := d7 _ _ (s16 _ _ gL)
    have D7 := d7 _ _ D6
    have nxS : x ≠ S' := ne_of_none e6 fS'
    have nDS : D' ≠ S' := ne_of_none D6 fS'
    have s17 := s16.trans d7
    have fS := none_back s16 fS'
    generalize upd H6 S' (.lst (V.ref t :: us)) = H7 at d7 gS7 e7 k7 L7 D7 s17 ⊢
    clear d7 s16 e6 k6 gS6 D6
    refine ⟨.ref x, rfl, x, T.C_LiveDiscs, _, _, rfl, e7, T.cl_LiveDiscs, T.x_LiveDiscs_states, (by rw [show (putF "_log" (V.ref L0) (putF "_states" (V.ref S0) (putF "_disc" (V.ref D') []))) = _ from lfs_eq]; show 3 < 1000; decide), ?_⟩
    have k8 : ∀ b y, H7 b = some y → b ≠ x → (upd H7 x (.ins T.C_LiveDiscs dy (putF "_states" (.ref S') (lfs D' S0 L0)))) b = some y := fun b y e n => by rw [upd_ne n]; exact e
    have e8 : (upd H7 x (.ins T.C_LiveDiscs dy (putF "_states" (.ref S') (lfs D' S0 L0)))) x = some (.ins T.C_LiveDiscs dy (putF "_states" (.ref S') (lfs D' S0 L0))) := upd_same
    have p8 := k8 _ _ k7 npx
    have L8 := k8 _ _ L7 (fun z => by rw [z, e7] at L7; cases L7)
    have D8 := k8 _ _ D7 (fun z => by rw [z, e7] at D7; cases D7)
    have S8 := k8 _ _ gS7 nxS.symm
    have s18 : Same H (upd H7 x (.ins T.C_LiveDiscs dy (putF "_states" (.ref S') (lfs D' S0 L0)))) := fun b y e => k8 _ _ (s17 _ _ e) (ne_of_none e nx)
    generalize upd H7 x (.ins T.C_LiveDiscs dy (putF "_states" (.ref S') (lfs D' S0 L0))) = H8 at e8 p8 L8 D8 S8 s18 ⊢
    clear k8 e7 k7 L7 D7 gS7 s17 nxS
    refine ⟨.ref p, rfl, p, T.C_LiveDiscs, dx, _, _, rfl, p8, T.cl_LiveDiscs, T.x_LiveDiscs_log, lf_log, L, _, rfl, .inl (SqL.of L8), fun L' fL' => ?_⟩
    have d9 := new_same (o := .lst ws) fL'
    have gL9 : (upd H8 L' (.lst ws)) L' = some (.lst ws) := upd_same
    have fL := none_back s18 fL'
    have nxL : x ≠ L' := ne_of_none e8 fL'
    have nDL : D' ≠ L' := ne_of_none D8 fL'
    have nSL : S' ≠ L' := ne_of_none S8 fL'
    have e9 := d9 _ _ e8
    have D9 := d9 _ _ D8
    have S9 := d9 _ _ S8
    have s19 := s18.trans d9
    generalize upd H8 L' (.lst ws) = H9 at gL9 e9 D9 S9 s19 ⊢
    clear d9 fL' e8 p8 L8 D8 S8 s18
    refine ⟨.ref x, rfl, x, T.C_LiveDiscs, dy, _, rfl, e9, T.cl_LiveDiscs, T.x_LiveDiscs_log, (by rw [put_len]; decide), ?_⟩
    rw [put_fork]
    have k10 : ∀ b y, H9 b = some y → b ≠ x → (upd H9 x (.ins T.C_LiveDiscs dy (lfs D' S' L'))) b = some y := fun b y e n => by rw [upd_ne n]; exact e
    have s20 : Same H (upd H9 x (.ins T.C_LiveDiscs dy (lfs D' S' L'))) := fun b y e => k10 _ _ (s19 _ _ e) (ne_of_none e nx)
    have nz : ∀ {b}, H b = none → ¬ (Z b ∨ b = S ∨ b = L) := fun {b} e z => by
      rcases z with z | rfl | rfl
      · exact hL.zst _ z e
      · rw [gS] at e
        cases e
      · rw [gL] at e
        cases e
    refine ⟨.ref x, rfl, q x D' S' L' _ s20 nx fD fS fL { hL with
      ob := ⟨dy, upd_same⟩
      gD := k10 _ _ D9 (fun z => by rw [z, e9] at D9; cases D9)
      gS := ⟨_, k10 _ _ S9 (fun z => by rw [z, e9] at S9; cases S9), .cons (s20 _ _ et) (s20 _ _ eo) (fun y => y.elim n1 fun y => y.elim (tup_ne et ⟨_, gS⟩) (tup_ne et ⟨_, gL⟩)) (fun y => y.elim n2 fun y => y.elim n3 n4) (ne_of_none eo fS) (ne_of_none eo fL) (rS.fork ⟨_, gS⟩ ⟨_, gL⟩ s20 (fun _ y => y) fS fL)⟩
      gL := ⟨_, k10 _ _ gL9 nxL.symm, rL.fork ⟨_, gS⟩ ⟨_, gL⟩ s20 fun _ y => y⟩
      fD := nz fD
      fS := nz fS
      fL := nz fL
      fp := nz nx
      DS := nDS
      DL := nDL
      SL := nSL
      zst := fun z hz => ?_ }⟩
    rcases hz with h | rfl | rfl
    · exact stay_some (hL.zst z h) fun y e => s20 _ _ e
    · exact some_nn (s20 _ _ gS)
    · exact some_nn (s20 _ _ gL)

/-! ### what live discs refuse -/
theorem fn_lift {CX : CXT} {k : Nat} {f : Addr} {fd : FuncData} {ps : List Str} {sp : Sp} (F : FnOk P w K mg base CX0 k f fd ps sp) : FnOk P w K mg base CX k f fd ps sp := by
  refine ⟨F.len, ?_⟩
  intro A outer s H args us vs Q E hr e0 b r h
  refine codeAny_mono (F.run A outer s H args us vs Q E hr e0 b r h) fun r s' hq => ?_
  cases r with
  | error e => exact False.elim hq
  | ok fl => cases fl <;> exact hq
theorem fnok_or {CX : CXT} {k : Nat} {f : Addr} {fd : FuncData} {ps : List Str} {sp1 sp2 : Sp} (F : FnOk P w K mg base CX k f fd ps sp1) (G : FnOk P w K mg base CX k f fd ps sp2) : FnOk P w K mg base CX k f fd ps (fun vs H Q E => sp1 vs H Q E ∨ sp2 vs H Q E) := by
  refine ⟨fun vs H Q E h => h.elim (F.len vs H Q E) (G.len vs H Q E), ?_⟩
  intro A outer s H args us vs Q E hr e0 b r h
  exact h.elim (F.run A outer s H args us vs Q E hr e0 b r) (G.run A outer s H args us vs Q E hr e0 b r)
inductive RefDiscs (H : Hp) : V → V → V → Prop
  | one {x y fld : V} {d : PyData} (h : Dq H x d) (b : BadDisc d fld) : RefDiscs H x y fld
  | two {a : Addr} {ns : List Int} {y fld : V} {d : PyData} (g : H a = some (.lst (ns.map V.int))) (r : Rim ns) (h : Dq H y d) (b : BadDisc d fld) : RefDiscs H (.ref a) y fld
  | len {a b : Addr} {ns ms : List Int} (g : H a = some (.lst (ns.map V.int))) (r : Rim ns) (g2 : H b = some (.lst (ms.map V.int))) (r2 : Rim ms) (ne : ms.length ≠ ns.length) : RefDiscs H (.ref a) (.ref b) .non
theorem RefDiscs.up {H H' : Hp} {x y fld : V} (h : RefDiscs H x y fld) (s : Same H H') : RefDiscs H' x y fld := by
  cases h with
  | one h b => exact .one (h.same s) b
  | two g r h b => exact .two (s _ _ g) r (h.same s) b
  | len g r g2 r2 ne => exact .len (s _ _ g) r (s _ _ g2) r2 ne
def spBadDiscs (C : Addr) : Sp := fun vs H Q E => ∃ (x y fld : V), vs = [x, y] ∧ RefDiscs H x y fld ∧ ∀ (dx : Addr) (H' : Hp), Same H H' → H' dx = some (.xd [("index", fld)]) → E (.ref C) (some dx) H'
theorem ok_check_discsX (T : Txt K mg) : FnOk P w K mg base (L2N.CX P w) 5 T.a_check_discs T.d_check_discs ["disc", "other"] (spBadDiscs T.C_InvalidDisc) := by
  have G_check_disc := fnok_or (ok_check_discX (P := P) (w := w) (base := base) T) (fn_lift (ok_check_disc T))
  have G_InvalidDisc_init := ok_InvalidDisc_init (P := P) (w := w) (base := base) T
  refine okXN T.F_check_discs sc_check_discs (fun vs H Q E h => ?_) (fun cdv A outer s H vs Q E hr h => ?_)
  · obtain ⟨_, _, _, rfl, _⟩ := h
    rfl
  · obtain ⟨x, y, fld, rfl, hb, q⟩ := h
    refine ⟨_, (pss_cons (ps_expr (pe_call G_check_disc hr (by rfl) T.g_check_disc T.F_check_disc.kp T.b_check_disc .nil (L2N.passes_call (E := E) (W := fun cls d _ H => E cls d H) (L2N.takes_of rfl rfl rfl rfl) (fun _ _ _ _ h => h)) (pa_cons (pv 0) pa_nil)))
      (pss_cons (ps_expr (pe_call G_check_disc hr (by rfl) T.g_check_disc T.F_check_disc.kp T.b_check_disc .nil (L2N.passes_call (E := E) (W := fun cls d _ H => E cls d H) (L2N.takes_of rfl rfl rfl rfl) (fun _ _ _ _ h => h)) (pa_cons (pv 1) pa_nil)))
      (pss_one (ps_if (pt_cmpR op_ne (pe_callB (lenL (K := K) rfl) (by rfl) T.n_len (by decide +kernel) (pa_cons (pv 1) pa_nil)) (pe_callB (lenL (K := K) rfl) (by rfl) T.n_len (by decide +kernel) (pa_cons (pv 0) pa_nil)) (nomark _)) (pss_one (L2N.ps_raise rfl (L2N.takes_of rfl rfl rfl rfl) (pmk_oexN T.o_InvalidDisc T.i_InvalidDisc T.ti_InvalidDisc G_InvalidDisc_init (hr.mono (by decide)) T.b_InvalidDisc_init pass0 (by rfl) T.g_InvalidDisc rfl (pa_cons pe_non pa_nil)))) pss_nil)))), ?_⟩
    cases hb with
    | one h b => exact ⟨x, rfl, .inl ⟨x, _, fld, rfl, h, b, q⟩⟩
    | @two a ns _ _ d g r h b =>
      refine ⟨.ref a, rfl, .inr ⟨a, ns, rfl, SqL.of g, r, fun H1 s1 => ?_⟩⟩
      exact ⟨y, rfl, .inl ⟨y, d, fld, rfl, h.same s1, b, fun dx H' s' => q dx H' (s1.trans s')⟩⟩
    | @len a b ns ms g r g2 r2 ne =>
      refine ⟨.ref a, rfl, .inr ⟨a, ns, rfl, SqL.of g, r, fun H1 s1 => ?_⟩⟩
      refine ⟨.ref b, rfl, .inr ⟨b, ms, rfl, SqL.of (s1 _ _ g2), r2, fun H2 s2 => ?_⟩⟩
      have s12 := s1.trans s2
      refine ⟨.ref b, rfl, b, _, rfl, .inl (SqL.of (s12 _ _ g2)), .ref a, rfl, a, _, rfl, .inl (SqL.of (s12 _ _ g)), rfl, _, rfl, ite2 (fun _ => ?_) (fun h => absurd ?_ h)⟩
      · exact ⟨rfl, fun e he => ⟨e, .non, rfl, upd_same, .inl rfl, fun dx hdx hn => ⟨rfl, dx, _, upd_same, by rw [upd_ne hn, upd_same], by rw [upd_ne hn] at hdx; exact hdx, q dx _ (s12.trans (raise_same he hdx hn)) upd_same⟩⟩⟩
      · rw [List.length_map, List.length_map]
        show (!decide (V.int (ms.length : Int) = V.int (ns.length : Int))) = true
        rw [decide_eq_false fun e => ne (by
          have := V.int.inj e
          omega)]
        rfl
def spBadInit (C : Addr) : Sp := fun vs H Q E => ∃ (p : Addr) (x y fld : V), vs = [.ref p, x, y] ∧ RefDiscs H x y fld ∧ ∀ (dx : Addr) (H' : Hp), Same H H' → H' dx = some (.xd [("index", fld)]) → E (.ref C) (some dx) H'
theorem ok_LiveDiscs_initX (T : Txt K mg) : FnOk P w K mg base (L2N.CX P w) 6 T.a_LiveDiscs_init T.d_LiveDiscs_init ["self", "disc", "other"] (spBadInit T.C_InvalidDisc) := by
  have G_check_discs := ok_check_discsX (P := P) (w := w) (base := base) T
  refine okXN T.F_LiveDiscs_init sc_LiveDiscs_init (fun vs H Q E h => ?_) (fun cdv A outer s H vs Q E hr h => ?_)
  · obtain ⟨_, _, _, _, rfl, _⟩ := h
    rfl
  · obtain ⟨p, x, y, fld, rfl, hb, q⟩ := h
    refine ⟨_, (pss_cons (ps_expr (pe_call G_check_discs hr (by rfl) T.g_check_discs T.F_check_discs.kp T.b_check_discs .nil (L2N.passes_call (E := E) (W := fun cls d _ H => E cls d H) (L2N.takes_of rfl rfl rfl rfl) (fun _ _ _ _ h => h)) (pa_cons (pv 1) (pa_cons (pv 2) pa_nil))))
      (pss_cons (ps_fld (pv 0) (pe_callTy (listL (K := K) rfl) (by rfl) T.n_list (by decide +kernel) (pa_cons (pv 1) pa_nil)) rfl)
      (pss_cons (ps_fld (pv 0) (pe_lst (pa_cons (pe_tup (pa_cons (pe_callTy (listL (K := K) rfl) (by rfl) T.n_list (by decide +kernel) (pa_cons (pv 2) pa_nil)) (pa_cons pe_int pa_nil))) pa_nil)) rfl)
      (pss_one (ps_fld (pv 0) (pe_lst pa_nil) rfl))))), ?_⟩
    exact ⟨x, rfl, y, rfl, x, y, fld, rfl, hb, q⟩
/-! turns, slots, lights that are none -/
def spNoTurn (C : Addr) : Sp := fun vs H Q E => ∃ (v : V) (d : PyData), vs = [v] ∧ Dq H v d ∧ oneQ d = false ∧ E (.ref C) none H
theorem ok_check_turnX (T : Txt K mg) : FnOk P w K mg base (L2N.CX P w) 2 T.a_check_turn T.d_check_turn ["turn"] (spNoTurn T.C_InvalidTurn) := by
  have G_is_integer := ok_is_integerQ (P := P) (w := w) (base := base) T
  refine okXN T.F_check_turn sc_check_turn (fun vs H Q E h => ?_) (fun cdv A outer s H vs Q E hr h => ?_)
  · obtain ⟨_, _, rfl, _⟩ := h
    rfl
  · obtain ⟨v, d, rfl, hd, h1, q⟩ := h
    refine ⟨_, (pss_one (ps_if (pt_not (pt_val (pe_call G_is_integer hr (by rfl) T.g_is_integer T.F_is_integer.kp T.b_is_integer .nil pass0 (pa_cons (pv 0) pa_nil)))) (pss_one (L2N.ps_raise rfl (L2N.takes_of rfl rfl rfl rfl) (pmk_any PySem.F.excBase_ValueError T.x_InvalidTurn T.ec_InvalidTurn T.g_InvalidTurn (by rfl) pe_str))) pss_nil)), ?_⟩
    refine ⟨v, rfl, v, d, rfl, hd, _, rfl, ?_⟩
    rw [h1]
    exact iteT q
theorem ok_LiveDiscs_turn_byX (T : Txt K mg) : FnOk P w K mg base (L2N.CX P w) 3 T.a_LiveDiscs_turn_by T.d_LiveDiscs_turn_by ["self", "turn"] (fun vs H Q E => ∃ (p : Addr) (v : V) (d : PyData), vs = [.ref p, v] ∧ Dq H v d ∧ oneQ d = false ∧ E (.ref T.C_InvalidTurn) none H) := by
  have G_check_turn := ok_check_turnX (P := P) (w := w) (base := base) T
  have G_LiveDiscs_other := ok_LiveDiscs_other (P := P) (w := w) (base := base) T
  have G_LiveDiscs_turn := ok_LiveDiscs_turn (P := P) (w := w) (base := base) T
  have G_LiveDiscs_go_on := ok_LiveDiscs_go_on (P := P) (w := w) (base := base) T
  refine okXN T.F_LiveDiscs_turn_by sc_LiveDiscs_turn_by (fun vs H Q E h => ?_) (fun cdv A outer s H vs Q E hr h => ?_)
  · obtain ⟨_, _, _, rfl, _⟩ := h
    rfl
  · obtain ⟨p, v, d, rfl, hd, h1, q⟩ := h
    refine ⟨_, (pss_cons (ps_expr (pe_call G_check_turn hr (by rfl) T.g_check_turn T.F_check_turn.kp T.b_check_turn .nil (L2N.passes_call (E := E) (W := fun cls d _ H => E cls d H) (L2N.takes_of rfl rfl rfl rfl) (fun _ _ _ _ h => h)) (pa_cons (pv 1) pa_nil)))
      (pss_one (ps_expr (pe_meth (pv 0) T.cl_LiveDiscs T.m_LiveDiscs_go_on G_LiveDiscs_go_on (hr.mono (by decide)) T.b_LiveDiscs_go_on .nil pass0 (pa_cons (pe_tup (pa_cons pe_str (pa_cons (pv 1) pa_nil))) (pa_cons (pe_prop (pv 0) T.cl_LiveDiscs T.p_LiveDiscs_other G_LiveDiscs_other (hr.mono (by decide)) T.b_LiveDiscs_other .nil pass0 rfl) (pa_cons (pe_op op_add (pe_prop (pv 0) T.cl_LiveDiscs T.p_LiveDiscs_turn G_LiveDiscs_turn (hr.mono (by decide)) T.b_LiveDiscs_turn .nil pass0 rfl) (pv 1)) pa_nil))))))), ?_⟩
    exact ⟨v, rfl, v, d, rfl, hd, h1, q⟩
/-- not from lo to hi -/
def OutQ (lo hi : Int) (d : PyData) : Prop := oneQ d = false ∨ ∃ i : Int, d = .int i ∧ (i < lo ∨ hi < i)
theorem ok_check_slotX (T : Txt K mg) : FnOk P w K mg base (L2N.CX P w) 2 T.a_check_slot T.d_check_slot ["slot", "slots"] (fun vs H Q E => ∃ (v : V) (d : PyData) (n : Int), vs = [v, .int n] ∧ Dq H v d ∧ OutQ 0 (n - 1) d ∧ E (.ref T.C_InvalidSlot) none H) := by
  have G_is_integer := ok_is_integerQ (P := P) (w := w) (base := base) T
  refine okXN T.F_check_slot sc_check_slot (fun vs H Q E h => ?_) (fun cdv A outer s H vs Q E hr h => ?_)
  · obtain ⟨_, _, _, rfl, _⟩ := h
    rfl
  · obtain ⟨v, d, n, rfl, hd, ho, q⟩ := h
    refine ⟨_, (pss_one (ps_if (PW.pt (pw_or (pt_not (pt_val (pe_call G_is_integer hr (by rfl) T.g_is_integer T.F_is_integer.kp T.b_is_integer .nil pass0 (pa_cons (pv 0) pa_nil)))) (pw_or1 (pt_not (pt_chain op_le op_lt pe_int (pv 0) (pv 1)))))) (pss_one (L2N.ps_raise rfl (L2N.takes_of rfl rfl rfl rfl) (pmk_any PySem.F.excBase_ValueError T.x_InvalidSlot T.ec_InvalidSlot T.g_InvalidSlot (by rfl) pe_str))) pss_nil)), ?_⟩
    refine ⟨v, rfl, v, d, rfl, hd, _, rfl, ?_⟩
    rcases ho with h1 | ⟨i, rfl, h1⟩
    · rw [h1]
      exact iteT (iteT q)
    · cases hd
      refine iteF ?_
      refine ⟨.int i, rfl, 0, i, rfl, rfl, _, rfl, ?_⟩
      by_cases c0 : 0 ≤ i
      · rw [if_pos (decide_eq_true c0)]
        refine ⟨.int n, rfl, i, n, rfl, rfl, _, rfl, ?_⟩
        have c2 : decide (i < n) = false := decide_eq_false (by omega)
        show if (!decide (i < n)) = true then _ else _
        rw [c2]
        exact iteT q
      · rw [if_neg (fun z => c0 (of_decide_eq_true z))]
        exact ⟨_, rfl, iteT q⟩
theorem log31 {i : Int} (h : i.natAbs < 10 ^ 31) : i.natAbs.log2 < 1920 := by
  have h2 : i.natAbs < 2 ^ 1919 := Nat.lt_trans h (by decide +kernel)
  by_cases e : i.natAbs = 0
  · rw [e]
    decide
  · exact Nat.lt_trans ((Nat.log2_lt e).mpr h2) (by decide)
theorem len31 {i : Int} (h : i.natAbs < 10 ^ 31) : (Str.ofString (toString i)).length ≤ 32 := by
  rw [str_int]
  show (mkS (intL i)).length ≤ 32
  rw [mk_len]
  exact intL_len (by decide) h
theorem btw_join {t1 t3 : Str} {i j : Nat} {lo hi : Int} {σ : L2.St} {H : Hp} {Q : VK} (h1 : t1.length ≤ 100) (h3 : t3.length ≤ 100) (l1 : lo.natAbs < 10 ^ 31) (l2 : hi.natAbs < 10 ^ 31) (e1 : σ[i]? = some (some (.int lo))) (e2 : σ[j]? = some (some (.int hi)))
    (q : ∀ y, Q (.str y) H) : tJoined [tC (.str t1), tFmtN (tVar i), tC (.str t3), tFmtN (tVar j)] σ H Q := by
  have l0 : (Str.empty ++ t1).length ≤ 100 := by
    rw [Str.length_append]
    show 0 + t1.length ≤ 100
    omega
  have w1 := len31 l1
  have w2 := len31 l2
  refine ⟨t1, rfl, fld_sz l0 (by decide), .int lo, e1, .inr ⟨lo, rfl, log31 l1, _, rfl, ?_, _, rfl, ?_, .int hi, e2, .inr ⟨hi, rfl, log31 l2, _, rfl, ?_, q _⟩⟩⟩
  · exact fld_sz (n := 200) (by rw [Str.length_append]; omega) (by decide)
  · exact fld_sz (n := 300) (by rw [Str.length_append, Str.length_append]; omega) (by decide)
  · exact fld_sz (n := 400) (by rw [Str.length_append, Str.length_append, Str.length_append]; omega) (by decide)
theorem ok_check_betweenX (T : Txt K mg) : FnOk P w K mg base (L2N.CX P w) 2 T.a_check_between T.d_check_between ["number", "least", "most"] (fun vs H Q E => ∃ (v : V) (d : PyData) (lo hi : Int), vs = [v, .int lo, .int hi] ∧ Dq H v d ∧ OutQ lo hi d ∧ lo.natAbs < 10 ^ 30 ∧ hi.natAbs ≤ 10 ^ 30 ∧ E (.ref T.C_InvalidNumber) none H) := by
  have G_is_integer := ok_is_integerQ (P := P) (w := w) (base := base) T
  refine okXN T.F_check_between sc_check_between (fun vs H Q E h => ?_) (fun cdv A outer s H vs Q E hr h => ?_)
  · obtain ⟨_, _, _, _, rfl, _⟩ := h
    rfl
  · obtain ⟨v, d, lo, hi, rfl, hd, ho, l1, l2, q⟩ := h
    refine ⟨_, (pss_one (ps_if (PW.pt (pw_or (pt_not (pt_val (pe_call G_is_integer hr (by rfl) T.g_is_integer T.F_is_integer.kp T.b_is_integer .nil pass0 (pa_cons (pv 0) pa_nil)))) (pw_or1 (pt_not (pt_chain op_le op_le (pv 1) (pv 0) (pv 2)))))) (pss_one (L2N.ps_raise rfl (L2N.takes_of rfl rfl rfl rfl) (pmk_any PySem.F.excBase_ValueError T.x_InvalidNumber T.ec_InvalidNumber T.g_InvalidNumber (by rfl) (pe_joinedN (PJ.cons pe_str (PJ.cons (pe_fmtN (pv 1)) (PJ.cons pe_str (PJ.cons (pe_fmtN (pv 2)) PJ.nil)))))))) pss_nil)), ?_⟩
    refine ⟨v, rfl, v, d, rfl, hd, _, rfl, ?_⟩
    have rz : ∀ σ : L2.St, σ[1]? = some (some (.int lo)) → σ[2]? = some (some (.int hi)) → tJoined [tC (V.str (Str.ofString "the number is an integer from ")), tFmtN (tVar 1), tC (V.str (Str.ofString " to ")), tFmtN (tVar 2)] σ H
        (fun x H1 => (fun cls d H' => E cls d H') (Value.ref T.C_InvalidNumber) none H1) := fun σ e1 e2 =>
      btw_join (by decide +kernel) (by decide +kernel) (Nat.lt_trans l1 (by decide)) (Nat.lt_of_le_of_lt l2 (by decide)) e1 e2 fun _ => q
    rcases ho with h1 | ⟨i, rfl, h1⟩
    · rw [h1]
      exact iteT (iteT (rz _ rfl rfl))
    · cases hd
      refine iteF ?_
      refine ⟨.int lo, rfl, .int i, rfl, lo, i, rfl, rfl, _, rfl, ?_⟩
      by_cases c0 : lo ≤ i
      · rw [if_pos (decide_eq_true c0)]
        refine ⟨.int hi, rfl, i, hi, rfl, rfl, _, rfl, ?_⟩
        have c2 : decide (i ≤ hi) = false := decide_eq_false (by omega)
        show if (!decide (i ≤ hi)) = true then _ else _
        rw [c2]
        exact iteT (rz _ rfl rfl)
      · rw [if_neg (fun z => c0 (of_decide_eq_true z))]
        exact ⟨_, rfl, iteT (rz _ rfl rfl)⟩
theorem dq_tyx {K : PySem.W.Frag} {H : Hp} {v : V} {d : PyData} (h : Dq H v d) : Dq H v d := h
/-- what set_slot refuses -/
inductive RefSlot (H : Hp) (n : Nat) : V → V → Bool → Prop
  | slot {v y : V} {d : PyData} (h : Dq H v d) (o : OutQ 0 ((n : Int) - 1) d) : RefSlot H n v y true
  | num {i : Int} {y : V} {d : PyData} (i0 : 0 ≤ i) (i1 : i < n) (h : Dq H y d) (o : OutQ 0 top30 d) : RefSlot H n (.int i) y false
theorem RefSlot.up {H H' : Hp} {n : Nat} {x y : V} {b : Bool} (h : RefSlot H n x y b) (s : Same H H') : RefSlot H' n x y b := by
  cases h with
  | slot h o => exact .slot (h.same s) o
  | num i0 i1 h o => exact .num i0 i1 (h.same s) o
theorem ok_LiveDiscs_set_slotX (T : Txt K mg) : FnOk P w K mg base (L2N.CX P w) 3 T.a_LiveDiscs_set_slot T.d_LiveDiscs_set_slot ["self", "slot", "light"] (fun vs H Q E => ∃ (Z : Addr → Prop) (p D S L : Addr) (ns : List Int) (ss : List LS) (cs : List LC) (x y : V) (b : Bool),
    vs = [.ref p, x, y] ∧ LiveAt T.C_LiveDiscs Z H p D S L ns ss cs ∧ RefSlot H ns.length x y b ∧ E (.ref (if b = true then T.C_InvalidSlot else T.C_InvalidNumber)) none H) := by
  have G_check_slot := fnok_or (ok_check_slotX (P := P) (w := w) (base := base) T) (fn_lift (ok_check_slot T))
  have G_check_between := ok_check_betweenX (P := P) (w := w) (base := base) T
  have G_LiveDiscs_other := ok_LiveDiscs_other (P := P) (w := w) (base := base) T
  have G_LiveDiscs_turn := ok_LiveDiscs_turn (P := P) (w := w) (base := base) T
  have G_LiveDiscs_go_on := ok_LiveDiscs_go_on (P := P) (w := w) (base := base) T
  refine okXN T.F_LiveDiscs_set_slot sc_LiveDiscs_set_slot (fun vs H Q E h => ?_) (fun cdv A outer s H vs Q E hr h => ?_)
  · obtain ⟨_, _, _, _, _, _, _, _, _, _, _, rfl, _⟩ := h
    rfl
  · obtain ⟨Z, p, D, S, L, ns, ss, cs, x, y, b, rfl, hL, hR, q⟩ := h
    refine ⟨_, (pss_cons (ps_expr (pe_call G_check_slot hr (by rfl) T.g_check_slot T.F_check_slot.kp T.b_check_slot .nil (L2N.passes_call (E := E) (W := fun cls d _ H => E cls d H) (L2N.takes_of rfl rfl rfl rfl) (fun _ _ _ _ h => h)) (pa_cons (pv 1) (pa_cons (pe_callB (lenL (K := K) rfl) (by rfl) T.n_len (by decide +kernel) (pa_cons (pe_fld (pv 0) rfl) pa_nil)) pa_nil))))
      (pss_cons (ps_expr (pe_call G_check_between hr (by rfl) T.g_check_between T.F_check_between.kp T.b_check_between .nil (L2N.passes_call (E := E) (W := fun cls d _ H => E cls d H) (L2N.takes_of rfl rfl rfl rfl) (fun _ _ _ _ h => h)) (pa_cons (pv 2) (pa_cons pe_int (pa_cons (pe_glob (v := .int (1000000000000000000000000000000)) rfl T.g_MOST_LIGHT ⟨_, rfl⟩) pa_nil)))))
      (pss_cons (ps_set (i := 3) sc_LiveDiscs_set_slot.nd rfl (.inl rfl) (pe_prop (pv 0) T.cl_LiveDiscs T.p_LiveDiscs_other G_LiveDiscs_other (hr.mono (by decide)) T.b_LiveDiscs_other .nil pass0 rfl))
      (pss_cons (ps_asg (pv 2) (pg_sub (pv 3) (pv 1) set_list))
      (pss_one (ps_expr (pe_meth (pv 0) T.cl_LiveDiscs T.m_LiveDiscs_go_on G_LiveDiscs_go_on (hr.mono (by decide)) T.b_LiveDiscs_go_on .nil pass0 (pa_cons (pe_tup (pa_cons pe_str (pa_cons (pv 1) (pa_cons (pv 2) pa_nil)))) (pa_cons (pv 3) (pa_cons (pe_prop (pv 0) T.cl_LiveDiscs T.p_LiveDiscs_turn G_LiveDiscs_turn (hr.mono (by decide)) T.b_LiveDiscs_turn .nil pass0 rfl) pa_nil)))))))))), ?_⟩
    obtain ⟨dx, e0⟩ := hL.ob
    refine ⟨x, rfl, .ref p, rfl, p, T.C_LiveDiscs, dx, _, _, rfl, e0, T.cl_LiveDiscs, T.x_LiveDiscs_disc, lf_disc, D, _, rfl, .inl (SqL.of hL.gD), ?_⟩
    rw [List.length_map]
    cases hR with
    | slot h o => exact .inl ⟨x, _, _, rfl, h, o, q⟩
    | @num i y d i0 i1 h o =>
      refine .inr ⟨i, ns.length, rfl, i0, i1, ?_⟩
      refine ⟨y, rfl, y, d, 0, _, rfl, h, o, by decide, ?_, q⟩
      decide +kernel
theorem ok_LiveDiscs_undoX (T : Txt K mg) : FnOk P w K mg base (L2N.CX P w) 1 T.a_LiveDiscs_undo T.d_LiveDiscs_undo ["self"] (fun vs H Q E => ∃ (Z : Addr → Prop) (p D S L : Addr) (ns : List Int) (ss : List LS),
    vs = [.ref p] ∧ LiveAt T.C_LiveDiscs Z H p D S L ns ss [] ∧ E (.ref T.C_NothingToUndo) none H) := by
  refine okXN T.F_LiveDiscs_undo sc_LiveDiscs_undo (fun vs H Q E h => ?_) (fun cdv A outer s H vs Q E hr h => ?_)
  · obtain ⟨_, _, _, _, _, _, _, rfl, _⟩ := h
    rfl
  · obtain ⟨Z, p, D, S, L, ns, ss, rfl, hL, q⟩ := h
    refine ⟨_, (pss_cons (ps_if (pt_not (pt_truth (pe_fld (pv 0) rfl) (fun _ => rfl))) (pss_one (L2N.ps_raise rfl (L2N.takes_of rfl rfl rfl rfl) (pmk_any PySem.F.excBase_ValueError T.x_NothingToUndo T.ec_NothingToUndo T.g_NothingToUndo (by rfl) pe_str))) pss_nil)
      (pss_cons (ps_expr (pe_bm0 PySem.F.plainAttrs_list PySem.F.slot_list_pop PySem.F.type_list_pop mt_pop (pe_fld (pv 0) rfl)))
      (pss_one (ps_expr (pe_bm0 PySem.F.plainAttrs_list PySem.F.slot_list_pop PySem.F.type_list_pop mt_pop (pe_fld (pv 0) rfl)))))), ?_⟩
    obtain ⟨dx, e0⟩ := hL.ob
    obtain ⟨ws, gL, rL⟩ := hL.gL
    cases rL
    refine ⟨.ref p, rfl, p, T.C_LiveDiscs, dx, _, _, rfl, e0, T.cl_LiveDiscs, T.x_LiveDiscs_log, lf_log, ?_⟩
    exact ⟨false, .inl ⟨[], SqL.of gL, rfl⟩, iteT q⟩

/-! ### the class of a kept error, and its index -/
/-- pairs of a word and a truth value -/
inductive PrB (H : Hp) : List V → List (Str × Bool) → Prop
  | nil : PrB H [] []
  | cons {t : Addr} {p : Str × Bool} {vs : List V} {ps : List (Str × Bool)} (h : H t = some (.tup [.str p.1, .bl p.2])) (r : PrB H vs ps) : PrB H (.ref t :: vs) (p :: ps)
theorem PrB.up {H H' : Hp} {vs : List V} {ps : List (Str × Bool)} (h : PrB H vs ps) (s : Same H H') : PrB H' vs ps := by
  induction h with
  | nil => exact .nil
  | cons h _ ih => exact .cons (s _ _ h) ih
theorem PrB.app {H : Hp} {vs us : List V} {ps qs : List (Str × Bool)} (h : PrB H vs ps) (g : PrB H us qs) : PrB H (vs ++ us) (ps ++ qs) := by
  induction h with
  | nil => exact g
  | cons h _ ih => exact .cons h ih
theorem PrB.len {H : Hp} {vs : List V} {ps : List (Str × Bool)} (h : PrB H vs ps) : vs.length = ps.length := by
  induction h with
  | nil => rfl
  | cons _ _ ih => rw [List.length_cons, List.length_cons, ih]
theorem PrB.at {H : Hp} {vs : List V} {ps : List (Str × Bool)} (h : PrB H vs ps) : ∀ {i : Nat} {v : V}, vs[i]? = some v → ∃ t p, v = .ref t ∧ ps[i]? = some p ∧ H t = some (.tup [.str p.1, .bl p.2]) := by
  induction h with
  | nil => intro i v e; cases i <;> cases e
  | cons h _ ih =>
    intro i v e
    cases i with
    | zero => exact ⟨_, _, (Option.some.inj e).symm, rfl, h⟩
    | succ i => exact ih e
def trueW (ps : List (Str × Bool)) : List Str := (ps.filter (·.2)).map (·.1)
theorem trueW_next {ps : List (Str × Bool)} {i : Nat} {p : Str × Bool} (h : ps[i]? = some p) : trueW (ps.take (i + 1)) = trueW (ps.take i) ++ (if p.2 = true then [p.1] else []) := by
  unfold trueW
  rw [List.take_add_one, h, List.filter_append, List.map_append]
  obtain ⟨w, b⟩ := p
  cases b <;> rfl
theorem trueW_len (ps : List (Str × Bool)) : (trueW ps).length ≤ ps.length := by
  unfold trueW
  rw [List.length_map]
  exact List.length_filter_le _ _
def spFault (T : Txt K mg) : Sp := fun vs H Q _ => ∃ (e C : Addr) (fs : List (Str × V)) (ans : Str), vs = [.ref e] ∧ KeptE H e C fs ∧
  ((C = T.C_InvalidDisc ∧ ((fs = [(Str.ofString "index", V.non)] ∧ ans = "disc None") ∨ ∃ i : Int, i.natAbs < 10 ^ 30 ∧ fs = [(Str.ofString "index", V.int i)] ∧ ans = Str.ofString "disc " ++ Str.ofString (toString i))) ∨
   (C = T.C_InvalidTurn ∧ ans = "turn") ∨ (C = T.C_InvalidSlot ∧ ans = "slot") ∨ (C = T.C_InvalidNumber ∧ ans = "number") ∨ (C = T.C_NothingToUndo ∧ ans = "undo")) ∧ ∀ H' : Hp, Same H H' → Q (.str ans) H'
/-- what isinstance says of the five, and of none of the others -/
structure Five (K : PySem.W.Frag) (T : Txt K mg) (C : Addr) (b1 b2 b3 b4 b5 : Bool) : Prop where
  ec : ErrC K C
  k1 : PySem.W.kitOne K (.ref C) (.ref T.C_InvalidDisc) = some b1
  k2 : PySem.W.kitOne K (.ref C) (.ref T.C_InvalidTurn) = some b2
  k3 : PySem.W.kitOne K (.ref C) (.ref T.C_InvalidSlot) = some b3
  k4 : PySem.W.kitOne K (.ref C) (.ref T.C_InvalidNumber) = some b4
  k5 : PySem.W.kitOne K (.ref C) (.ref T.C_NothingToUndo) = some b5
  o1 : PySem.W.kitAny K (.ref C) ([T.C_Impossible, T.C_InvalidCommand, T.C_InvalidLights, T.C_InvalidLooks, T.C_InvalidRow].map Value.ref) = some false
  o2 : PySem.W.kitAny K (.ref C) ([T.C_InvalidSyntax].map Value.ref) = some false
  kv : PySem.W.kitOne K (.ref C) (.type "ValueError") = some true
theorem five_of {T : Txt K mg} {C : Addr} {b1 b2 b3 b4 b5 : Bool} (E : ErrC K C) (h : Kits K C [T.C_InvalidNumber, T.C_InvalidTurn, T.C_InvalidSlot, T.C_Impossible, T.C_NothingToUndo, T.C_InvalidCommand, T.C_InvalidDisc, T.C_InvalidRow, T.C_InvalidLights, T.C_InvalidLooks, T.C_InvalidSyntax]
    [b4, b2, b3, false, b5, false, b1, false, false, false, false]) (kv : PySem.W.kitOne K (.ref C) (.type "ValueError") = some true) : Five K T C b1 b2 b3 b4 b5 := by
  refine ⟨E, h.at (i := 6) rfl rfl, h.at (i := 1) rfl rfl, h.at (i := 2) rfl rfl, h.at (i := 0) rfl rfl, h.at (i := 4) rfl rfl, any_of _ [false, false, false, false, false] ?_, any_of _ [false] ?_, kv⟩
  · simp only [List.map_cons, List.map_nil]
    rw [h.at (i := 3) (c := T.C_Impossible) (b := false) rfl rfl, h.at (i := 5) (c := T.C_InvalidCommand) (b := false) rfl rfl, h.at (i := 8) (c := T.C_InvalidLights) (b := false) rfl rfl, h.at (i := 9) (c := T.C_InvalidLooks) (b := false) rfl rfl, h.at (i := 7) (c := T.C_InvalidRow) (b := false) rfl rfl]
  · simp only [List.map_cons, List.map_nil]
    rw [h.at (i := 10) (c := T.C_InvalidSyntax) (b := false) rfl rfl]
def five (b1 b2 b3 b4 b5 : Bool) : List (Str × Bool) := [(Str.ofString "disc", b1), (Str.ofString "turn", b2), (Str.ofString "slot", b3), (Str.ofString "number", b4), (Str.ofString "undo", b5)]
theorem ref_one {u : Value} {C : Addr} (h : RelV (.ref C) u) : u = Value.ref C := h
theorem ok_law_fault (T : Txt K mg) : FnG P w K mg base CX0 1 T.a_law_fault T.d_law_fault ["error"] (spFault T) := by
  refine okG T.F_law_fault sc_law_fault (fun vs H Q E h => ?_) (fun cdv A outer s H vs Q E hg hr h => ?_)
  · obtain ⟨_, _, _, _, rfl, _⟩ := h
    rfl
  · obtain ⟨e, C, fs, ans, rfl, hK, hC, q⟩ := h
    refine ⟨_, (pss_cons (ps_set (i := 1) sc_law_fault.nd rfl (.inl rfl) (pe_lst pa_nil))
      (pss_cons (ps_set (i := 1) sc_law_fault.nd rfl (.inl rfl) (pe_op op_cat (pv 1) (pe_lst (pa_cons (pe_tup (pa_cons pe_str (pa_cons (pe_callB (isKL (K := K) rfl) (by rfl) T.n_isinstance (by decide +kernel) (pa_cons (pv 0) (pa_cons (pe_glob (v := .ref T.C_InvalidDisc) rfl T.g_InvalidDisc rfl) pa_nil))) pa_nil))) (pa_cons (pe_tup (pa_cons pe_str (pa_cons (pe_callB (isKL (K := K) rfl) (by rfl) T.n_isinstance (by decide +kernel) (pa_cons (pv 0) (pa_cons (pe_glob (v := .ref T.C_InvalidTurn) rfl T.g_InvalidTurn rfl) pa_nil))) pa_nil))) pa_nil)))))
      (pss_cons (ps_set (i := 1) sc_law_fault.nd rfl (.inl rfl) (pe_op op_cat (pv 1) (pe_lst (pa_cons (pe_tup (pa_cons pe_str (pa_cons (pe_callB (isKL (K := K) rfl) (by rfl) T.n_isinstance (by decide +kernel) (pa_cons (pv 0) (pa_cons (pe_glob (v := .ref T.C_InvalidSlot) rfl T.g_InvalidSlot rfl) pa_nil))) pa_nil))) (pa_cons (pe_tup (pa_cons pe_str (pa_cons (pe_callB (isKL (K := K) rfl) (by rfl) T.n_isinstance (by decide +kernel) (pa_cons (pv 0) (pa_cons (pe_glob (v := .ref T.C_InvalidNumber) rfl T.g_InvalidNumber rfl) pa_nil))) pa_nil))) pa_nil)))))
      (pss_cons (ps_set (i := 1) sc_law_fault.nd rfl (.inl rfl) (pe_op op_cat (pv 1) (pe_lst (pa_cons (pe_tup (pa_cons pe_str (pa_cons (pe_callB (isKL (K := K) rfl) (by rfl) T.n_isinstance (by decide +kernel) (pa_cons (pv 0) (pa_cons (pe_glob (v := .ref T.C_NothingToUndo) rfl T.g_NothingToUndo rfl) pa_nil))) pa_nil))) pa_nil))))
      (pss_cons (ps_setLc (i := 2) (own := [("word", 3), ("is_one", 4)]) (by rfl) sc_law_fault.nd rfl rfl (sw_true rfl rfl rfl (by decide +kernel)) (pi_listL (K := K) rfl (pv 1)) (blkOk_by (own := [("word", 3), ("is_one", 4)]) (N := ["error", "rows", "words", "word", "is_one", "odd"]) (sc := defScope s_law_fault) (by decide +kernel))
        (fun _ _ _ _ _ => (pg_tupL (K := K) (n := 2) rfl rfl (pgs_cons (pg_name (i := 3) sc_law_fault.nd rfl (.inl rfl)) (pgs_cons (pg_name (i := 4) sc_law_fault.nd rfl (.inl rfl)) pgs_nil)))) (fun _ _ _ _ _ => (pts_one (pt_val (pv 4)))) (fun _ _ _ _ _ => (pv 3)))
      (pss_cons (ps_set (i := 5) sc_law_fault.nd rfl (.inl rfl) (pe_callB (isKL (K := K) rfl) (by rfl) T.n_isinstance (by decide +kernel) (pa_cons (pv 0) (pa_cons (pe_tup (pa_cons (pe_glob (v := .ref T.C_Impossible) rfl T.g_Impossible rfl) (pa_cons (pe_glob (v := .ref T.C_InvalidCommand) rfl T.g_InvalidCommand rfl) (pa_cons (pe_glob (v := .ref T.C_InvalidLights) rfl T.g_InvalidLights rfl) (pa_cons (pe_glob (v := .ref T.C_InvalidLooks) rfl T.g_InvalidLooks rfl) (pa_cons (pe_glob (v := .ref T.C_InvalidRow) rfl T.g_InvalidRow rfl) pa_nil)))))) pa_nil))))
      (pss_cons (ps_set (i := 5) sc_law_fault.nd rfl (.inl rfl) (pe_or (pv 5) (pe_one (pe_callB (isKL (K := K) rfl) (by rfl) T.n_isinstance (by decide +kernel) (pa_cons (pv 0) (pa_cons (pe_tup (pa_cons (pe_glob (v := .ref T.C_InvalidSyntax) rfl T.g_InvalidSyntax rfl) pa_nil)) pa_nil))))))
      (pss_cons (ps_if (PW.pt (pw_or (pt_val (pv 5)) (pw_or (pt_cmpR op_ne (pe_callB (lenL (K := K) rfl) (by rfl) T.n_len (by decide +kernel) (pa_cons (pv 2) pa_nil)) pe_int (nomark _)) (pw_or1 (pt_not (pt_val (pe_callB (isKL (K := K) rfl) (by rfl) T.n_isinstance (by decide +kernel) (pa_cons (pv 0) (pa_cons (pe_bltn (v := .ty "ValueError") (u := Value.type "ValueError") rfl T.n_ValueError (by decide +kernel) rfl) pa_nil))))))))) (pss_one (ps_ret pe_str)) pss_nil)
      (pss_one (ps_ret (pe_ifExp (pt_cmpR (inSL (K := K) rfl) (pe_ix (ixL (K := K) rfl) (pv 2) pe_int (fun _ _ => rfl)) (pe_tup (pa_cons pe_str pa_nil)) (by with_unfolding_all rfl)) (pe_op op_add_str (pe_op op_add_str (pe_ix (ixL (K := K) rfl) (pv 2) pe_int (fun _ _ => rfl)) pe_str) (pe_callB reprF (by rfl) T.n_repr (by decide +kernel) (pa_cons (kpFL (K := K) rfl (pv 0)) pa_nil))) (pe_ix (ixL (K := K) rfl) (pv 2) pe_int (fun _ _ => rfl))))))))))))), ?_⟩
    refine ⟨(by show 0 ≤ sizeLine; decide), fun R0 hR0 => ?_⟩
    have s1 := new_same (o := .lst []) hR0
    have g0 : (upd H R0 (.lst [])) R0 = some (.lst []) := upd_same
    generalize upd H R0 (.lst []) = H1 at s1 g0 ⊢
    obtain ⟨b1, b2, b3, b4, b5, F5, hw⟩ : ∃ b1 b2 b3 b4 b5, Five K T C b1 b2 b3 b4 b5 ∧ ∃ u, trueW (five b1 b2 b3 b4 b5) = [u] ∧ ((u = "disc" ∧ C = T.C_InvalidDisc ∧ ((fs = [(Str.ofString "index", V.non)] ∧ ans = "disc None") ∨ ∃ i : Int, i.natAbs < 10 ^ 30 ∧ fs = [(Str.ofString "index", V.int i)] ∧ ans = Str.ofString "disc " ++ Str.ofString (toString i))) ∨ (u ≠ "disc" ∧ ans = u)) := by
      rcases hC with ⟨rfl, hC⟩ | ⟨rfl, rfl⟩ | ⟨rfl, rfl⟩ | ⟨rfl, rfl⟩ | ⟨rfl, rfl⟩
      · exact ⟨_, _, _, _, _, five_of T.ec_InvalidDisc T.ks_InvalidDisc T.kv_InvalidDisc, "disc", by decide +kernel, .inl ⟨rfl, rfl, hC⟩⟩
      · exact ⟨_, _, _, _, _, five_of T.ec_InvalidTurn T.ks_InvalidTurn T.kv_InvalidTurn, "turn", by decide +kernel, .inr ⟨by decide +kernel, rfl⟩⟩
      · exact ⟨_, _, _, _, _, five_of T.ec_InvalidSlot T.ks_InvalidSlot T.kv_InvalidSlot, "slot", by decide +kernel, .inr ⟨by decide +kernel, rfl⟩⟩
      · exact ⟨_, _, _, _, _, five_of T.ec_InvalidNumber T.ks_InvalidNumber T.kv_InvalidNumber, "number", by decide +kernel, .inr ⟨by decide +kernel, rfl⟩⟩
      · exact ⟨_, _, _, _, _, five_of T.ec_NothingToUndo T.ks_NothingToUndo T.kv_NothingToUndo, "undo", by decide +kernel, .inr ⟨by decide +kernel, rfl⟩⟩
    have K1 := hK.up s1
    -- @@
    have g1 := g0
    refine ⟨.ref R0, rfl, .ref e, rfl, e, C, fs, .ref T.C_InvalidDisc, _, rfl, K1, F5.ec.exc, .inl ⟨.ref T.C_InvalidDisc, fun u h => ref_one h, F5.k1⟩, (by show 2 ≤ sizeLine; decide), fun tk1 htk1 => ?_⟩
    have d2 := new_same (H := H1) (o := .tup [.str "disc", .bl b1]) htk1
    have s2 := s1.trans d2
    have g2 := d2 _ _ g1
    have etk1 : (upd H1 tk1 (.tup [.str "disc", .bl b1])) tk1 = some (.tup [.str "disc", .bl b1]) := upd_same
    generalize upd H1 tk1 (.tup [.str "disc", .bl b1]) = H2 at d2 s2 g2 etk1  ⊢
    have K2 := hK.up s2
    refine ⟨.ref e, rfl, e, C, fs, .ref T.C_InvalidTurn, _, rfl, K2, F5.ec.exc, .inl ⟨.ref T.C_InvalidTurn, fun u h => ref_one h, F5.k2⟩, (by show 2 ≤ sizeLine; decide), fun tk2 htk2 => ?_⟩
    have d3 := new_same (H := H2) (o := .tup [.str "turn", .bl b2]) htk2
    have s3 := s2.trans d3
    have g3 := d3 _ _ g2
    have etk1 := d3 _ _ etk1
    have etk2 : (upd H2 tk2 (.tup [.str "turn", .bl b2])) tk2 = some (.tup [.str "turn", .bl b2]) := upd_same
    generalize upd H2 tk2 (.tup [.str "turn", .bl b2]) = H3 at d3 s3 g3 etk2 etk1  ⊢
    have K3 := hK.up s3
    have Q3 : PrB H3 [.ref tk1, .ref tk2] [(Str.ofString "disc", b1), (Str.ofString "turn", b2)] := .cons etk1 (.cons etk2 (.nil))
    refine ⟨(by show 2 ≤ sizeLine; decide), fun l3 hl3 => ?_⟩
    have dl := new_same (H := H3) (o := .lst [.ref tk1, .ref tk2]) hl3
    refine ⟨R0, l3, [], _, rfl, rfl, dl _ _ g3, upd_same, sz40' (by simp), fun R3 hR3 => ?_⟩
    have dr := dl.trans (new_same (o := .lst ([] ++ [.ref tk1, .ref tk2])) hR3)
    have s4 := s3.trans dr
    have P4 := ((PrB.nil : PrB (upd (upd H3 l3 (.lst [.ref tk1, .ref tk2])) R3 (.lst ([] ++ [.ref tk1, .ref tk2]))) [] [])).app (Q3.up dr)
    have g4 : (upd (upd H3 l3 (.lst [.ref tk1, .ref tk2])) R3 (.lst ([] ++ [.ref tk1, .ref tk2]))) R3 = some (.lst [.ref tk1, .ref tk2]) := upd_same
    generalize upd (upd H3 l3 (.lst [.ref tk1, .ref tk2])) R3 (.lst ([] ++ [.ref tk1, .ref tk2])) = H4 at dr s4 P4 g4 ⊢
    have K4 := hK.up s4
    refine ⟨.ref R3, rfl, .ref e, rfl, e, C, fs, .ref T.C_InvalidSlot, _, rfl, K4, F5.ec.exc, .inl ⟨.ref T.C_InvalidSlot, fun u h => ref_one h, F5.k3⟩, (by show 2 ≤ sizeLine; decide), fun tk3 htk3 => ?_⟩
    have d5 := new_same (H := H4) (o := .tup [.str "slot", .bl b3]) htk3
    have s5 := s4.trans d5
    have g5 := d5 _ _ g4
    have P5 := P4.up d5
    have etk3 : (upd H4 tk3 (.tup [.str "slot", .bl b3])) tk3 = some (.tup [.str "slot", .bl b3]) := upd_same
    generalize upd H4 tk3 (.tup [.str "slot", .bl b3]) = H5 at d5 s5 g5 etk3 P5 ⊢
    have K5 := hK.up s5
    refine ⟨.ref e, rfl, e, C, fs, .ref T.C_InvalidNumber, _, rfl, K5, F5.ec.exc, .inl ⟨.ref T.C_InvalidNumber, fun u h => ref_one h, F5.k4⟩, (by show 2 ≤ sizeLine; decide), fun tk4 htk4 => ?_⟩
    have d6 := new_same (H := H5) (o := .tup [.str "number", .bl b4]) htk4
    have s6 := s5.trans d6
    have g6 := d6 _ _ g5
    have P6 := P5.up d6
    have etk3 := d6 _ _ etk3
    have etk4 : (upd H5 tk4 (.tup [.str "number", .bl b4])) tk4 = some (.tup [.str "number", .bl b4]) := upd_same
    generalize upd H5 tk4 (.tup [.str "number", .bl b4]) = H6 at d6 s6 g6 etk4 etk3 P6 ⊢
    have K6 := hK.up s6
    have Q6 : PrB H6 [.ref tk3, .ref tk4] [(Str.ofString "slot", b3), (Str.ofString "number", b4)] := .cons etk3 (.cons etk4 (.nil))
    refine ⟨(by show 2 ≤ sizeLine; decide), fun l6 hl6 => ?_⟩
    have dl := new_same (H := H6) (o := .lst [.ref tk3, .ref tk4]) hl6
    refine ⟨R3, l6, [.ref tk1, .ref tk2], _, rfl, rfl, dl _ _ g6, upd_same, sz40' (by simp), fun R6 hR6 => ?_⟩
    have dr := dl.trans (new_same (o := .lst ([.ref tk1, .ref tk2] ++ [.ref tk3, .ref tk4])) hR6)
    have s7 := s6.trans dr
    have P7 := (P6.up dr).app (Q6.up dr)
    have g7 : (upd (upd H6 l6 (.lst [.ref tk3, .ref tk4])) R6 (.lst ([.ref tk1, .ref tk2] ++ [.ref tk3, .ref tk4]))) R6 = some (.lst [.ref tk1, .ref tk2, .ref tk3, .ref tk4]) := upd_same
    generalize upd (upd H6 l6 (.lst [.ref tk3, .ref tk4])) R6 (.lst ([.ref tk1, .ref tk2] ++ [.ref tk3, .ref tk4])) = H7 at dr s7 P7 g7 ⊢
    have K7 := hK.up s7
    refine ⟨.ref R6, rfl, .ref e, rfl, e, C, fs, .ref T.C_NothingToUndo, _, rfl, K7, F5.ec.exc, .inl ⟨.ref T.C_NothingToUndo, fun u h => ref_one h, F5.k5⟩, (by show 2 ≤ sizeLine; decide), fun tk5 htk5 => ?_⟩
    have d8 := new_same (H := H7) (o := .tup [.str "undo", .bl b5]) htk5
    have s8 := s7.trans d8
    have g8 := d8 _ _ g7
    have P8 := P7.up d8
    have etk5 : (upd H7 tk5 (.tup [.str "undo", .bl b5])) tk5 = some (.tup [.str "undo", .bl b5]) := upd_same
    generalize upd H7 tk5 (.tup [.str "undo", .bl b5]) = H8 at d8 s8 g8 etk5 P8 ⊢
    have K8 := hK.up s8
    have Q8 : PrB H8 [.ref tk5] [(Str.ofString "undo", b5)] := .cons etk5 (.nil)
    refine ⟨(by show 1 ≤ sizeLine; decide), fun l8 hl8 => ?_⟩
    have dl := new_same (H := H8) (o := .lst [.ref tk5]) hl8
    refine ⟨R6, l8, [.ref tk1, .ref tk2, .ref tk3, .ref tk4], _, rfl, rfl, dl _ _ g8, upd_same, sz40' (by simp), fun R8 hR8 => ?_⟩
    have dr := dl.trans (new_same (o := .lst ([.ref tk1, .ref tk2, .ref tk3, .ref tk4] ++ [.ref tk5])) hR8)
    have s9 := s8.trans dr
    have P9 := (P8.up dr).app (Q8.up dr)
    have g9 : (upd (upd H8 l8 (.lst [.ref tk5])) R8 (.lst ([.ref tk1, .ref tk2, .ref tk3, .ref tk4] ++ [.ref tk5]))) R8 = some (.lst [.ref tk1, .ref tk2, .ref tk3, .ref tk4, .ref tk5]) := upd_same
    generalize upd (upd H8 l8 (.lst [.ref tk5])) R8 (.lst ([.ref tk1, .ref tk2, .ref tk3, .ref tk4] ++ [.ref tk5])) = H9 at dr s9 P9 g9 ⊢
    have K9 := hK.up s9
    have P : PrB H9 [.ref tk1, .ref tk2, .ref tk3, .ref tk4, .ref tk5] (five b1 b2 b3 b4 b5) := P9
    have hl5 : (five b1 b2 b3 b4 b5).length = 5 := rfl
    generalize five b1 b2 b3 b4 b5 = W at P hw hl5
    obtain ⟨u, hu, hw⟩ := hw
    obtain ⟨xs, hxs⟩ : ∃ xs : List V, xs = [.ref tk1, .ref tk2, .ref tk3, .ref tk4, .ref tk5] := ⟨_, rfl⟩
    rw [← hxs] at P g9
    have hxl := P.len
    refine ⟨.ref R8, rfl, R8, rfl, ⟨_, SqL.of g9⟩, fun D hD => ?_⟩
    refine lc_list (K := K) (a := R8) (xs := xs) (fun i H' => Same H9 H' ∧ H' D = some (.lst ((trueW (W.take i)).map V.str)))
      ⟨new_same hD, upd_same⟩ (fun i H' _ hP => SqL.of (hP.1 _ _ g9)) (fun i x H' hx hP => ?_) (fun H' hP => ?_)
    · obtain ⟨ss, gD⟩ := hP
      obtain ⟨t, p, rfl, hp, et⟩ := P.at hx
      refine ⟨t, _, rfl, SqT.of (ss _ _ et), rfl, _, _, rfl, _, _, rfl, rfl, rfl, ?_⟩
      have hi : i < W.length := (List.getElem?_eq_some_iff.mp hp).1
      have ht := trueW_len (W.take i)
      rw [List.length_take] at ht
      refine ⟨.bl p.2, rfl, p.2, rfl, ite2 (fun h => ?_) (fun h => ?_)⟩
      · refine ⟨.str p.1, rfl, _, gD, ?_, same_over ss hD, ?_⟩
        · rw [List.length_map]
          exact sz40 (by omega)
        · rw [upd_same, trueW_next hp, if_pos h, List.map_append]
          rfl
      · refine ⟨ss, ?_⟩
        rw [trueW_next hp, if_neg h, List.append_nil]
        exact gD
    · obtain ⟨ss, gD⟩ := hP
      rw [hxl, List.take_length, hu] at gD
      have sa := s9.trans ss
      have Ka := hK.up sa
      refine ⟨.ref e, rfl, (by show 5 ≤ sizeLine; decide), fun tt htt => ?_⟩
      have dt := new_same (H := H') (o := .tup [.ref T.C_Impossible, .ref T.C_InvalidCommand, .ref T.C_InvalidLights, .ref T.C_InvalidLooks, .ref T.C_InvalidRow]) htt
      refine ⟨e, C, fs, .ref tt, false, rfl, Ka.up dt, F5.ec.exc, .inr ⟨tt, [T.C_Impossible, T.C_InvalidCommand, T.C_InvalidLights, T.C_InvalidLooks, T.C_InvalidRow], rfl, upd_same, F5.o1⟩, ?_⟩
      have sb := sa.trans dt
      have gD2 := dt _ _ gD
      generalize upd H' tt (.tup [.ref T.C_Impossible, .ref T.C_InvalidCommand, .ref T.C_InvalidLights, .ref T.C_InvalidLooks, .ref T.C_InvalidRow]) = Hb at sb gD2 ⊢
      clear dt
      have Kb := hK.up sb
      refine ⟨.bl false, rfl, false, rfl, iteF ?_⟩
      refine ⟨.ref e, rfl, (by show 1 ≤ sizeLine; decide), fun tu htu => ?_⟩
      have du := new_same (H := Hb) (o := .tup [.ref T.C_InvalidSyntax]) htu
      refine ⟨e, C, fs, .ref tu, false, rfl, Kb.up du, F5.ec.exc, .inr ⟨tu, [T.C_InvalidSyntax], rfl, upd_same, F5.o2⟩, ?_⟩
      have sc := sb.trans du
      have gD3 : (upd Hb tu (.tup [.ref T.C_InvalidSyntax])) D = some (.lst [.str u]) := du _ _ gD2
      generalize upd Hb tu (.tup [.ref T.C_InvalidSyntax]) = Hc at sc gD3 ⊢
      clear du
      have Kc := hK.up sc
      refine ⟨.bl false, rfl, false, rfl, iteF ?_⟩
      refine ⟨.ref D, rfl, D, [.str u], rfl, .inl (SqL.of gD3), rfl, _, rfl, ite2 (fun h => absurd h (by simp)) (fun _ => ?_)⟩
      refine ⟨.ref e, rfl, e, C, fs, .ty "ValueError", true, rfl, Kc, F5.ec.exc, .inl ⟨.type "ValueError", fun u h => h, F5.kv⟩, true, rfl, iteF ?_⟩
      refine ⟨.ref D, rfl, D, [.str u], 0, .str u, rfl, rfl, SqL.of gD3, rfl, (by show 1 ≤ sizeLine; decide), fun td htd => ?_⟩
      have dd := new_same (H := Hc) (o := .tup [.str "disc"]) htd
      refine ⟨td, [.str "disc"], rfl, .inr (SqT.of upd_same), rfl, rfl, _, rfl, ?_⟩
      have sd := sc.trans dd
      have gD4 := dd _ _ gD3
      generalize upd Hc td (.tup [.str "disc"]) = Hd at sd gD4 ⊢
      have Kd := hK.up sd
      rcases hw with ⟨rfl, rfl, hf⟩ | ⟨hne, rfl⟩
      · refine ite2 (fun _ => ?_) (fun h => absurd (by decide +kernel) h)
        refine ⟨.ref D, rfl, D, _, 0, .str "disc", rfl, rfl, SqL.of gD4, rfl, _, _, rfl, rfl, (by decide +kernel), ?_⟩
        rcases hf with ⟨rfl, rfl⟩ | ⟨i, hi, rfl, rfl⟩
        · refine ⟨.ref e, rfl, e, T.C_InvalidDisc, _, .non, rfl, Kd, T.ec_InvalidDisc.xf, T.nf_InvalidDisc_index, rfl, .inl ⟨rfl, _, _, rfl, rfl, (by decide +kernel), ?_⟩⟩
          exact q _ sd
        · refine ⟨.ref e, rfl, e, T.C_InvalidDisc, _, .int i, rfl, Kd, T.ec_InvalidDisc.xf, T.nf_InvalidDisc_index, rfl, .inr ⟨i, rfl, field_log hi, _, _, rfl, rfl, ?_, ?_⟩⟩
          · have := field_len hi
            have h0 : (Str.ofString "disc" ++ Str.ofString " ").length ≤ 10 := by decide +kernel
            rw [sizeLine_eq]
            omega
          · exact q _ sd
      · refine ite2 (fun h => absurd h ?_) (fun _ => ?_)
        · show ¬ inV (.str ans) [.str "disc"] = true
          intro z
          have z2 : eqV (.str "disc") (.str ans) = true := by
            unfold inV at z
            rw [List.any_cons, List.any_nil, Bool.or_false] at z
            exact z
          exact hne (by
            first
              | exact (of_decide_eq_true z2).symm
              | exact (eq_of_beq z2).symm
              | exact (of_decide_eq_true z2)
              | exact (eq_of_beq z2))
        · exact ⟨.ref D, rfl, D, _, 0, .str ans, rfl, rfl, SqL.of gD4, rfl, q _ sd⟩

/-! ### _law_raised -/
theorem dqAll_ints {H : Hp} : ∀ ns : List Int, DqAll H (ns.map V.int) (ns.map PyData.int)
  | [] => .nil
  | n :: ns => .cons (.int n) (dqAll_ints ns)
theorem dq_ints {H : Hp} {a : Addr} {ns : List Int} (h : H a = some (.lst (ns.map V.int))) : Dq H (.ref a) (dI ns) := .lst h (dqAll_ints ns)
theorem dqAll_any {H H' : Hp} : ∀ {ns : List Int} {ds : List PyData}, DqAll H (ns.map V.int) ds → DqAll H' (ns.map V.int) ds
  | [], _, .nil => .nil
  | _ :: _, _, .cons h r => by
    cases h
    exact .cons (.int _) (dqAll_any r)
theorem dq_any {H H' : Hp} {r : Addr} {ns : List Int} {d : PyData} (g : H r = some (.lst (ns.map V.int))) (g' : H' r = some (.lst (ns.map V.int))) (h : Dq H (.ref r) d) : Dq H' (.ref r) d := by
  cases h with
  | lst h1 h2 =>
    rw [g] at h1
    have e := HO.lst.inj (Option.some.inj h1)
    rw [← e] at h2
    exact .lst g' (dqAll_any h2)
  | tup h1 _ => rw [g] at h1; cases h1
  | emp h1 => rw [g] at h1; cases h1
def Shows (d : PyData) : Prop := d.showable = true ∧ d.depth ≤ 32 ∧ d.shown.length ≤ sizeLine
theorem shows_rep {H : Hp} {x : V} {d : PyData} (h : Dq H x d) (s : Shows d) : Rep H x d.shown := .inl ⟨d, h, s.1, s.2.1, s.2.2, rfl⟩
def discAns : V → Str
  | .int i => Str.ofString "disc " ++ Str.ofString (toString i)
  | _ => "disc None"
theorem BadDisc.fld {d : PyData} {x : V} (h : BadDisc d x) : x = .non ∨ ∃ i : Int, x = .int i ∧ i.natAbs < 10 ^ 30 := by
  cases h with
  | none _ => exact .inl rfl
  | «at» _ _ i40 => exact small_fld i40
theorem RefDiscs.fld {H : Hp} {x y f : V} (h : RefDiscs H x y f) : f = .non ∨ ∃ i : Int, f = .int i ∧ i.natAbs < 10 ^ 30 := by
  cases h with
  | one _ b => exact b.fld
  | two _ _ _ b => exact b.fld
  | len _ _ _ _ _ => exact .inl rfl
/-- what is refused, and how it is told -/
inductive RefAt (C : Addr) (H : Hp) : Int → V → List V → Str → Prop
  | disc {x y z f : V} (h : RefDiscs H y z f) : RefAt C H 0 x [y, z] (discAns f)
  | turn {Z : Addr → Prop} {p D S L : Addr} {ns : List Int} {ss : List LS} {cs : List LC} {v : V} {d : PyData} (hL : LiveAt C Z H p D S L ns ss cs) (h : Dq H v d) (o : oneQ d = false) : RefAt C H 1 (.ref p) [v] "turn"
  | slot {Z : Addr → Prop} {p D S L : Addr} {ns : List Int} {ss : List LS} {cs : List LC} {x y : V} {b : Bool} (hL : LiveAt C Z H p D S L ns ss cs) (h : RefSlot H ns.length x y b) : RefAt C H 2 (.ref p) [x, y] (if b = true then "slot" else "number")
  | undo {Z : Addr → Prop} {p D S L : Addr} {ns : List Int} {ss : List LS} (hL : LiveAt C Z H p D S L ns ss []) : RefAt C H 3 (.ref p) [] "undo"
/-- what is not refused: the state behind it -/
inductive FineAt (C : Addr) (H : Hp) : Int → V → Addr → List Int → (Hp → Prop) → Prop
  | turn {Z : Addr → Prop} {p D S L r : Addr} {ns : List Int} {ss : List LS} {s : LS} {cs : List LC} {n : Int} (hL : LiveAt C Z H p D S L ns (ss ++ [s]) cs) (h : n.natAbs < 10 ^ 40) (m : cs.length < 1000) (rS : r ≠ S) (rL : r ≠ L) :
      FineAt C H 1 (.ref p) r [n] (fun H' => ButLS S L H H' ∧ LiveAt C Z H' p D S L ns (ss ++ [s] ++ [LC.on s (.turn n)]) (cs ++ [.turn n]))
  | slot {Z : Addr → Prop} {p D S L r : Addr} {ns : List Int} {ss : List LS} {s : LS} {cs : List LC} {i : Nat} {l : Int} (hL : LiveAt C Z H p D S L ns (ss ++ [s]) cs) (h : LC.ok ns.length (.slot i l)) (m : cs.length < 1000) (rS : r ≠ S) (rL : r ≠ L) :
      FineAt C H 2 (.ref p) r [(i : Int), l] (fun H' => ButLS S L H H' ∧ LiveAt C Z H' p D S L ns (ss ++ [s] ++ [LC.on s (.slot i l)]) (cs ++ [.slot i l]))
  | undo {Z : Addr → Prop} {p D S L r : Addr} {ns : List Int} {ss : List LS} {s : LS} {cs : List LC} {c : LC} (hL : LiveAt C Z H p D S L ns (ss ++ [s]) (cs ++ [c])) (rS : r ≠ S) (rL : r ≠ L) :
      FineAt C H 3 (.ref p) r [] (fun H' => ButLS S L H H' ∧ LiveAt C Z H' p D S L ns ss cs)
def spRaised (C : Addr) : Sp := fun vs H Q _ => ∃ (k : Int) (x : V) (r : Addr) (xs : List V) (d : PyData), vs = [.int k, x, .ref r] ∧ H r = some (.lst xs) ∧ Dq H (.ref r) d ∧ Shows d ∧
  ((∃ ans, RefAt C H k x xs ans ∧ ∀ H', Same H H' → Q (.str ans) H') ∨
   (∃ (a b : Addr) (ns ms : List Int), k = 0 ∧ xs = [.ref a, .ref b] ∧ H a = some (.lst (ns.map V.int)) ∧ H b = some (.lst (ms.map V.int)) ∧ Rim ns ∧ Rim ms ∧ ns.length = ms.length ∧ ∀ H', Same H H' → Q (.str "fine") H') ∨
   (∃ (ns : List Int) (G : Hp → Prop), xs = ns.map V.int ∧ FineAt C H k x r ns G ∧ ∀ H', G H' → Q (.str "fine") H'))
theorem ok_law_raised (T : Txt K mg) : FnG P w K mg base CX0 8 T.a_law_raised T.d_law_raised ["door", "one_here", "row"] (spRaised T.C_LiveDiscs) := by
  have G_init := fnok_or (ok_LiveDiscs_initX (P := P) (w := w) (base := base) T) (fn_lift (ok_LiveDiscs_init T))
  have G_turn := fnok_or (ok_LiveDiscs_turn_byX (P := P) (w := w) (base := base) T) (fn_lift (ok_LiveDiscs_turn_by T))
  have G_slot := fnok_or (ok_LiveDiscs_set_slotX (P := P) (w := w) (base := base) T) (fn_lift (ok_LiveDiscs_set_slot T))
  have G_undo := fnok_or (ok_LiveDiscs_undoX (P := P) (w := w) (base := base) T) (fn_lift (ok_LiveDiscs_undo T))
  have G_law_fault := ok_law_fault (P := P) (w := w) (base := base) T
  refine okG T.F_law_raised sc_law_raised (fun vs H Q E h => ?_) (fun cdv A outer s H vs Q E hg hr h => ?_)
  · obtain ⟨_, _, _, _, _, rfl, _⟩ := h
    rfl
  · obtain ⟨k, x, r, xs, d, rfl, hr0, hD, hS, hor⟩ := h
    have hr1 : Room (6 + 1) _ := hr.mono (by decide)
    have hr2 : Room 3 _ := hr.mono (by decide)
    have hr3 : Room 3 _ := hr.mono (by decide)
    have hr4 : Room 1 _ := hr.mono (by decide)
    refine ⟨_, (pss_cons (ps_par (i := 3) (j := 4) (by rfl) sc_law_raised.nd rfl rfl (by decide) rfl rfl (pa_cons (pe_callB (reprT hg hr) (by rfl) T.n_repr (by decide +kernel) (pa_cons (pv 2) pa_nil)) (pa_cons pe_non pa_nil)) (by rfl))
      (pss_cons (ps_try_keep (i := 5) rfl rfl sc_law_raised.nd rfl rfl ⟨rfl, by decide, .inl T.g_DiscError⟩ takesN0
        (fun W pn xe tk _ => pss_one (ps_if (pt_cmpR op_eq (pv 0) pe_int (nomark _))
          (pss_one (ps_expr (pe_makeS T.mk_LiveDiscs G_init hr1 rfl T.g_LiveDiscs T.b_LiveDiscs_init (fun σ => L2N.passAt tk σ) (pa_cons (pe_ix (ixL (K := K) rfl) (pv 2) pe_int (fun _ _ => rfl)) (pa_cons (pe_ix (ixL (K := K) rfl) (pv 2) pe_int (fun _ _ => rfl)) pa_nil)))))
          (pss_one (ps_if (pt_cmpR op_eq (pv 0) pe_int (nomark _))
            (pss_one (ps_expr (pe_methS (pv 1) T.cl_LiveDiscs T.m_LiveDiscs_turn_by G_turn hr2 T.b_LiveDiscs_turn_by (fun σ => L2N.passAt tk σ) (pa_cons (pe_ix (ixL (K := K) rfl) (pv 2) pe_int (fun _ _ => rfl)) pa_nil))))
            (pss_one (ps_if (pt_cmpR op_eq (pv 0) pe_int (nomark _))
              (pss_one (ps_expr (pe_methS (pv 1) T.cl_LiveDiscs T.m_LiveDiscs_set_slot G_slot hr3 T.b_LiveDiscs_set_slot (fun σ => L2N.passAt tk σ) (pa_cons (pe_ix (ixL (K := K) rfl) (pv 2) pe_int (fun _ _ => rfl)) (pa_cons (pe_ix (ixL (K := K) rfl) (pv 2) pe_int (fun _ _ => rfl)) pa_nil)))))
              (pss_one (ps_expr (pe_methS0 (pv 1) T.cl_LiveDiscs T.m_LiveDiscs_undo G_undo hr4 T.b_LiveDiscs_undo (fun σ => L2N.passAt tk σ))))))))))
        (fun a oe cls dd pn _ _ => pss_one (ps_set (i := 4) sc_law_raised.nd rfl (.inl rfl) (pv 5))))
      (pss_cons (ps_set (i := 6) sc_law_raised.nd rfl (.inl rfl) (pe_ifExp (pt_cmpR op_isN (pv 4) pe_non (nomark _)) pe_str (pe_callG G_law_fault hg (hr.mono (by decide)) (by rfl) T.g_law_fault T.F_law_fault.kp T.b_law_fault .nil pass0 (pa_cons (pv 4) pa_nil))))
      (pss_one (ps_ret (pe_ifExp (pt_cmpR op_eq (pe_callB (reprT hg hr) (by rfl) T.n_repr (by decide +kernel) (pa_cons (pv 2) pa_nil)) (pv 3) (nomark _)) (pv 6) pe_str)))))), ?_⟩
    refine ⟨.ref r, rfl, .ref r, d.shown, rfl, shows_rep hD hS, _, _, rfl, ?_⟩
    have e0 : ∀ j : Int, j ≠ 0 → ¬ (decide (V.int j = V.int 0) = true) := fun j h z => h (V.int.inj (of_decide_eq_true z))
    rcases hor with ⟨ans, hR, q⟩ | ⟨a, b, ns, ms, rfl, rfl, ga, gb, rA, rB, hl, q⟩ | ⟨ns, G, rfl, hF, q⟩
    · cases hR with
      | @disc _ y z f h =>
        refine ⟨.int 0, rfl, rfl, _, rfl, ite2 (fun _ => ?_) (fun h => absurd (decide_eq_true rfl) h)⟩
        refine ⟨.ref r, rfl, r, _, 0, y, rfl, rfl, SqL.of hr0, rfl, .ref r, rfl, r, _, 1, z, rfl, rfl, SqL.of hr0, rfl, fun p dx hp hdx hne => .inl ⟨p, y, z, f, rfl, ?_, fun dd H' s' g' => ?_⟩⟩
        · exact h.up ((new_same hdx).trans (new_same (by rw [upd_ne hne.symm]; exact hp)))
        · have sH : Same H H' := ((new_same hdx).trans (new_same (by rw [upd_ne hne.symm]; exact hp))).trans s'
          refine ⟨true, T.xm_InvalidDisc, fun _ a ha => ?_, fun q => nomatch q⟩
          have sa := new_same (o := KpO (.ref T.C_InvalidDisc) (some dd) a) ha
          have nd : dd ≠ a := ne_of_none g' ha
          refine ⟨.ref a, rfl, ?_⟩
          refine ⟨.ref a, rfl, rfl, _, rfl, ite2 (fun h => absurd (of_decide_eq_true h) (fun z => nomatch z)) (fun _ => ?_)⟩
          refine ⟨.ref a, rfl, a, T.C_InvalidDisc, [(Str.ofString "index", f)], discAns f, rfl, .inr ⟨dd, upd_same, sa _ _ g'⟩, .inl ⟨rfl, ?_⟩, fun H2 s2 => ?_⟩
          · rcases h.fld with rfl | ⟨i, rfl, hi⟩
            · exact .inl ⟨rfl, rfl⟩
            · exact .inr ⟨i, hi, rfl, rfl⟩
          have s3 := (sH.trans sa).trans s2
          refine ⟨.ref r, rfl, .ref r, d.shown, rfl, shows_rep (hD.same s3) hS, .str d.shown, rfl, rfl, _, rfl, ite2 (fun _ => ?_) (fun h => absurd (decide_eq_true rfl) h)⟩
          exact ⟨.str (discAns f), rfl, q _ s3⟩
      | @turn Z p D S L ns ss cs v d' hL h o =>
        refine ⟨.int 1, rfl, rfl, _, rfl, ite2 (fun h => absurd (of_decide_eq_true h) (by decide)) (fun _ => ?_)⟩
        refine ⟨.int 1, rfl, rfl, _, rfl, ite2 (fun _ => ?_) (fun h => absurd (decide_eq_true rfl) h)⟩
        obtain ⟨dx, ep⟩ := hL.ob
        refine ⟨.ref p, rfl, p, dx, _, rfl, ep, lf_no (by decide +kernel) (by decide +kernel) (by decide +kernel), .ref r, rfl, r, _, 0, v, rfl, rfl, SqL.of hr0, rfl, .inl ⟨p, v, d', rfl, h, o, ?_⟩⟩
        refine ⟨true, T.xm_InvalidTurn, fun _ a ha => ?_, fun q => nomatch q⟩
        have sa := new_same (o := KpO (.ref T.C_InvalidTurn) none a) ha
        refine ⟨.ref a, rfl, ?_⟩
        refine ⟨.ref a, rfl, rfl, _, rfl, ite2 (fun h => absurd (of_decide_eq_true h) (fun z => nomatch z)) (fun _ => ?_)⟩
        refine ⟨.ref a, rfl, a, T.C_InvalidTurn, [], "turn", rfl, .inl ⟨rfl, upd_same⟩, .inr (.inl ⟨rfl, rfl⟩), fun H2 s2 => ?_⟩
        have s3 := sa.trans s2
        refine ⟨.ref r, rfl, .ref r, d.shown, rfl, shows_rep (hD.same s3) hS, .str d.shown, rfl, rfl, _, rfl, ite2 (fun _ => ?_) (fun h => absurd (decide_eq_true rfl) h)⟩
        exact ⟨.str "turn", rfl, q _ s3⟩
      | @slot Z p D S L ns ss cs y z b hL h =>
        refine ⟨.int 2, rfl, rfl, _, rfl, ite2 (fun h => absurd (of_decide_eq_true h) (by decide)) (fun _ => ?_)⟩
        refine ⟨.int 2, rfl, rfl, _, rfl, ite2 (fun h => absurd (of_decide_eq_true h) (by decide)) (fun _ => ?_)⟩
        refine ⟨.int 2, rfl, rfl, _, rfl, ite2 (fun _ => ?_) (fun h => absurd (decide_eq_true rfl) h)⟩
        obtain ⟨dx, ep⟩ := hL.ob
        refine ⟨.ref p, rfl, p, dx, _, rfl, ep, lf_no (by decide +kernel) (by decide +kernel) (by decide +kernel), .ref r, rfl, r, _, 0, y, rfl, rfl, SqL.of hr0, rfl, .ref r, rfl, r, _, 1, z, rfl, rfl, SqL.of hr0, rfl, .inl ⟨Z, p, D, S, L, ns, ss, cs, y, z, b, rfl, hL, h, ?_⟩⟩
        cases b with
        | true =>
          refine ⟨true, T.xm_InvalidSlot, fun _ a ha => ?_, fun q => nomatch q⟩
          have sa := new_same (o := KpO (.ref T.C_InvalidSlot) none a) ha
          refine ⟨.ref a, rfl, ?_⟩
          refine ⟨.ref a, rfl, rfl, _, rfl, ite2 (fun h => absurd (of_decide_eq_true h) (fun z => nomatch z)) (fun _ => ?_)⟩
          refine ⟨.ref a, rfl, a, T.C_InvalidSlot, [], "slot", rfl, .inl ⟨rfl, upd_same⟩, .inr (.inr (.inl ⟨rfl, rfl⟩)), fun H2 s2 => ?_⟩
          have s3 := sa.trans s2
          refine ⟨.ref r, rfl, .ref r, d.shown, rfl, shows_rep (hD.same s3) hS, .str d.shown, rfl, rfl, _, rfl, ite2 (fun _ => ?_) (fun h => absurd (decide_eq_true rfl) h)⟩
          exact ⟨.str "slot", rfl, q _ s3⟩
        | false =>
          refine ⟨true, T.xm_InvalidNumber, fun _ a ha => ?_, fun q => nomatch q⟩
          have sa := new_same (o := KpO (.ref T.C_InvalidNumber) none a) ha
          refine ⟨.ref a, rfl, ?_⟩
          refine ⟨.ref a, rfl, rfl, _, rfl, ite2 (fun h => absurd (of_decide_eq_true h) (fun z => nomatch z)) (fun _ => ?_)⟩
          refine ⟨.ref a, rfl, a, T.C_InvalidNumber, [], "number", rfl, .inl ⟨rfl, upd_same⟩, .inr (.inr (.inr (.inl ⟨rfl, rfl⟩))), fun H2 s2 => ?_⟩
          have s3 := sa.trans s2
          refine ⟨.ref r, rfl, .ref r, d.shown, rfl, shows_rep (hD.same s3) hS, .str d.shown, rfl, rfl, _, rfl, ite2 (fun _ => ?_) (fun h => absurd (decide_eq_true rfl) h)⟩
          exact ⟨.str "number", rfl, q _ s3⟩
      | @undo Z p D S L ns ss hL =>
        refine ⟨.int 3, rfl, rfl, _, rfl, ite2 (fun h => absurd (of_decide_eq_true h) (by decide)) (fun _ => ?_)⟩
        refine ⟨.int 3, rfl, rfl, _, rfl, ite2 (fun h => absurd (of_decide_eq_true h) (by decide)) (fun _ => ?_)⟩
        refine ⟨.int 3, rfl, rfl, _, rfl, ite2 (fun h => absurd (of_decide_eq_true h) (by decide)) (fun _ => ?_)⟩
        obtain ⟨dx, ep⟩ := hL.ob
        refine ⟨.ref p, rfl, p, dx, _, rfl, ep, lf_no (by decide +kernel) (by decide +kernel) (by decide +kernel), .inl ⟨Z, p, D, S, L, ns, ss, rfl, hL, ?_⟩⟩
        refine ⟨true, T.xm_NothingToUndo, fun _ a ha => ?_, fun q => nomatch q⟩
        have sa := new_same (o := KpO (.ref T.C_NothingToUndo) none a) ha
        refine ⟨.ref a, rfl, ?_⟩
        refine ⟨.ref a, rfl, rfl, _, rfl, ite2 (fun h => absurd (of_decide_eq_true h) (fun z => nomatch z)) (fun _ => ?_)⟩
        refine ⟨.ref a, rfl, a, T.C_NothingToUndo, [], "undo", rfl, .inl ⟨rfl, upd_same⟩, .inr (.inr (.inr (.inr ⟨rfl, rfl⟩))), fun H2 s2 => ?_⟩
        have s3 := sa.trans s2
        refine ⟨.ref r, rfl, .ref r, d.shown, rfl, shows_rep (hD.same s3) hS, .str d.shown, rfl, rfl, _, rfl, ite2 (fun _ => ?_) (fun h => absurd (decide_eq_true rfl) h)⟩
        exact ⟨.str "undo", rfl, q _ s3⟩
    · refine ⟨.int 0, rfl, rfl, _, rfl, ite2 (fun _ => ?_) (fun h => absurd (decide_eq_true rfl) h)⟩
      refine ⟨.ref r, rfl, r, _, 0, .ref a, rfl, rfl, SqL.of hr0, rfl, .ref r, rfl, r, _, 1, .ref b, rfl, rfl, SqL.of hr0, rfl, fun p dx hp hdx hne => .inr ?_⟩
      have s1 := (new_same (o := .own p) hdx).trans (new_same (o := .ins T.C_LiveDiscs dx []) (show (upd H dx (.own p)) p = none by rw [upd_ne hne.symm]; exact hp))
      refine ⟨p, dx, a, b, ns, ms, fun _ => False, rfl, upd_same, s1 _ _ ga, s1 _ _ gb, rA, rB, hl, fun _ z => z.elim, fun z => z, fun D S L H' hL k => ⟨rfl, ?_⟩⟩
      have sH : Same H H' := fun c o e => k c o (s1 _ _ e) (ne_of_none e hp)
      refine ⟨.non, rfl, rfl, _, rfl, ite2 (fun _ => ?_) (fun h => absurd (decide_eq_true rfl) h)⟩
      refine ⟨.ref r, rfl, .ref r, d.shown, rfl, shows_rep (hD.same sH) hS, .str d.shown, rfl, rfl, _, rfl, ite2 (fun _ => ?_) (fun h => absurd (decide_eq_true rfl) h)⟩
      exact ⟨.str "fine", rfl, q _ sH⟩
    · cases hF with
      | @turn Z p D S L _ ns' ss s cs n hL h m rS rL =>
        refine ⟨.int 1, rfl, rfl, _, rfl, ite2 (fun h => absurd (of_decide_eq_true h) (by decide)) (fun _ => ?_)⟩
        refine ⟨.int 1, rfl, rfl, _, rfl, ite2 (fun _ => ?_) (fun h => absurd (decide_eq_true rfl) h)⟩
        obtain ⟨dx, ep⟩ := hL.ob
        refine ⟨.ref p, rfl, p, dx, _, rfl, ep, lf_no (by decide +kernel) (by decide +kernel) (by decide +kernel), .ref r, rfl, r, _, 0, .int n, rfl, rfl, SqL.of hr0, rfl, .inr ⟨Z, p, D, S, L, ns', ss, cs, s, [.int n], .turn n, rfl, ⟨n, rfl, rfl⟩, hL, h, m, fun H' u L' => ?_⟩⟩
        have g' := u _ _ hr0 rS rL
        refine ⟨.non, rfl, rfl, _, rfl, ite2 (fun _ => ?_) (fun h => absurd (decide_eq_true rfl) h)⟩
        refine ⟨.ref r, rfl, .ref r, d.shown, rfl, shows_rep (dq_any hr0 g' hD) hS, .str d.shown, rfl, rfl, _, rfl, ite2 (fun _ => ?_) (fun h => absurd (decide_eq_true rfl) h)⟩
        exact ⟨.str "fine", rfl, q _ ⟨u, L'⟩⟩
      | @slot Z p D S L _ ns' ss s cs i l hL h m rS rL =>
        refine ⟨.int 2, rfl, rfl, _, rfl, ite2 (fun h => absurd (of_decide_eq_true h) (by decide)) (fun _ => ?_)⟩
        refine ⟨.int 2, rfl, rfl, _, rfl, ite2 (fun h => absurd (of_decide_eq_true h) (by decide)) (fun _ => ?_)⟩
        refine ⟨.int 2, rfl, rfl, _, rfl, ite2 (fun _ => ?_) (fun h => absurd (decide_eq_true rfl) h)⟩
        obtain ⟨dx, ep⟩ := hL.ob
        refine ⟨.ref p, rfl, p, dx, _, rfl, ep, lf_no (by decide +kernel) (by decide +kernel) (by decide +kernel), .ref r, rfl, r, _, 0, .int i, rfl, rfl, SqL.of hr0, rfl, .ref r, rfl, r, _, 1, .int l, rfl, rfl, SqL.of hr0, rfl, .inr ⟨Z, p, D, S, L, ns', ss, cs, s, [.int i, .int l], .slot i l, rfl, ⟨i, l, rfl, rfl⟩, hL, h, m, fun H' u L' => ?_⟩⟩
        have g' := u _ _ hr0 rS rL
        refine ⟨.non, rfl, rfl, _, rfl, ite2 (fun _ => ?_) (fun h => absurd (decide_eq_true rfl) h)⟩
        refine ⟨.ref r, rfl, .ref r, d.shown, rfl, shows_rep (dq_any hr0 g' hD) hS, .str d.shown, rfl, rfl, _, rfl, ite2 (fun _ => ?_) (fun h => absurd (decide_eq_true rfl) h)⟩
        exact ⟨.str "fine", rfl, q _ ⟨u, L'⟩⟩
      | @undo Z p D S L _ ns' ss s cs c hL rS rL =>
        refine ⟨.int 3, rfl, rfl, _, rfl, ite2 (fun h => absurd (of_decide_eq_true h) (by decide)) (fun _ => ?_)⟩
        refine ⟨.int 3, rfl, rfl, _, rfl, ite2 (fun h => absurd (of_decide_eq_true h) (by decide)) (fun _ => ?_)⟩
        refine ⟨.int 3, rfl, rfl, _, rfl, ite2 (fun h => absurd (of_decide_eq_true h) (by decide)) (fun _ => ?_)⟩
        obtain ⟨dx, ep⟩ := hL.ob
        refine ⟨.ref p, rfl, p, dx, _, rfl, ep, lf_no (by decide +kernel) (by decide +kernel) (by decide +kernel), .inr ⟨Z, p, D, S, L, ns', ss, cs, s, c, rfl, hL, fun H' u L' => ?_⟩⟩
        have g' := u _ _ hr0 rS rL
        refine ⟨.non, rfl, rfl, _, rfl, ite2 (fun _ => ?_) (fun h => absurd (decide_eq_true rfl) h)⟩
        refine ⟨.ref r, rfl, .ref r, d.shown, rfl, shows_rep (dq_any hr0 g' hD) hS, .str d.shown, rfl, rfl, _, rfl, ite2 (fun _ => ?_) (fun h => absurd (decide_eq_true rfl) h)⟩
        exact ⟨.str "fine", rfl, q _ ⟨u, L'⟩⟩

/-! ### _law_bad_discs -/
def Szd (k B : Nat) (d : PyData) : Prop := d.showable = true ∧ d.depth ≤ k ∧ d.shown.length ≤ B
theorem Szd.mono {k B k' B' : Nat} {d : PyData} (h : Szd k B d) (hk : k ≤ k') (hB : B ≤ B') : Szd k' B' d := ⟨h.1, Nat.le_trans h.2.1 hk, Nat.le_trans h.2.2 hB⟩
theorem Szd.shows {k B : Nat} {d : PyData} (h : Szd k B d) (hk : k ≤ 32) (hB : B ≤ 16000000) : Shows d := ⟨h.1, Nat.le_trans h.2.1 hk, Nat.le_trans h.2.2 (by rw [sizeLine_eq]; omega)⟩
theorem szd_all {k B : Nat} : ∀ {ds : List PyData}, (∀ d ∈ ds, Szd k B d) → PyData.showableAll ds = true ∧ PyData.depthAll ds ≤ k
  | [], _ => ⟨by simp only [PyData.showableAll], by simp only [PyData.depthAll]; omega⟩
  | d :: ds, h => by
    obtain ⟨h1, h2, _⟩ := h d List.mem_cons_self
    obtain ⟨g1, g2⟩ := szd_all (ds := ds) fun e he => h e (List.mem_cons_of_mem _ he)
    exact ⟨by simp only [PyData.showableAll, h1, g1, Bool.and_self], by simp only [PyData.depthAll]; omega⟩
theorem szd_list {k B n : Nat} {ds : List PyData} (h : ∀ d ∈ ds, Szd k B d) (hn : ds.length ≤ n) : Szd (k + 1) ((B + 2) * n + 3) (.list ds) := by
  obtain ⟨g1, g2⟩ := szd_all h
  have g3 := shown_list (B := B) fun d hd => (h d hd).2.2
  have g4 : (B + 2) * ds.length ≤ (B + 2) * n := Nat.mul_le_mul_left _ hn
  exact ⟨by simp only [PyData.showable, g1], by simp only [PyData.depth]; omega, by omega⟩
theorem szd_int {i : Int} (h : i.natAbs < 2 ^ 1000) : Szd 1 1100 (.int i) := ⟨(rp_int h).sh, by simp only [PyData.depth]; omega, by have := shown_int h; omega⟩
theorem szd_non : Szd 1 1100 .none := ⟨rfl, by decide, by decide +kernel⟩
/-- a value that is no disc, and how it is told -/
def NoD (H : Hp) (v : V) (ans : Str) : Prop := ∃ (d : PyData) (f : V), Dq H v d ∧ BadDisc d f ∧ ans = discAns f ∧ Szd 4 300000 d
theorem NoD.up {H H' : Hp} {v : V} {ans : Str} (h : NoD H v ans) (s : Same H H') : NoD H' v ans := by
  obtain ⟨d, f, h1, h2⟩ := h
  exact ⟨d, f, h1.same s, h2⟩
/-- one of the pairs -/
def NoDE (H : Hp) (u : V) : Prop := ∃ (t : Addr) (v : V) (ans : Str), u = .ref t ∧ H t = some (.tup [v, .str ans]) ∧ NoD H v ans
theorem NoDE.up {H H' : Hp} {u : V} (h : NoDE H u) (s : Same H H') : NoDE H' u := by
  obtain ⟨t, v, ans, e, h1, h2⟩ := h
  exact ⟨t, v, ans, e, s _ _ h1, h2.up s⟩
/-- a pair in H of a value of H0 -/
def NoDB (H0 H : Hp) (u : V) : Prop := ∃ (t : Addr) (v : V) (ans : Str), u = .ref t ∧ H t = some (.tup [v, .str ans]) ∧ NoD H0 v ans
theorem NoDB.up {H0 H H' : Hp} {u : V} (h : NoDB H0 H u) (s : Same H H') : NoDB H0 H' u := by
  obtain ⟨t, v, ans, e, h1, h2⟩ := h
  exact ⟨t, v, ans, e, s _ _ h1, h2⟩
theorem NoDB.over {H0 H : Hp} {D : Addr} {us : List V} {o : HO} {u : V} (e : H D = some (.lst us)) (h : NoDB H0 H u) : NoDB H0 (upd H D o) u := by
  obtain ⟨t, v, ans, eu, h1, h2⟩ := h
  refine ⟨t, v, ans, eu, ?_, h2⟩
  rw [upd_ne fun z => by rw [z, e] at h1; cases h1]
  exact h1
theorem NoDB.on {H0 H : Hp} {u : V} (h : NoDB H0 H u) (s : Same H0 H) : NoDE H u := by
  obtain ⟨t, v, ans, e, h1, h2⟩ := h
  exact ⟨t, v, ans, e, h1, h2.up s⟩
theorem nod_none {H : Hp} {v : V} {d : PyData} (h : Dq H v d) (hs : slotsQ d = false) (z : Szd 4 300000 d) : NoD H v "disc None" := ⟨d, .non, h, .none hs, rfl, z⟩
theorem zeros_flat (n : Nat) : (List.replicate n [V.int 0]).flatten = (List.replicate n (0 : Int)).map V.int := by
  rw [rep_any, List.map_replicate]
/-- an item that no disc has -/
def OddV (H : Hp) (v : V) : Prop := ∃ d : PyData, Dq H v d ∧ Szd 2 1200 d ∧ okS top30 d = false
theorem OddV.up {H H' : Hp} {v : V} (h : OddV H v) (s : Same H H') : OddV H' v := by
  obtain ⟨d, h1, h2⟩ := h
  exact ⟨d, h1.same s, h2⟩
/-- zeros, then something odd, then whatever -/
theorem nod_list {H : Hp} {l : Addr} {n : Nat} {v : V} {d : PyData} {xs : List V} {ds : List PyData} (e : H l = some (.lst (List.replicate n (.int 0) ++ v :: xs))) (hd : Dq H v d) (hs : Szd 2 1200 d) (ho : okS top30 d = false) (hx : DqAll H xs ds) (hxs : ∀ d ∈ ds, Szd 2 1200 d) (hn : n + ds.length < 40) :
    NoD H (.ref l) (Str.ofString "disc " ++ Str.ofString (toString (n : Int))) := by
  have zs : ∀ n : Nat, ∀ {ys : List V} {es : List PyData}, DqAll H ys es → DqAll H (List.replicate n (.int 0) ++ ys) (List.replicate n (.int 0) ++ es) := fun n => by
    induction n with
    | zero => exact fun h => h
    | succ n ih => exact fun h => .cons (.int 0) (ih h)
  have hl : (List.replicate n (PyData.int 0) ++ d :: ds).length = n + ds.length + 1 := by
    rw [List.length_append, List.length_replicate, List.length_cons]
    omega
  refine ⟨.list (List.replicate n (.int 0) ++ d :: ds), .int n, .lst e (zs n (.cons hd hx)), .at ?_ ⟨fun j y hj hy => ?_, d, ?_, ho⟩ (by omega), rfl, ?_⟩
  · show (decide (1 ≤ (List.replicate n (PyData.int 0) ++ d :: ds).length) && decide ((List.replicate n (PyData.int 0) ++ d :: ds).length ≤ 40)) = true
    rw [hl, decide_eq_true (show 1 ≤ n + ds.length + 1 by omega), decide_eq_true (show n + ds.length + 1 ≤ 40 by omega)]
    rfl
  · rw [List.getElem?_append_left (by rw [List.length_replicate]; exact hj), List.getElem?_replicate, if_pos hj] at hy
    rw [← Option.some.inj hy]
    rfl
  · rw [List.getElem?_append_right (by rw [List.length_replicate]; exact Nat.le_refl _), List.length_replicate, Nat.sub_self]
    rfl
  · refine (szd_list (k := 2) (B := 1200) (n := 40) (fun y hy => ?_) (by omega)).mono (by decide) (by decide)
    rcases List.mem_append.mp hy with h | h
    · rw [(List.mem_replicate.mp h).2]
      exact (szd_int (by decide +kernel)).mono (by decide) (by decide)
    · rcases List.mem_cons.mp h with h | h
      · rw [h]
        exact hs
      · exact hxs y h
def spBadDiscsL : Sp := fun vs H Q _ => vs = [.int 40] ∧ ∀ (l : Addr) (us : List V) (H' : Hp), Same H H' → H' l = some (.lst us) → (∀ u ∈ us, NoDE H' u) → us.length ≤ 60 → Q (.ref l) H'
theorem ok_law_bad_discs (T : Txt K mg) : FnOk P w K mg base CX0 1 T.a_law_bad_discs T.d_law_bad_discs ["bound"] spBadDiscsL := by
  refine T.F_law_bad_discs.ok sc_law_bad_discs (fun vs H Q E h => ?_) (fun cdv A outer s H vs Q E hr h => ?_)
  · obtain ⟨rfl, _⟩ := h
    rfl
  · obtain ⟨rfl, q⟩ := h
    refine ⟨_, (pss_cons (ps_setLc (i := 1) (own := [("bad", 2)]) (g := gName 2) (tt := tYes) (by rfl) sc_law_bad_discs.nd rfl rfl (sw_true rfl rfl rfl (by decide +kernel)) (pi_tupL (K := K) rfl (pe_tup (pa_cons pe_non (pa_cons pe_int (pa_cons pe_str (pa_cons (pe_tup pa_nil) (pa_cons (pe_tup (pa_cons pe_int (pa_cons pe_int pa_nil))) (pa_cons (pe_lst pa_nil) (pa_cons pe_dnewK (pa_cons pe_bl (pa_cons (pe_op op_rep (pe_lst (pa_cons pe_int pa_nil)) pe_int) (pa_cons (pe_op op_rep (pe_lst (pa_cons pe_int pa_nil)) pe_int) pa_nil)))))))))))) (blkOk_by (own := [("bad", 2)]) (N := ["bound", "found", "bad", "odd"]) (sc := defScope s_law_bad_discs) (by decide +kernel))
        (fun _ _ _ _ _ => (pg_name (i := 2) sc_law_bad_discs.nd rfl (Or.inl rfl))) (fun _ _ _ _ _ => pts_nil) (fun _ _ _ _ _ => (pe_tup (pa_cons (pv 2) (pa_cons pe_str pa_nil)))))
      (pss_cons (ps_set (i := 1) sc_law_bad_discs.nd rfl (.inl rfl) (pe_op op_cat (pv 1) (pe_op op_rep (pe_lst (pa_cons (pe_tup (pa_cons (pe_op op_rep (pe_lst (pa_cons pe_int pa_nil)) (pe_op op_add (pv 0) pe_int)) (pa_cons pe_str pa_nil))) pa_nil)) (pe_callTy call_int1 (by rfl) T.n_int (by decide +kernel) (pa_cons (pe_cmpR op_lt (pv 0) pe_int (nomark _)) pa_nil)))))
      (pss_cons (ps_for PassesOwn.never rfl (pi_listL (K := K) rfl (pe_lst (pa_cons pe_non (pa_cons pe_bl (pa_cons pe_bl (pa_cons pe_str (pa_cons (pe_lst (pa_cons pe_int pa_nil)) (pa_cons (pe_tup (pa_cons pe_int pa_nil)) (pa_cons pe_dnewK (pa_cons (pe_un un_neg pe_int) (pa_cons (pe_op op_add (pe_op op_pow pe_int pe_int) pe_int) (pa_cons (pe_op op_pow pe_int pe_int) (pa_cons (pe_op op_sub pe_int (pe_op op_pow pe_int pe_int)) pa_nil))))))))))))) (pg_name (i := 3) sc_law_bad_discs.nd rfl (.inl rfl)) (pss_cons (ps_set (i := 1) sc_law_bad_discs.nd rfl (.inl rfl) (pe_op op_cat (pv 1) (pe_lst (pa_cons (pe_tup (pa_cons (pe_lst (pa_cons (pv 3) pa_nil)) (pa_cons pe_str pa_nil))) (pa_cons (pe_tup (pa_cons (pe_lst (pa_cons pe_int (pa_cons (pv 3) pa_nil))) (pa_cons pe_str pa_nil))) (pa_cons (pe_tup (pa_cons (pe_lst (pa_cons (pv 3) (pa_cons pe_non pa_nil))) (pa_cons pe_str pa_nil))) pa_nil))))))
      (pss_one (ps_expr (pe_bm PySem.F.plainAttrs_list PySem.F.slot_list_append PySem.F.type_list_append mt_append (pv 1) (pa_cons (pe_tup (pa_cons (pe_op op_cat (pe_op op_rep (pe_lst (pa_cons pe_int pa_nil)) pe_int) (pe_lst (pa_cons (pv 3) pa_nil))) (pa_cons pe_str pa_nil))) pa_nil))))))
      (pss_one (ps_ret (pv 1)))))), ?_⟩
    -- @@
    have sm := Same.refl H
    refine ⟨(by show 0 ≤ sizeLine; decide), fun a1 ha1 => ?_⟩
    have dd := new_same (H := H) (o := .tup []) ha1
    have sm := sm.trans dd
    have ga1 : (upd H a1 (.tup [])) a1 = some (.tup []) := upd_same
    generalize upd H a1 (.tup []) = H1 at dd ga1 sm ⊢
    clear dd
    refine ⟨(by show 2 ≤ sizeLine; decide), fun a2 ha2 => ?_⟩
    have dd := new_same (H := H1) (o := .tup [.int 1, .int 0]) ha2
    have sm := sm.trans dd
    have ga1 := dd _ _ ga1
    have ga2 : (upd H1 a2 (.tup [.int 1, .int 0])) a2 = some (.tup [.int 1, .int 0]) := upd_same
    generalize upd H1 a2 (.tup [.int 1, .int 0]) = H2 at dd ga2 sm ga1 ⊢
    clear dd
    refine ⟨(by show 0 ≤ sizeLine; decide), fun a3 ha3 => ?_⟩
    have dd := new_same (H := H2) (o := .lst []) ha3
    have sm := sm.trans dd
    have ga1 := dd _ _ ga1
    have ga2 := dd _ _ ga2
    have ga3 : (upd H2 a3 (.lst [])) a3 = some (.lst []) := upd_same
    generalize upd H2 a3 (.lst []) = H3 at dd ga3 sm ga1 ga2 ⊢
    clear dd
    refine (show ∀ a4, H3 a4 = none → _ from fun a4 ha4 => ?_)
    have dd := new_same (H := H3) (o := .dK []) ha4
    have sm := sm.trans dd
    have ga1 := dd _ _ ga1
    have ga2 := dd _ _ ga2
    have ga3 := dd _ _ ga3
    have ga4 : (upd H3 a4 (.dK [])) a4 = some (.dK []) := upd_same
    generalize upd H3 a4 (.dK []) = H4 at dd ga4 sm ga1 ga2 ga3 ⊢
    clear dd
    refine ⟨(by show 1 ≤ sizeLine; decide), fun z5 hz5 => ?_⟩
    have dd := new_same (H := H4) (o := .lst [.int 0]) hz5
    have sm := sm.trans dd
    have ga1 := dd _ _ ga1
    have ga2 := dd _ _ ga2
    have ga3 := dd _ _ ga3
    have ga4 := dd _ _ ga4
    have gz5 : (upd H4 z5 (.lst [.int 0])) z5 = some (.lst [.int 0]) := upd_same
    generalize upd H4 z5 (.lst [.int 0]) = H5 at dd gz5 sm ga1 ga2 ga3 ga4 ⊢
    clear dd
    refine ⟨z5, 41, _, rfl, rfl, gz5, by decide, by decide, (by show 1 * 41 ≤ sizeLine; decide), fun a5 ha5 => ?_⟩
    have dd := new_same (H := H5) (o := .lst (List.replicate (41 : Int).toNat [V.int 0]).flatten) ha5
    have sm := sm.trans dd
    have ga1 := dd _ _ ga1
    have ga2 := dd _ _ ga2
    have ga3 := dd _ _ ga3
    have ga4 := dd _ _ ga4
    have gz5 := dd _ _ gz5
    have ga5 : (upd H5 a5 (.lst (List.replicate (41 : Int).toNat [V.int 0]).flatten)) a5 = some (.lst (List.replicate (41 : Int).toNat [V.int 0]).flatten) := upd_same
    generalize upd H5 a5 (.lst (List.replicate (41 : Int).toNat [V.int 0]).flatten) = H6 at dd ga5 sm ga1 ga2 ga3 ga4 gz5 ⊢
    clear dd
    refine ⟨(by show 1 ≤ sizeLine; decide), fun z6 hz6 => ?_⟩
    have dd := new_same (H := H6) (o := .lst [.int 0]) hz6
    have sm := sm.trans dd
    have ga1 := dd _ _ ga1
    have ga2 := dd _ _ ga2
    have ga3 := dd _ _ ga3
    have ga4 := dd _ _ ga4
    have gz5 := dd _ _ gz5
    have ga5 := dd _ _ ga5
    have gz6 : (upd H6 z6 (.lst [.int 0])) z6 = some (.lst [.int 0]) := upd_same
    generalize upd H6 z6 (.lst [.int 0]) = H7 at dd gz6 sm ga1 ga2 ga3 ga4 gz5 ga5 ⊢
    clear dd
    refine ⟨z6, 200, _, rfl, rfl, gz6, by decide, by decide, (by show 1 * 200 ≤ sizeLine; decide), fun a6 ha6 => ?_⟩
    have dd := new_same (H := H7) (o := .lst (List.replicate (200 : Int).toNat [V.int 0]).flatten) ha6
    have sm := sm.trans dd
    have ga1 := dd _ _ ga1
    have ga2 := dd _ _ ga2
    have ga3 := dd _ _ ga3
    have ga4 := dd _ _ ga4
    have gz5 := dd _ _ gz5
    have ga5 := dd _ _ ga5
    have gz6 := dd _ _ gz6
    have ga6 : (upd H7 a6 (.lst (List.replicate (200 : Int).toNat [V.int 0]).flatten)) a6 = some (.lst (List.replicate (200 : Int).toNat [V.int 0]).flatten) := upd_same
    generalize upd H7 a6 (.lst (List.replicate (200 : Int).toNat [V.int 0]).flatten) = H8 at dd ga6 sm ga1 ga2 ga3 ga4 gz5 ga5 gz6 ⊢
    clear dd
    refine ⟨(by show 10 ≤ sizeLine; decide), fun W hW => ?_⟩
    have dd := new_same (H := H8) (o := .tup [.non, .int 5, .str "0 1", .ref a1, .ref a2, .ref a3, .ref a4, .bl true, .ref a5, .ref a6]) hW
    have sm := sm.trans dd
    have ga1 := dd _ _ ga1
    have ga2 := dd _ _ ga2
    have ga3 := dd _ _ ga3
    have ga4 := dd _ _ ga4
    have gz5 := dd _ _ gz5
    have ga5 := dd _ _ ga5
    have gz6 := dd _ _ gz6
    have ga6 := dd _ _ ga6
    have gW : (upd H8 W (.tup [.non, .int 5, .str "0 1", .ref a1, .ref a2, .ref a3, .ref a4, .bl true, .ref a5, .ref a6])) W = some (.tup [.non, .int 5, .str "0 1", .ref a1, .ref a2, .ref a3, .ref a4, .bl true, .ref a5, .ref a6]) := upd_same
    generalize upd H8 W (.tup [.non, .int 5, .str "0 1", .ref a1, .ref a2, .ref a3, .ref a4, .bl true, .ref a5, .ref a6]) = H9 at dd gW sm ga1 ga2 ga3 ga4 gz5 ga5 gz6 ga6 ⊢
    clear dd
    have zsz : ∀ {k : Nat} {ds : List PyData}, k ≤ 200 → ds = (List.replicate k (0 : Int)).map PyData.int → Szd 4 300000 (.list ds) := fun {k ds} hk e => by
      refine (szd_list (k := 1) (B := 1100) (n := 200) (fun y hy => ?_) ?_).mono (by decide) (by decide)
      · rw [e] at hy
        obtain ⟨x, hx, rfl⟩ := List.mem_map.mp hy
        rw [(List.mem_replicate.mp hx).2]
        exact szd_int (by decide +kernel)
      · rw [e, List.length_map, List.length_replicate]
        exact hk
    have each : ∀ (i : Nat) (x : V), ([.non, .int 5, .str "0 1", .ref a1, .ref a2, .ref a3, .ref a4, .bl true, .ref a5, .ref a6] : List V)[i]? = some x → NoD H9 x "disc None" := fun i x hx => by
      match i, hx with
      | 0, hx => exact (Option.some.inj hx) ▸ nod_none .non rfl ⟨rfl, by decide, by decide +kernel⟩
      | 1, hx => exact (Option.some.inj hx) ▸ nod_none (.int 5) rfl ((szd_int (by decide +kernel)).mono (by decide) (by decide))
      | 2, hx => exact (Option.some.inj hx) ▸ nod_none (.str "0 1") rfl ⟨by decide +kernel, by decide +kernel, by decide +kernel⟩
      | 3, hx => exact (Option.some.inj hx) ▸ nod_none (.tup ga1 .nil) rfl ⟨by decide +kernel, by decide +kernel, by decide +kernel⟩
      | 4, hx => exact (Option.some.inj hx) ▸ nod_none (.tup ga2 (.cons (.int 1) (.cons (.int 0) .nil))) rfl ⟨by decide +kernel, by decide +kernel, by decide +kernel⟩
      | 5, hx => exact (Option.some.inj hx) ▸ nod_none (.lst ga3 .nil) (by decide) ⟨by decide +kernel, by decide +kernel, by decide +kernel⟩
      | 6, hx => exact (Option.some.inj hx) ▸ nod_none (.emp ga4) rfl ⟨by decide +kernel, by decide +kernel, by decide +kernel⟩
      | 7, hx => exact (Option.some.inj hx) ▸ nod_none (.bl true) rfl ⟨by decide +kernel, by decide +kernel, by decide +kernel⟩
      | 8, hx => exact (Option.some.inj hx) ▸ nod_none (.lst ga5 (by rw [zeros_flat]; exact dqAll_ints _)) (by decide +kernel) (zsz (k := 41) (by decide) rfl)
      | 9, hx => exact (Option.some.inj hx) ▸ nod_none (.lst ga6 (by rw [zeros_flat]; exact dqAll_ints _)) (by decide +kernel) (zsz (k := 200) (by decide) rfl)
    obtain ⟨ws, hws⟩ : ∃ ws : List V, ws = [.non, .int 5, .str "0 1", .ref a1, .ref a2, .ref a3, .ref a4, .bl true, .ref a5, .ref a6] := ⟨_, rfl⟩
    rw [← hws] at each gW
    have hwl : ws.length = 10 := by rw [hws]; rfl
    clear hws zsz ga1 ga2 ga3 ga4 gz5 ga5 gz6 ga6
    refine ⟨W, rfl, ⟨_, SqT.of gW⟩, fun D hD => ?_⟩
    refine lc_tup (K := K) (a := W) (xs := ws) (fun i H' => Same H9 H' ∧ ∃ us : List V, H' D = some (.lst us) ∧ us.length = i ∧ ∀ u ∈ us, NoDB H9 H' u)
      ⟨new_same hD, [], upd_same, rfl, fun u hu => (List.not_mem_nil hu).elim⟩ (fun i H' _ hP => SqT.of (hP.1 _ _ gW)) (fun i x H' hx hP => ⟨rfl, ?_⟩) (fun H' hP => ?_)
    · obtain ⟨ss, us, gD, hul, hall⟩ := hP
      have hi : i < ws.length := (List.getElem?_eq_some_iff.mp hx).1
      refine ⟨x, rfl, (by show 2 ≤ sizeLine; decide), fun t ht => ?_⟩
      have dt := new_same (H := H') (o := .tup [x, .str "disc None"]) ht
      refine ⟨us, dt _ _ gD, sz40 (by omega), same_over (ss.trans dt) hD, us ++ [.ref t], upd_same, by rw [List.length_append, hul]; rfl, fun u hu => ?_⟩
      rcases List.mem_append.mp hu with h | h
      · exact ((hall u h).up dt).over (dt _ _ gD)
      · rw [List.mem_singleton.mp h]
        exact NoDB.over (dt _ _ gD) ⟨t, x, _, rfl, upd_same, each i x hx⟩
    obtain ⟨ss, us, gD, hul, hall⟩ := hP
    rw [hwl] at hul
    have hall2 : ∀ u ∈ us, NoDE H' u := fun u hu => (hall u hu).on ss
    have sm := sm.trans ss
    clear ss hall each gW hwl
    refine ⟨.ref D, rfl, (by show 1 ≤ sizeLine; decide), fun z7 hz7 => ?_⟩
    have dd := new_same (H := H') (o := .lst [.int 0]) hz7
    have sm := sm.trans dd
    have gD := dd _ _ gD
    have hall2 := fun u hu => (hall2 u hu).up dd
    have gz7 : (upd H' z7 (.lst [.int 0])) z7 = some (.lst [.int 0]) := upd_same
    generalize upd H' z7 (.lst [.int 0]) = H10 at dd gz7 sm gD hall2 ⊢
    clear dd
    refine ⟨.int 40, rfl, 40, 1, rfl, rfl, z7, 41, _, rfl, rfl, gz7, by decide, by decide, (by show 1 * 41 ≤ sizeLine; decide), fun b7 hb7 => ?_⟩
    have dd := new_same (H := H10) (o := .lst (List.replicate (41 : Int).toNat [V.int 0]).flatten) hb7
    have sm := sm.trans dd
    have gD := dd _ _ gD
    have hall2 := fun u hu => (hall2 u hu).up dd
    have gz7 := dd _ _ gz7
    have gb7 : (upd H10 b7 (.lst (List.replicate (41 : Int).toNat [V.int 0]).flatten)) b7 = some (.lst (List.replicate (41 : Int).toNat [V.int 0]).flatten) := upd_same
    generalize upd H10 b7 (.lst (List.replicate (41 : Int).toNat [V.int 0]).flatten) = H11 at dd gb7 sm gD hall2 gz7 ⊢
    clear dd
    refine ⟨(by show 2 ≤ sizeLine; decide), fun t7 ht7 => ?_⟩
    have dd := new_same (H := H11) (o := .tup [.ref b7, .str "disc None"]) ht7
    have sm := sm.trans dd
    have gD := dd _ _ gD
    have hall2 := fun u hu => (hall2 u hu).up dd
    have gz7 := dd _ _ gz7
    have gb7 := dd _ _ gb7
    have gt7 : (upd H11 t7 (.tup [.ref b7, .str "disc None"])) t7 = some (.tup [.ref b7, .str "disc None"]) := upd_same
    generalize upd H11 t7 (.tup [.ref b7, .str "disc None"]) = H12 at dd gt7 sm gD hall2 gz7 gb7 ⊢
    clear dd
    refine ⟨(by show 1 ≤ sizeLine; decide), fun l7 hl7 => ?_⟩
    have dd := new_same (H := H12) (o := .lst [.ref t7]) hl7
    have sm := sm.trans dd
    have gD := dd _ _ gD
    have hall2 := fun u hu => (hall2 u hu).up dd
    have gz7 := dd _ _ gz7
    have gb7 := dd _ _ gb7
    have gt7 := dd _ _ gt7
    have gl7 : (upd H12 l7 (.lst [.ref t7])) l7 = some (.lst [.ref t7]) := upd_same
    generalize upd H12 l7 (.lst [.ref t7]) = H13 at dd gl7 sm gD hall2 gz7 gb7 gt7 ⊢
    clear dd
    refine ⟨.int 40, rfl, 40, 40, rfl, rfl, .inr ⟨_, rfl, ?_⟩⟩
    refine ⟨l7, 0, _, rfl, rfl, gl7, by decide, by decide, (by show 1 * 0 ≤ sizeLine; decide), fun e7 he7 => ?_⟩
    have dd := new_same (H := H13) (o := .lst (List.replicate (0 : Int).toNat [V.ref t7]).flatten) he7
    have sm := sm.trans dd
    have gD := dd _ _ gD
    have hall2 := fun u hu => (hall2 u hu).up dd
    have gz7 := dd _ _ gz7
    have gb7 := dd _ _ gb7
    have gt7 := dd _ _ gt7
    have gl7 := dd _ _ gl7
    have ge7 : (upd H13 e7 (.lst (List.replicate (0 : Int).toNat [V.ref t7]).flatten)) e7 = some (.lst (List.replicate (0 : Int).toNat [V.ref t7]).flatten) := upd_same
    generalize upd H13 e7 (.lst (List.replicate (0 : Int).toNat [V.ref t7]).flatten) = H14 at dd ge7 sm gD hall2 gz7 gb7 gt7 gl7 ⊢
    clear dd
    refine ⟨D, e7, us, [], rfl, rfl, gD, ge7, sz40' (by simp; omega), fun F hF => ?_⟩
    have dd := new_same (H := H14) (o := .lst (us ++ [])) hF
    have sm := sm.trans dd
    have gD := dd _ _ gD
    have hall2 := fun u hu => (hall2 u hu).up dd
    have gz7 := dd _ _ gz7
    have gb7 := dd _ _ gb7
    have gt7 := dd _ _ gt7
    have gl7 := dd _ _ gl7
    have ge7 := dd _ _ ge7
    have gF : (upd H14 F (.lst (us ++ []))) F = some (.lst (us ++ [])) := upd_same
    generalize upd H14 F (.lst (us ++ [])) = H15 at dd gF sm gD hall2 gz7 gb7 gt7 gl7 ge7 ⊢
    clear dd
    rw [List.append_nil] at gF
    clear gD gz7 gb7 gt7 gl7 ge7
    refine ⟨(by show 1 ≤ sizeLine; decide), fun o5 ho5 => ?_⟩
    have dd := new_same (H := H15) (o := .lst [.int 1]) ho5
    have sm := sm.trans dd
    have hall2 := fun u hu => (hall2 u hu).up dd
    have gF := dd _ _ gF
    have go5 : (upd H15 o5 (.lst [.int 1])) o5 = some (.lst [.int 1]) := upd_same
    generalize upd H15 o5 (.lst [.int 1]) = H16 at dd go5 sm hall2 gF ⊢
    clear dd
    refine ⟨(by show 1 ≤ sizeLine; decide), fun o6 ho6 => ?_⟩
    have dd := new_same (H := H16) (o := .tup [.int 1]) ho6
    have sm := sm.trans dd
    have hall2 := fun u hu => (hall2 u hu).up dd
    have gF := dd _ _ gF
    have go5 := dd _ _ go5
    have go6 : (upd H16 o6 (.tup [.int 1])) o6 = some (.tup [.int 1]) := upd_same
    generalize upd H16 o6 (.tup [.int 1]) = H17 at dd go6 sm hall2 gF go5 ⊢
    clear dd
    refine (show ∀ o7, H17 o7 = none → _ from fun o7 ho7 => ?_)
    have dd := new_same (H := H17) (o := .dK []) ho7
    have sm := sm.trans dd
    have hall2 := fun u hu => (hall2 u hu).up dd
    have gF := dd _ _ gF
    have go5 := dd _ _ go5
    have go6 := dd _ _ go6
    have go7 : (upd H17 o7 (.dK [])) o7 = some (.dK []) := upd_same
    generalize upd H17 o7 (.dK []) = H18 at dd go7 sm hall2 gF go5 go6 ⊢
    clear dd
    refine ⟨1, rfl, 10, 30, rfl, rfl, ⟨by decide, by decide, by decide⟩, _, 1, rfl, rfl, 10, 39, rfl, rfl, ⟨by decide, by decide, by decide⟩, 10, 30, rfl, rfl, ⟨by decide, by decide, by decide⟩, 0, _, rfl, rfl, (by show 11 ≤ sizeLine; decide), fun OL hOL => ?_⟩
    have dd := new_same (H := H18) (o := .lst [.non, .bl true, .bl false, .str "1", .ref o5, .ref o6, .ref o7, .int (-1), .int (10 ^ (30 : Int).toNat + 1), .int (10 ^ (39 : Int).toNat), .int (0 - 10 ^ (30 : Int).toNat)]) hOL
    have sm := sm.trans dd
    have hall2 := fun u hu => (hall2 u hu).up dd
    have gF := dd _ _ gF
    have go5 := dd _ _ go5
    have go6 := dd _ _ go6
    have go7 := dd _ _ go7
    have gOL : (upd H18 OL (.lst [.non, .bl true, .bl false, .str "1", .ref o5, .ref o6, .ref o7, .int (-1), .int (10 ^ (30 : Int).toNat + 1), .int (10 ^ (39 : Int).toNat), .int (0 - 10 ^ (30 : Int).toNat)])) OL = some (.lst [.non, .bl true, .bl false, .str "1", .ref o5, .ref o6, .ref o7, .int (-1), .int (10 ^ (30 : Int).toNat + 1), .int (10 ^ (39 : Int).toNat), .int (0 - 10 ^ (30 : Int).toNat)]) := upd_same
    generalize upd H18 OL (.lst [.non, .bl true, .bl false, .str "1", .ref o5, .ref o6, .ref o7, .int (-1), .int (10 ^ (30 : Int).toNat + 1), .int (10 ^ (39 : Int).toNat), .int (0 - 10 ^ (30 : Int).toNat)]) = H19 at dd gOL sm hall2 gF go5 go6 go7 ⊢
    clear dd
    have each : ∀ (i : Nat) (x : V), ([.non, .bl true, .bl false, .str "1", .ref o5, .ref o6, .ref o7, .int (-1), .int (10 ^ (30 : Int).toNat + 1), .int (10 ^ (39 : Int).toNat), .int (0 - 10 ^ (30 : Int).toNat)] : List V)[i]? = some x → OddV H19 x := fun i x hx => by
      match i, hx with
      | 0, hx => exact (Option.some.inj hx) ▸ ⟨_, .non, ⟨rfl, by decide, by decide +kernel⟩, rfl⟩
      | 1, hx => exact (Option.some.inj hx) ▸ ⟨_, .bl true, ⟨by decide +kernel, by decide +kernel, by decide +kernel⟩, rfl⟩
      | 2, hx => exact (Option.some.inj hx) ▸ ⟨_, .bl false, ⟨by decide +kernel, by decide +kernel, by decide +kernel⟩, rfl⟩
      | 3, hx => exact (Option.some.inj hx) ▸ ⟨_, .str "1", ⟨by decide +kernel, by decide +kernel, by decide +kernel⟩, rfl⟩
      | 4, hx => exact (Option.some.inj hx) ▸ ⟨_, .lst go5 (.cons (.int 1) .nil), ⟨by decide +kernel, by decide +kernel, by decide +kernel⟩, rfl⟩
      | 5, hx => exact (Option.some.inj hx) ▸ ⟨_, .tup go6 (.cons (.int 1) .nil), ⟨by decide +kernel, by decide +kernel, by decide +kernel⟩, rfl⟩
      | 6, hx => exact (Option.some.inj hx) ▸ ⟨_, .emp go7, ⟨by decide +kernel, by decide +kernel, by decide +kernel⟩, rfl⟩
      | 7, hx => exact (Option.some.inj hx) ▸ ⟨_, .int _, (szd_int (by decide +kernel)).mono (by decide) (by decide), by decide +kernel⟩
      | 8, hx => exact (Option.some.inj hx) ▸ ⟨_, .int _, (szd_int (by decide +kernel)).mono (by decide) (by decide), by decide +kernel⟩
      | 9, hx => exact (Option.some.inj hx) ▸ ⟨_, .int _, (szd_int (by decide +kernel)).mono (by decide) (by decide), by decide +kernel⟩
      | 10, hx => exact (Option.some.inj hx) ▸ ⟨_, .int _, (szd_int (by decide +kernel)).mono (by decide) (by decide), by decide +kernel⟩
    obtain ⟨os, hos⟩ : ∃ os : List V, os = [.non, .bl true, .bl false, .str "1", .ref o5, .ref o6, .ref o7, .int (-1), .int (10 ^ (30 : Int).toNat + 1), .int (10 ^ (39 : Int).toNat), .int (0 - 10 ^ (30 : Int).toNat)] := ⟨_, rfl⟩
    rw [← hos] at each gOL
    have hol : os.length = 11 := by rw [hos]; rfl
    clear hos go5 go6 go7
    refine ⟨OL, rfl, ⟨_, SqL.of gOL⟩, for_list (K := K) (a := OL) (xs := os)
      (fun i σ H' => ∃ (F' : Addr) (us' : List V) (y2 y3 : Option V), σ = [some (.int 40), some (.ref F'), y2, y3] ∧ Same H19 H' ∧ H' F' = some (.lst us') ∧ us'.length = 10 + 4 * i ∧ ∀ u ∈ us', NoDE H' u)
      ⟨F, us, _, _, rfl, Same.refl _, gF, hul, hall2⟩ (fun i σ H' _ ⟨_, _, _, _, _, s, _⟩ => SqL.of (s _ _ gOL)) (fun i x σ HB hx hP => ?_) (fun σ HB hP => ?_)⟩
    · obtain ⟨F', us', y2, y3, rfl, ss, gF', hul', hall'⟩ := hP
      have hi : i < os.length := (List.getElem?_eq_some_iff.mp hx).1
      obtain ⟨d, hd, hz, ho⟩ := (each i x hx).up ss
      refine ⟨.ref F', rfl, x, rfl, (by show 1 ≤ sizeLine; decide), fun p1 hp1 => ?_⟩
      have dd := new_same (H := HB) (o := .lst [x]) hp1
      have ss := ss.trans dd
      have gF' := dd _ _ gF'
      have hall' := fun u hu => (hall' u hu).up dd
      have hd := hd.same dd
      have gp1 : (upd HB p1 (.lst [x])) p1 = some (.lst [x]) := upd_same
      generalize upd HB p1 (.lst [x]) = H20 at dd gp1 ss gF' hall' hd ⊢
      clear dd
      refine ⟨(by show 2 ≤ sizeLine; decide), fun q1 hq1 => ?_⟩
      have dd := new_same (H := H20) (o := .tup [.ref p1, .str "disc 0"]) hq1
      have ss := ss.trans dd
      have gF' := dd _ _ gF'
      have hall' := fun u hu => (hall' u hu).up dd
      have hd := hd.same dd
      have gp1 := dd _ _ gp1
      have gq1 : (upd H20 q1 (.tup [.ref p1, .str "disc 0"])) q1 = some (.tup [.ref p1, .str "disc 0"]) := upd_same
      generalize upd H20 q1 (.tup [.ref p1, .str "disc 0"]) = H21 at dd gq1 ss gF' hall' hd gp1 ⊢
      clear dd
      refine ⟨x, rfl, (by show 2 ≤ sizeLine; decide), fun p2 hp2 => ?_⟩
      have dd := new_same (H := H21) (o := .lst [.int 0, x]) hp2
      have ss := ss.trans dd
      have gF' := dd _ _ gF'
      have hall' := fun u hu => (hall' u hu).up dd
      have hd := hd.same dd
      have gp1 := dd _ _ gp1
      have gq1 := dd _ _ gq1
      have gp2 : (upd H21 p2 (.lst [.int 0, x])) p2 = some (.lst [.int 0, x]) := upd_same
      generalize upd H21 p2 (.lst [.int 0, x]) = H22 at dd gp2 ss gF' hall' hd gp1 gq1 ⊢
      clear dd
      refine ⟨(by show 2 ≤ sizeLine; decide), fun q2 hq2 => ?_⟩
      have dd := new_same (H := H22) (o := .tup [.ref p2, .str "disc 1"]) hq2
      have ss := ss.trans dd
      have gF' := dd _ _ gF'
      have hall' := fun u hu => (hall' u hu).up dd
      have hd := hd.same dd
      have gp1 := dd _ _ gp1
      have gq1 := dd _ _ gq1
      have gp2 := dd _ _ gp2
      have gq2 : (upd H22 q2 (.tup [.ref p2, .str "disc 1"])) q2 = some (.tup [.ref p2, .str "disc 1"]) := upd_same
      generalize upd H22 q2 (.tup [.ref p2, .str "disc 1"]) = H23 at dd gq2 ss gF' hall' hd gp1 gq1 gp2 ⊢
      clear dd
      refine ⟨x, rfl, (by show 2 ≤ sizeLine; decide), fun p3 hp3 => ?_⟩
      have dd := new_same (H := H23) (o := .lst [x, .non]) hp3
      have ss := ss.trans dd
      have gF' := dd _ _ gF'
      have hall' := fun u hu => (hall' u hu).up dd
      have hd := hd.same dd
      have gp1 := dd _ _ gp1
      have gq1 := dd _ _ gq1
      have gp2 := dd _ _ gp2
      have gq2 := dd _ _ gq2
      have gp3 : (upd H23 p3 (.lst [x, .non])) p3 = some (.lst [x, .non]) := upd_same
      generalize upd H23 p3 (.lst [x, .non]) = H24 at dd gp3 ss gF' hall' hd gp1 gq1 gp2 gq2 ⊢
      clear dd
      refine ⟨(by show 2 ≤ sizeLine; decide), fun q3 hq3 => ?_⟩
      have dd := new_same (H := H24) (o := .tup [.ref p3, .str "disc 0"]) hq3
      have ss := ss.trans dd
      have gF' := dd _ _ gF'
      have hall' := fun u hu => (hall' u hu).up dd
      have hd := hd.same dd
      have gp1 := dd _ _ gp1
      have gq1 := dd _ _ gq1
      have gp2 := dd _ _ gp2
      have gq2 := dd _ _ gq2
      have gp3 := dd _ _ gp3
      have gq3 : (upd H24 q3 (.tup [.ref p3, .str "disc 0"])) q3 = some (.tup [.ref p3, .str "disc 0"]) := upd_same
      generalize upd H24 q3 (.tup [.ref p3, .str "disc 0"]) = H25 at dd gq3 ss gF' hall' hd gp1 gq1 gp2 gq2 gp3 ⊢
      clear dd
      refine ⟨(by show 3 ≤ sizeLine; decide), fun L3 hL3 => ?_⟩
      have dd := new_same (H := H25) (o := .lst [.ref q1, .ref q2, .ref q3]) hL3
      have ss := ss.trans dd
      have gF' := dd _ _ gF'
      have hall' := fun u hu => (hall' u hu).up dd
      have hd := hd.same dd
      have gp1 := dd _ _ gp1
      have gq1 := dd _ _ gq1
      have gp2 := dd _ _ gp2
      have gq2 := dd _ _ gq2
      have gp3 := dd _ _ gp3
      have gq3 := dd _ _ gq3
      have gL3 : (upd H25 L3 (.lst [.ref q1, .ref q2, .ref q3])) L3 = some (.lst [.ref q1, .ref q2, .ref q3]) := upd_same
      generalize upd H25 L3 (.lst [.ref q1, .ref q2, .ref q3]) = H26 at dd gL3 ss gF' hall' hd gp1 gq1 gp2 gq2 gp3 gq3 ⊢
      clear dd
      have n1 : NoDE H26 (.ref q1) := ⟨q1, _, _, rfl, gq1, nod_list (n := 0) (xs := []) (ds := []) gp1 hd hz ho .nil (fun d hd => (List.not_mem_nil hd).elim) (by decide)⟩
      have n2 : NoDE H26 (.ref q2) := ⟨q2, _, _, rfl, gq2, nod_list (n := 1) (xs := []) (ds := []) gp2 hd hz ho .nil (fun d hd => (List.not_mem_nil hd).elim) (by decide)⟩
      have n3 : NoDE H26 (.ref q3) := ⟨q3, _, _, rfl, gq3, nod_list (n := 0) (xs := [.non]) (ds := [.none]) gp3 hd hz ho (.cons .non .nil) (fun d hd => by
        rw [List.mem_singleton.mp hd]
        exact szd_non.mono (by decide) (by decide)) (by decide)⟩
      have hall3 : ∀ u ∈ us' ++ [.ref q1, .ref q2, .ref q3], NoDE H26 u := fun u hu => by
        rcases List.mem_append.mp hu with h | h
        · exact hall' u h
        · simp only [List.mem_cons, List.not_mem_nil, or_false] at h
          rcases h with rfl | rfl | rfl
          · exact n1
          · exact n2
          · exact n3
      clear n1 n2 n3 gp1 gq1 gp2 gq2 gp3 gq3
      have sc := Same.refl H26
      refine ⟨F', L3, us', _, rfl, rfl, gF', gL3, sz40' (by simp; omega), fun F2 hF2 => ?_⟩
      have dd := new_same (H := H26) (o := .lst (us' ++ [.ref q1, .ref q2, .ref q3])) hF2
      have sc := sc.trans dd
      have gF2 : (upd H26 F2 (.lst (us' ++ [.ref q1, .ref q2, .ref q3]))) F2 = some (.lst (us' ++ [.ref q1, .ref q2, .ref q3])) := upd_same
      generalize upd H26 F2 (.lst (us' ++ [.ref q1, .ref q2, .ref q3])) = H27 at dd gF2 sc ⊢
      clear dd
      refine ⟨.ref F2, rfl, .inl ⟨rfl, _, SqL.of gF2⟩, (by show 1 ≤ sizeLine; decide), fun z39 hz39 => ?_⟩
      have dd := new_same (H := H27) (o := .lst [.int 0]) hz39
      have sc := sc.trans dd
      have gF2 := dd _ _ gF2
      have gz39 : (upd H27 z39 (.lst [.int 0])) z39 = some (.lst [.int 0]) := upd_same
      generalize upd H27 z39 (.lst [.int 0]) = H28 at dd gz39 sc gF2 ⊢
      clear dd
      refine ⟨z39, 39, _, rfl, rfl, gz39, by decide, by decide, (by show 1 * 39 ≤ sizeLine; decide), fun r39 hr39 => ?_⟩
      have dd := new_same (H := H28) (o := .lst (List.replicate (39 : Int).toNat [V.int 0]).flatten) hr39
      have sc := sc.trans dd
      have gF2 := dd _ _ gF2
      have gz39 := dd _ _ gz39
      have gr39 : (upd H28 r39 (.lst (List.replicate (39 : Int).toNat [V.int 0]).flatten)) r39 = some (.lst (List.replicate (39 : Int).toNat [V.int 0]).flatten) := upd_same
      generalize upd H28 r39 (.lst (List.replicate (39 : Int).toNat [V.int 0]).flatten) = H29 at dd gr39 sc gF2 gz39 ⊢
      clear dd
      refine ⟨x, rfl, (by show 1 ≤ sizeLine; decide), fun p4 hp4 => ?_⟩
      have dd := new_same (H := H29) (o := .lst [x]) hp4
      have sc := sc.trans dd
      have gF2 := dd _ _ gF2
      have gz39 := dd _ _ gz39
      have gr39 := dd _ _ gr39
      have gp4 : (upd H29 p4 (.lst [x])) p4 = some (.lst [x]) := upd_same
      generalize upd H29 p4 (.lst [x]) = H30 at dd gp4 sc gF2 gz39 gr39 ⊢
      clear dd
      refine ⟨r39, p4, _, _, rfl, rfl, gr39, gp4, (by show 39 + 1 ≤ sizeLine; decide), fun l4 hl4 => ?_⟩
      have dd := new_same (H := H30) (o := .lst ((List.replicate (39 : Int).toNat [V.int 0]).flatten ++ [x])) hl4
      have sc := sc.trans dd
      have gF2 := dd _ _ gF2
      have gz39 := dd _ _ gz39
      have gr39 := dd _ _ gr39
      have gp4 := dd _ _ gp4
      have gl4 : (upd H30 l4 (.lst ((List.replicate (39 : Int).toNat [V.int 0]).flatten ++ [x]))) l4 = some (.lst ((List.replicate (39 : Int).toNat [V.int 0]).flatten ++ [x])) := upd_same
      generalize upd H30 l4 (.lst ((List.replicate (39 : Int).toNat [V.int 0]).flatten ++ [x])) = H31 at dd gl4 sc gF2 gz39 gr39 gp4 ⊢
      clear dd
      refine ⟨(by show 2 ≤ sizeLine; decide), fun q4 hq4 => ?_⟩
      have dd := new_same (H := H31) (o := .tup [.ref l4, .str "disc 39"]) hq4
      have sc := sc.trans dd
      have gF2 := dd _ _ gF2
      have gz39 := dd _ _ gz39
      have gr39 := dd _ _ gr39
      have gp4 := dd _ _ gp4
      have gl4 := dd _ _ gl4
      have gq4 : (upd H31 q4 (.tup [.ref l4, .str "disc 39"])) q4 = some (.tup [.ref l4, .str "disc 39"]) := upd_same
      generalize upd H31 q4 (.tup [.ref l4, .str "disc 39"]) = H32 at dd gq4 sc gF2 gz39 gr39 gp4 gl4 ⊢
      clear dd
      refine ⟨F2, _, _, rfl, rfl, gF2, sz40 (by simp; omega), ?_⟩
      have sf : Same H26 (upd H32 F2 (.lst (us' ++ [.ref q1, .ref q2, .ref q3] ++ [.ref q4]))) := same_over sc hF2
      have nl : l4 ≠ F2 := fun z => by
        rw [z, gF2] at gl4
        have e := congrArg List.length (HO.lst.inj (Option.some.inj gl4))
        simp [rep_any] at e
        omega
      refine ⟨F2, _, _, _, rfl, ss.trans sf, upd_same, by simp; omega, fun u hu => ?_⟩
      rcases List.mem_append.mp hu with h | h
      · exact (hall3 u h).up sf
      · rw [List.mem_singleton.mp h]
        refine ⟨q4, _, _, rfl, by rw [upd_ne fun z => by rw [z, gF2] at gq4; cases gq4]; exact gq4, nod_list (n := 39) (xs := []) (ds := []) ?_ (hd.same sf) hz ho .nil (fun d hd => (List.not_mem_nil hd).elim) (by decide)⟩
        rw [upd_ne nl, gl4, rep_any]
        rfl
    · obtain ⟨F', us', y2, y3, rfl, ss, gF', hul', hall'⟩ := hP
      exact ⟨.ref F', rfl, q F' us' HB (sm.trans ss) gF' hall' (by omega)⟩

/-! ### lists of words compared -/
theorem dpAll_strs {K : PySem.W.Frag} {H : Hp} : ∀ ws : List Str, DpAll K H (ws.map V.str) (ws.map PyData.str)
  | [] => .nil
  | w :: ws => .cons (.str w) (dpAll_strs ws)
theorem dp_strs {K : PySem.W.Frag} {H : Hp} {l : Addr} {ws : List Str} (h : H l = some (.lst (ws.map V.str))) : Dp K H (.ref l) (.list (ws.map PyData.str)) := .lst (SqL.of h) (dpAll_strs ws)
def WsOk (ws : List Str) : Prop := ∀ w ∈ ws, (PyData.str w).canLay0 = true
theorem ws_lay {ws : List Str} (h : WsOk ws) : (PyData.list (ws.map PyData.str)).canLay0 = true ∧ PyData.depthAll (ws.map PyData.str) ≤ 1 := by
  have key : ∀ ws : List Str, WsOk ws → PyData.canLayAll0 (ws.map PyData.str) = true ∧ PyData.depthAll (ws.map PyData.str) ≤ 1 := fun ws => by
    induction ws with
    | nil => exact fun _ => ⟨by simp only [List.map_nil, PyData.canLayAll0], by simp only [List.map_nil, PyData.depthAll]; omega⟩
    | cons w ws ih =>
      intro h
      obtain ⟨h1, h2⟩ := ih fun x hx => h x (List.mem_cons_of_mem _ hx)
      exact ⟨by simp only [List.map_cons, PyData.canLayAll0, h w List.mem_cons_self, h1, Bool.and_self], by simp only [List.map_cons, PyData.depthAll, PyData.depth]; omega⟩
  obtain ⟨h1, h2⟩ := key ws h
  exact ⟨by simp only [PyData.canLay0]; exact h1, h2⟩
theorem ws_shaped {ws : List Str} (h : WsOk ws) : SeqAt.shaped (.list (ws.map PyData.str)) = true := by
  obtain ⟨h1, h2⟩ := ws_lay h
  exact Bool.and_eq_true_iff.mpr ⟨h1, decide_eq_true (by simp only [PyData.depth]; omega)⟩
theorem ws_refl {ws : List Str} (h : WsOk ws) : PyData.eqv (.list (ws.map PyData.str)) (.list (ws.map PyData.str)) = true := SeqAt.eqv_refl _ (ws_lay h).1
theorem ws_nil : WsOk [] := fun _ h => (List.not_mem_nil h).elim
theorem ws_rep {w : Str} (h : (PyData.str w).canLay0 = true) (n : Nat) : WsOk (List.replicate n w) := fun x hx => by
  rw [(List.mem_replicate.mp hx).2]
  exact h
theorem ans_ok : ∀ i : Nat, i ≤ 40 → (PyData.str (Str.ofString "disc " ++ Str.ofString (toString (i : Int)))).canLay0 = true := by
  have h : ((List.range 41).all fun i => (PyData.str (Str.ofString "disc " ++ Str.ofString (toString ((i : Nat) : Int)))).canLay0) = true := by decide +kernel
  intro i hi
  exact List.all_eq_true.mp h i (List.mem_range.mpr (by omega))
theorem BadDisc.ok {d : PyData} {f : V} (h : BadDisc d f) : (PyData.str (discAns f)).canLay0 = true := by
  cases h with
  | none _ => decide +kernel
  | «at» _ _ i40 => exact ans_ok _ i40
theorem szd_ints {ns : List Int} (h : Rim ns) : Szd 2 50000 (dI ns) := by
  refine (szd_list (k := 1) (B := 1100) (n := 40) (fun y hy => ?_) (by rw [List.length_map]; exact h.le)).mono (by decide) (by decide)
  obtain ⟨x, hx, rfl⟩ := List.mem_map.mp hy
  refine szd_int ?_
  have := h.all x hx
  exact Nat.lt_of_le_of_lt (show x.natAbs ≤ 1000000000000000000000000000000 by omega) (by decide +kernel)
/-- a row of two -/
theorem row_two {H : Hp} {r : Addr} {x y : V} {d e : PyData} (g : H r = some (.lst [x, y])) (hx : Dq H x d) (hy : Dq H y e) (sx : Szd 4 300000 d) (sy : Szd 4 300000 e) : Dq H (.ref r) (.list [d, e]) ∧ Shows (.list [d, e]) := by
  refine ⟨.lst g (.cons hx (.cons hy .nil)), (szd_list (k := 4) (B := 300000) (n := 2) (fun z hz => ?_) (Nat.le_refl _)).shows (by decide) (by decide)⟩
  simp only [List.mem_cons, List.not_mem_nil, or_false] at hz
  rcases hz with rfl | rfl
  · exact sx
  · exact sy
theorem off_by {H : Hp} {a m : Addr} {ns ks : List Int} (ga : H a = some (.lst (ns.map V.int))) (rA : Rim ns) (gm : H m = some (.lst (ks.map V.int))) (h : ∀ k ∈ ks, 0 ≤ k ∧ k ≤ 1000000000000000000000000000000) (ne : ks.length ≠ ns.length) : RefDiscs H (.ref a) (.ref m) .non := by
  by_cases h1 : 1 ≤ ks.length ∧ ks.length ≤ 40
  · exact .len ga rA gm ⟨h1.1, h1.2, h⟩ ne
  · refine .two ga rA (dq_ints gm) (.none ?_)
    show (decide (1 ≤ (ks.map PyData.int).length) && decide ((ks.map PyData.int).length ≤ 40)) = false
    rw [List.length_map]
    by_cases c : 1 ≤ ks.length
    · rw [decide_eq_false (show ¬ ks.length ≤ 40 by omega), Bool.and_false]
    · rw [decide_eq_false c, Bool.false_and]
/-! ### _law_made_right -/
def spMadeRight : Sp := fun vs H Q _ => ∃ (a b : Addr) (ns ms : List Int), vs = [.ref a, .ref b] ∧ H a = some (.lst (ns.map V.int)) ∧ H b = some (.lst (ms.map V.int)) ∧ Rim ns ∧ Rim ms ∧ ns.length = ms.length ∧ ∀ H', Same H H' → Q (.bl true) H'
theorem ok_law_made_right (T : Txt K mg) : FnG P w K mg base CX0 9 T.a_law_made_right T.d_law_made_right ["rows", "others"] spMadeRight := by
  have G_law_raised := ok_law_raised (P := P) (w := w) (base := base) T
  have G_law_bad_discs := ok_law_bad_discs (P := P) (w := w) (base := base) T
  refine okG T.F_law_made_right sc_law_made_right (fun vs H Q E h => ?_) (fun cdv A outer s H vs Q E hg hr h => ?_)
  · obtain ⟨_, _, _, _, rfl, _⟩ := h
    rfl
  · obtain ⟨a, b, ns, ms, rfl, ga, gb, rA, rB, hl, q⟩ := h
    refine ⟨_, (pss_cons (ps_for PassesOwn.never rfl (pi_listL (K := K) rfl (pe_call G_law_bad_discs (hr.mono (by decide)) (by rfl) T.g_law_bad_discs T.F_law_bad_discs.kp T.b_law_bad_discs .nil pass0 (pa_cons pe_int pa_nil))) (pg_tupL (K := K) (n := 2) rfl rfl (pgs_cons (pg_name (i := 2) sc_law_made_right.nd rfl (.inl rfl)) (pgs_cons (pg_name (i := 3) sc_law_made_right.nd rfl (.inl rfl)) pgs_nil))) (pss_cons (ps_set (i := 4) sc_law_made_right.nd rfl (.inl rfl) (pe_lst (pa_cons (pe_callG G_law_raised hg hr (by rfl) T.g_law_raised T.F_law_raised.kp T.b_law_raised .nil pass0 (pa_cons pe_int (pa_cons pe_non (pa_cons (pe_lst (pa_cons (pv 2) (pa_cons (pv 1) pa_nil))) pa_nil)))) (pa_cons (pe_callG G_law_raised hg hr (by rfl) T.g_law_raised T.F_law_raised.kp T.b_law_raised .nil pass0 (pa_cons pe_int (pa_cons pe_non (pa_cons (pe_lst (pa_cons (pv 2) (pa_cons pe_non pa_nil))) pa_nil)))) pa_nil))))
      (pss_one (ps_if (pt_cmpR (neD (K := K) rfl hr) (pe_op op_cat (pv 4) (pe_lst (pa_cons (pe_callG G_law_raised hg hr (by rfl) T.g_law_raised T.F_law_raised.kp T.b_law_raised .nil pass0 (pa_cons pe_int (pa_cons pe_non (pa_cons (pe_lst (pa_cons (pv 0) (pa_cons (pv 2) pa_nil))) pa_nil)))) pa_nil))) (pe_op op_rep (pe_lst (pa_cons (pv 3) pa_nil)) pe_int) (nomark _)) (pss_one (ps_ret pe_bl)) pss_nil))))
      (pss_cons (ps_set (i := 5) sc_law_made_right.nd rfl (.inl rfl) (pe_lst (pa_cons (pe_op op_cat (pv 1) (pe_lst (pa_cons pe_int pa_nil))) (pa_cons (pe_slice (slL (K := K) rfl) (pv 1) (po_some pe_int) po_none) pa_nil))))
      (pss_cons (ps_if (pt_cmpR (neD (K := K) rfl hr) (pe_lc (own := [("one", 6)]) (g := gName 6) (by rfl) sc_law_made_right.nd (pi_listL (K := K) rfl (pv 5)) (blkOk_by (own := [("one", 6)]) (N := ["rows", "others", "bad", "fault", "told", "more", "one"]) (sc := defScope s_law_made_right) (by decide +kernel))
        (fun _ _ _ _ _ => (pg_name (i := 6) sc_law_made_right.nd rfl (Or.inl rfl))) (fun _ _ _ _ _ => (pts_one (pt_cmpR op_ne (pe_callG G_law_raised hg hr (by rfl) T.g_law_raised T.F_law_raised.kp T.b_law_raised .nil pass0 (pa_cons pe_int (pa_cons pe_non (pa_cons (pe_lst (pa_cons (pv 0) (pa_cons (pv 6) pa_nil))) pa_nil)))) pe_str (nomark _)))) (fun _ _ _ _ _ => pe_int)) (pe_lst pa_nil) (nomark _)) (pss_one (ps_ret pe_bl)) pss_nil)
      (pss_one (ps_ret (pe_cmpR op_eq (pe_callG G_law_raised hg hr (by rfl) T.g_law_raised T.F_law_raised.kp T.b_law_raised .nil pass0 (pa_cons pe_int (pa_cons pe_non (pa_cons (pe_lst (pa_cons (pv 0) (pa_cons (pv 1) pa_nil))) pa_nil)))) pe_str (nomark _))))))), ?_⟩
    have n1 := rA.pos
    have n40 := rA.le
    refine ⟨rfl, fun l us H1 s1 gl hall hul => ?_⟩
    have ga1 := s1 _ _ ga
    have gb1 := s1 _ _ gb
    refine ⟨l, rfl, ⟨_, SqL.of gl⟩, for_list (K := K) (a := l) (xs := us) (fun i σ H' => ∃ y2 y3 y4 : Option V, σ = [some (.ref a), some (.ref b), y2, y3, y4, none, none] ∧ Same H1 H')
      ⟨none, none, none, rfl, Same.refl H1⟩ (fun i σ H' _ ⟨_, _, _, _, s⟩ => SqL.of (s _ _ gl)) (fun i x σ H2 hx hP => ?_) (fun σ H2 hP => ?_)⟩
    · obtain ⟨y2, y3, y4, rfl, s2⟩ := hP
      obtain ⟨t, v, ans, rfl, et, d, f, hd, hb, rfl, hz⟩ := (hall _ (List.mem_of_getElem? hx)).up s2
      refine ⟨t, _, rfl, SqT.of et, rfl, _, _, rfl, _, _, rfl, rfl, ?_⟩
    -- @@
      have ga2 := s2 _ _ ga1
      have gb2 := s2 _ _ gb1
      refine ⟨v, rfl, .ref b, rfl, (by show 2 ≤ sizeLine; decide), fun r1 hr1 => ?_⟩
      have dd := new_same (H := H2) (o := .lst [v, .ref b]) hr1
      have s2 := s2.trans dd
      have hd := hd.same dd
      have ga2 := dd _ _ ga2
      have gb2 := dd _ _ gb2
      have gr1 : (upd H2 r1 (.lst [v, .ref b])) r1 = some (.lst [v, .ref b]) := upd_same
      generalize upd H2 r1 (.lst [v, .ref b]) = G1 at dd gr1 s2 hd ga2 gb2 ⊢
      clear dd
      have wr1 := row_two gr1 hd (dq_ints gb2) hz ((szd_ints rB).mono (by decide) (by decide))
      refine ⟨0, .non, r1, _, _, rfl, gr1, wr1.1, wr1.2, .inl ⟨discAns f, .disc (.one hd hb), fun K1 c1 => ?_⟩⟩
      clear wr1
      have s2 := s2.trans c1
      have hd := hd.same c1
      have ga2 := c1 _ _ ga2
      have gb2 := c1 _ _ gb2
      have gr1 := c1 _ _ gr1
      clear gr1
      refine ⟨v, rfl, (by show 2 ≤ sizeLine; decide), fun r2 hr2 => ?_⟩
      have dd := new_same (H := K1) (o := .lst [v, .non]) hr2
      have s2 := s2.trans dd
      have hd := hd.same dd
      have ga2 := dd _ _ ga2
      have gb2 := dd _ _ gb2
      have gr2 : (upd K1 r2 (.lst [v, .non])) r2 = some (.lst [v, .non]) := upd_same
      generalize upd K1 r2 (.lst [v, .non]) = G2 at dd gr2 s2 hd ga2 gb2 ⊢
      clear dd
      have wr2 := row_two gr2 hd .non hz (szd_non.mono (by decide) (by decide))
      refine ⟨0, .non, r2, _, _, rfl, gr2, wr2.1, wr2.2, .inl ⟨discAns f, .disc (.one hd hb), fun K2 c2 => ?_⟩⟩
      clear wr2
      have s2 := s2.trans c2
      have hd := hd.same c2
      have ga2 := c2 _ _ ga2
      have gb2 := c2 _ _ gb2
      have gr2 := c2 _ _ gr2
      clear gr2
      refine ⟨(by show 2 ≤ sizeLine; decide), fun L hL => ?_⟩
      have dd := new_same (H := K2) (o := .lst [.str (discAns f), .str (discAns f)]) hL
      have s2 := s2.trans dd
      have hd := hd.same dd
      have ga2 := dd _ _ ga2
      have gb2 := dd _ _ gb2
      have gL : (upd K2 L (.lst [.str (discAns f), .str (discAns f)])) L = some (.lst [.str (discAns f), .str (discAns f)]) := upd_same
      generalize upd K2 L (.lst [.str (discAns f), .str (discAns f)]) = G3 at dd gL s2 hd ga2 gb2 ⊢
      clear dd
      refine ⟨.ref L, rfl, .ref a, rfl, v, rfl, ?_⟩
      refine (show (2 ≤ sizeLine ∧ ∀ r3, G3 r3 = none → _) from ⟨(by decide), fun r3 hr3 => ?_⟩)
      have dd := new_same (H := G3) (o := .lst [.ref a, v]) hr3
      have s2 := s2.trans dd
      have hd := hd.same dd
      have ga2 := dd _ _ ga2
      have gb2 := dd _ _ gb2
      have gL := dd _ _ gL
      have gr3 : (upd G3 r3 (.lst [.ref a, v])) r3 = some (.lst [.ref a, v]) := upd_same
      generalize upd G3 r3 (.lst [.ref a, v]) = G4 at dd gr3 s2 hd ga2 gb2 gL ⊢
      clear dd
      have w3 := row_two gr3 (dq_ints ga2) hd ((szd_ints rA).mono (by decide) (by decide)) hz
      refine ⟨0, .non, r3, _, _, rfl, gr3, w3.1, w3.2, .inl ⟨discAns f, .disc (.two ga2 rA hd hb), fun K3 c3 => ?_⟩⟩
      clear w3
      have s2 := s2.trans c3
      have hd := hd.same c3
      have ga2 := c3 _ _ ga2
      have gb2 := c3 _ _ gb2
      have gL := c3 _ _ gL
      have gr3 := c3 _ _ gr3
      clear gr3
      refine ⟨(by show 1 ≤ sizeLine; decide), fun L1 hL1 => ?_⟩
      have dd := new_same (H := K3) (o := .lst [.str (discAns f)]) hL1
      have s2 := s2.trans dd
      have hd := hd.same dd
      have ga2 := dd _ _ ga2
      have gb2 := dd _ _ gb2
      have gL := dd _ _ gL
      have gL1 : (upd K3 L1 (.lst [.str (discAns f)])) L1 = some (.lst [.str (discAns f)]) := upd_same
      generalize upd K3 L1 (.lst [.str (discAns f)]) = G5 at dd gL1 s2 hd ga2 gb2 gL ⊢
      clear dd
      refine ⟨L, L1, _, _, rfl, rfl, gL, gL1, (by show 2 + 1 ≤ sizeLine; decide), fun L2 hL2 => ?_⟩
      have dd := new_same (H := G5) (o := .lst ([.str (discAns f), .str (discAns f)] ++ [.str (discAns f)])) hL2
      have s2 := s2.trans dd
      have hd := hd.same dd
      have ga2 := dd _ _ ga2
      have gb2 := dd _ _ gb2
      have gL := dd _ _ gL
      have gL1 := dd _ _ gL1
      have gL2 : (upd G5 L2 (.lst ([.str (discAns f), .str (discAns f)] ++ [.str (discAns f)]))) L2 = some (.lst ([.str (discAns f), .str (discAns f)] ++ [.str (discAns f)])) := upd_same
      generalize upd G5 L2 (.lst ([.str (discAns f), .str (discAns f)] ++ [.str (discAns f)])) = G6 at dd gL2 s2 hd ga2 gb2 gL gL1 ⊢
      clear dd
      refine ⟨.str (discAns f), rfl, (by show 1 ≤ sizeLine; decide), fun M1 hM1 => ?_⟩
      have dd := new_same (H := G6) (o := .lst [.str (discAns f)]) hM1
      have s2 := s2.trans dd
      have hd := hd.same dd
      have ga2 := dd _ _ ga2
      have gb2 := dd _ _ gb2
      have gL := dd _ _ gL
      have gL1 := dd _ _ gL1
      have gL2 := dd _ _ gL2
      have gM1 : (upd G6 M1 (.lst [.str (discAns f)])) M1 = some (.lst [.str (discAns f)]) := upd_same
      generalize upd G6 M1 (.lst [.str (discAns f)]) = G7 at dd gM1 s2 hd ga2 gb2 gL gL1 gL2 ⊢
      clear dd
      refine ⟨M1, 3, _, rfl, rfl, gM1, by decide, by decide, (by show 1 * 3 ≤ sizeLine; decide), fun M2 hM2 => ?_⟩
      have dd := new_same (H := G7) (o := .lst (List.replicate (3 : Int).toNat [V.str (discAns f)]).flatten) hM2
      have s2 := s2.trans dd
      have hd := hd.same dd
      have ga2 := dd _ _ ga2
      have gb2 := dd _ _ gb2
      have gL := dd _ _ gL
      have gL1 := dd _ _ gL1
      have gL2 := dd _ _ gL2
      have gM1 := dd _ _ gM1
      have gM2 : (upd G7 M2 (.lst (List.replicate (3 : Int).toNat [V.str (discAns f)]).flatten)) M2 = some (.lst (List.replicate (3 : Int).toNat [V.str (discAns f)]).flatten) := upd_same
      generalize upd G7 M2 (.lst (List.replicate (3 : Int).toNat [V.str (discAns f)]).flatten) = G8 at dd gM2 s2 hd ga2 gb2 gL gL1 gL2 gM1 ⊢
      clear dd
      have wo := ws_rep hb.ok 3
      refine ⟨_, _, dp_strs (ws := List.replicate 3 (discAns f)) gL2, dp_strs (ws := List.replicate 3 (discAns f)) gM2, ws_shaped wo, ws_shaped wo, _, rfl, ite2 (fun h => absurd h (by rw [ws_refl wo]; decide)) (fun _ => ?_)⟩
      exact ⟨_, _, _, rfl, s2⟩
    · obtain ⟨y2, y3, y4, rfl, s2⟩ := hP
      have sH := s1.trans s2
      have ga2 := sH _ _ ga
      have gb2 := sH _ _ gb
      refine ⟨.ref b, rfl, (by show 1 ≤ sizeLine; decide), fun z1 hz1 => ?_⟩
      have dd := new_same (H := H2) (o := .lst [.int 0]) hz1
      have sH := sH.trans dd
      have ga2 := dd _ _ ga2
      have gb2 := dd _ _ gb2
      have gz1 : (upd H2 z1 (.lst [.int 0])) z1 = some (.lst [.int 0]) := upd_same
      generalize upd H2 z1 (.lst [.int 0]) = J1 at dd gz1 sH ga2 gb2 ⊢
      clear dd
      refine ⟨b, z1, _, _, rfl, rfl, gb2, gz1, sz40' (by rw [List.length_map]; simp; omega), fun m1 hm1 => ?_⟩
      have dd := new_same (H := J1) (o := .lst (ms.map V.int ++ [.int 0])) hm1
      have sH := sH.trans dd
      have ga2 := dd _ _ ga2
      have gb2 := dd _ _ gb2
      have gz1 := dd _ _ gz1
      have gm1 : (upd J1 m1 (.lst (ms.map V.int ++ [.int 0]))) m1 = some (.lst (ms.map V.int ++ [.int 0])) := upd_same
      generalize upd J1 m1 (.lst (ms.map V.int ++ [.int 0])) = J2 at dd gm1 sH ga2 gb2 gz1 ⊢
      clear dd
      refine ⟨.ref b, rfl, 1, rfl, b, _, rfl, SqL.of gb2, fun m2 hm2 => ?_⟩
      have dd := new_same (H := J2) (o := .lst (cutV (ms.map V.int) (some 1) none)) hm2
      have sH := sH.trans dd
      have ga2 := dd _ _ ga2
      have gb2 := dd _ _ gb2
      have gz1 := dd _ _ gz1
      have gm1 := dd _ _ gm1
      have gm2 : (upd J2 m2 (.lst (cutV (ms.map V.int) (some 1) none))) m2 = some (.lst (cutV (ms.map V.int) (some 1) none)) := upd_same
      generalize upd J2 m2 (.lst (cutV (ms.map V.int) (some 1) none)) = J3 at dd gm2 sH ga2 gb2 gz1 gm1 ⊢
      clear dd
      refine ⟨(by show 2 ≤ sizeLine; decide), fun M hM => ?_⟩
      have dd := new_same (H := J3) (o := .lst [.ref m1, .ref m2]) hM
      have sH := sH.trans dd
      have ga2 := dd _ _ ga2
      have gb2 := dd _ _ gb2
      have gz1 := dd _ _ gz1
      have gm1 := dd _ _ gm1
      have gm2 := dd _ _ gm2
      have gM : (upd J3 M (.lst [.ref m1, .ref m2])) M = some (.lst [.ref m1, .ref m2]) := upd_same
      generalize upd J3 M (.lst [.ref m1, .ref m2]) = J4 at dd gM sH ga2 gb2 gz1 gm1 gm2 ⊢
      clear dd
      have r1 : RefDiscs J4 (.ref a) (.ref m1) .non := off_by ga2 rA (ks := ms ++ [0]) (by rw [gm1, List.map_append]; rfl) (fun k hk => by
        rcases List.mem_append.mp hk with h | h
        · exact rB.all k h
        · rw [List.mem_singleton.mp h]
          exact ⟨by decide, by decide⟩) (by rw [List.length_append]; show ms.length + 1 ≠ _; omega)
      have r2 : RefDiscs J4 (.ref a) (.ref m2) .non := off_by ga2 rA (ks := ms.drop 1) (by rw [gm2, cut_drop ms 1 (by decide)]; rfl) (fun k hk => rB.all k (List.mem_of_mem_drop hk)) (by rw [List.length_drop]; have := rB.pos; omega)
      have d1 : Dq J4 (.ref m1) (dI (ms ++ [0])) := dq_ints (by rw [gm1, List.map_append]; rfl)
      have d2 : Dq J4 (.ref m2) (dI (ms.drop 1)) := dq_ints (by rw [gm2, cut_drop ms 1 (by decide)]; rfl)
      have zs : ∀ ks : List Int, (∀ k ∈ ks, 0 ≤ k ∧ k ≤ 1000000000000000000000000000000) → ks.length ≤ 41 → Szd 4 300000 (dI ks) := fun ks h1 h2 => by
        refine (szd_list (k := 1) (B := 1100) (n := 41) (fun y hy => ?_) (by rw [List.length_map]; exact h2)).mono (by decide) (by decide)
        obtain ⟨x, hx, rfl⟩ := List.mem_map.mp hy
        refine szd_int ?_
        have := h1 x hx
        exact Nat.lt_of_le_of_lt (show x.natAbs ≤ 1000000000000000000000000000000 by omega) (by decide +kernel)
      have each : ∀ (i : Nat) (x : V), ([.ref m1, .ref m2] : List V)[i]? = some x → ∃ d, RefDiscs J4 (.ref a) x .non ∧ Dq J4 x d ∧ Szd 4 300000 d := fun i x hx => by
        match i, hx with
        | 0, hx =>
          refine (Option.some.inj hx) ▸ ⟨_, r1, d1, zs _ (fun k hk => ?_) (by rw [List.length_append]; show ms.length + 1 ≤ 41; omega)⟩
          rcases List.mem_append.mp hk with h | h
          · exact rB.all k h
          · rw [List.mem_singleton.mp h]
            exact ⟨by decide, by decide⟩
        | 1, hx => exact (Option.some.inj hx) ▸ ⟨_, r2, d2, zs _ (fun k hk => rB.all k (List.mem_of_mem_drop hk)) (by rw [List.length_drop]; omega)⟩
      clear r1 r2 d1 d2 zs
      refine ⟨.ref M, rfl, M, rfl, ⟨_, SqL.of gM⟩, fun D hD => ?_⟩
      refine lc_list (K := K) (a := M) (xs := [.ref m1, .ref m2]) (fun i H' => Same J4 H' ∧ H' D = some (.lst [])) ⟨new_same hD, upd_same⟩ (fun i H' _ hP => SqL.of (hP.1 _ _ gM)) (fun i x H' hx hP => ⟨rfl, ?_⟩) (fun H' hP => ?_)
      · obtain ⟨ss, gD⟩ := hP
        obtain ⟨d, hR, hd, hz⟩ := each i x hx
        refine ⟨.ref a, rfl, x, rfl, (by show 2 ≤ sizeLine; decide), fun r hr => ?_⟩
        have dr := new_same (H := H') (o := .lst [.ref a, x]) hr
        have sr := ss.trans dr
        have w := row_two (upd_same (H := H') (a := r) (o := .lst [.ref a, x])) (dq_ints (sr _ _ ga2)) (hd.same sr) ((szd_ints rA).mono (by decide) (by decide)) hz
        refine ⟨0, .non, r, _, _, rfl, upd_same, w.1, w.2, .inl ⟨"disc None", .disc (hR.up sr), fun H3 s3 => ?_⟩⟩
        exact ⟨rfl, _, rfl, ite2 (fun h => absurd h (by decide +kernel)) (fun _ => ⟨sr.trans s3, s3 _ _ (dr _ _ gD)⟩)⟩
      obtain ⟨ss, gD⟩ := hP
      have sH := sH.trans ss
      have ga2 := ss _ _ ga2
      have gb2 := ss _ _ gb2
      refine ⟨(by show 0 ≤ sizeLine; decide), fun E0l hE0l => ?_⟩
      have dd := new_same (H := H') (o := .lst []) hE0l
      have sH := sH.trans dd
      have ga2 := dd _ _ ga2
      have gb2 := dd _ _ gb2
      have gD := dd _ _ gD
      have gE0l : (upd H' E0l (.lst [])) E0l = some (.lst []) := upd_same
      generalize upd H' E0l (.lst []) = J5 at dd gE0l sH ga2 gb2 gD ⊢
      clear dd
      refine ⟨_, _, dp_strs (ws := []) gD, dp_strs (ws := []) gE0l, ws_shaped ws_nil, ws_shaped ws_nil, _, rfl, ite2 (fun h => absurd h (by rw [ws_refl ws_nil]; decide)) (fun _ => ?_)⟩
      refine ⟨.ref a, rfl, .ref b, rfl, (by show 2 ≤ sizeLine; decide), fun r hr => ?_⟩
      have dd := new_same (H := J5) (o := .lst [.ref a, .ref b]) hr
      have sH := sH.trans dd
      have ga2 := dd _ _ ga2
      have gb2 := dd _ _ gb2
      have gD := dd _ _ gD
      have gE0l := dd _ _ gE0l
      have gr : (upd J5 r (.lst [.ref a, .ref b])) r = some (.lst [.ref a, .ref b]) := upd_same
      generalize upd J5 r (.lst [.ref a, .ref b]) = J6 at dd gr sH ga2 gb2 gD gE0l ⊢
      clear dd
      have w := row_two gr (dq_ints ga2) (dq_ints gb2) ((szd_ints rA).mono (by decide) (by decide)) ((szd_ints rB).mono (by decide) (by decide))
      refine ⟨0, .non, r, _, _, rfl, gr, w.1, w.2, .inr (.inl ⟨a, b, ns, ms, rfl, rfl, ga2, gb2, rA, rB, hl, fun H3 s3 => ?_⟩)⟩
      exact ⟨rfl, q _ (sH.trans s3)⟩

/-! ### _law_refused_right -/
theorem live_refl {n : Nat} {ns : List Int} {s : LS} {cs : List LC} (hR : Rim ns) (hn : n = ns.length) (hs : LSok n s) (hc : ∀ c ∈ cs, c.ok n) : liveEq ns s cs ns s cs = true := by
  subst hn
  have l40 := hR.le
  have h1 : PyData.eqv (dI ns) (dI ns) = true := (dat_ints (n := 40) (rim10 hR) (by decide) l40).rp.refl
  have h2 := (LS.dat hs).rp.refl
  have h3 := SeqAt.eqv_refl _ (Bool.and_eq_true_iff.mp (calls_shaped hc l40)).1
  unfold liveEq
  rw [h1, h2, h3]
  rfl
theorem eq_me {K : PySem.W.Frag} {C : Addr} {H : Hp} {Q : VK} {Z1 Z2 : Addr → Prop} {p1 D1 S1 L1 p2 D2 S2 L2 : Addr} {ns : List Int} {s : LS} {ss1 ss2 : List LS} {cs : List LC}
    (h1 : LiveAt C Z1 H p1 D1 S1 L1 ns (s :: ss1) cs) (h2 : LiveAt C Z2 H p2 D2 S2 L2 ns (s :: ss2) cs) (q : Q (.bl true) H) : rOwnEq C (spEqL K C) E0 false (.ref p1) (.ref p2) H Q :=
  let ⟨_, o1⟩ := h1.ob
  let ⟨_, o2⟩ := h2.ob
  ⟨p1, p2, _, _, _, _, rfl, rfl, o1, o2, Z1, Z2, p1, D1, S1, L1, p2, D2, S2, L2, ns, ns, s, s, ss1, ss2, cs, cs, rfl, h1, h2, true, congrArg V.bl (live_refl h1.rim rfl (h1.sok s List.mem_cons_self) h1.cok), q⟩
/-- values of any kind that are no integers -/
def NoI (H : Hp) (v : V) : Prop := ∃ d : PyData, Dq H v d ∧ Szd 2 1200 d ∧ oneQ d = false
def OutV (lo hi : Int) (H : Hp) (v : V) : Prop := ∃ d : PyData, Dq H v d ∧ Szd 2 1200 d ∧ OutQ lo hi d
theorem NoI.up {H H' : Hp} {v : V} (h : NoI H v) (s : Same H H') : NoI H' v := let ⟨d, h1, h2⟩ := h; ⟨d, h1.same s, h2⟩
theorem OutV.up {lo hi : Int} {H H' : Hp} {v : V} (h : OutV lo hi H v) (s : Same H H') : OutV lo hi H' v := let ⟨d, h1, h2⟩ := h; ⟨d, h1.same s, h2⟩
theorem NoI.out {lo hi : Int} {H : Hp} {v : V} (h : NoI H v) : OutV lo hi H v := let ⟨d, h1, h2, h3⟩ := h; ⟨d, h1, h2, .inl h3⟩
theorem out_int {lo hi : Int} {H : Hp} {i : Int} (h : i < lo ∨ hi < i) (hi' : i.natAbs < 2 ^ 1000) : OutV lo hi H (.int i) := ⟨.int i, .int i, (szd_int hi').mono (by decide) (by decide), .inr ⟨i, rfl, h⟩⟩
theorem row_one {H : Hp} {r : Addr} {x : V} {d : PyData} (g : H r = some (.lst [x])) (hx : Dq H x d) (sx : Szd 4 300000 d) : Dq H (.ref r) (.list [d]) ∧ Shows (.list [d]) := by
  refine ⟨.lst g (.cons hx .nil), (szd_list (k := 4) (B := 300000) (n := 1) (fun z hz => ?_) (Nat.le_refl _)).shows (by decide) (by decide)⟩
  rw [List.mem_singleton.mp hz]
  exact sx
theorem row_nil {H : Hp} {r : Addr} (g : H r = some (.lst [])) : Dq H (.ref r) (.list []) ∧ Shows (.list []) := ⟨.lst g .nil, by decide +kernel, by decide +kernel, by decide +kernel⟩
def spRefused (K : PySem.W.Frag) (C : Addr) : Sp := fun vs H Q _ => ∃ (Z : Addr → Prop) (p D S L : Addr) (ns : List Int) (ss : List LS) (s : LS) (cs : List LC), vs = [.ref p, .int ns.length] ∧ LiveAt C Z H p D S L ns (ss ++ [s]) cs ∧ cs.length ≤ 600 ∧ ∀ H', Same H H' → Q (.bl true) H'
theorem ok_law_refused_right (T : Txt K mg) : FnG P w K mg base CX0 10 T.a_law_refused_right T.d_law_refused_right ["one_here", "size"] (spRefused K T.C_LiveDiscs) := by
  have G_law_raised := ok_law_raised (P := P) (w := w) (base := base) T
  have G_law_told := ok_law_told (P := P) (w := w) (base := base) T
  have G_LiveDiscs_fork := ok_LiveDiscs_fork (P := P) (w := w) (base := base) T
  have G_LiveDiscs_eq := ok_LiveDiscs_eq (P := P) (w := w) (base := base) T
  refine okG T.F_law_refused_right sc_law_refused_right (fun vs H Q E h => ?_) (fun cdv A outer s H vs Q E hg hr h => ?_)
  · obtain ⟨_, _, _, _, _, _, _, _, _, rfl, _⟩ := h
    rfl
  · obtain ⟨Z, p, D, S, L, ns, ss, s0, cs, rfl, hL, h600, q⟩ := h
    refine ⟨_, (pss_cons (ps_par (i := 2) (j := 3) (by rfl) sc_law_refused_right.nd rfl rfl (by decide) rfl rfl (pa_cons (pe_callG G_law_told hg (hr.mono (by decide)) (by rfl) T.g_law_told T.F_law_told.kp T.b_law_told .nil pass0 (pa_cons (pv 0) pa_nil)) (pa_cons (pe_meth0 (pv 0) T.cl_LiveDiscs T.m_LiveDiscs_fork G_LiveDiscs_fork (hr.mono (by decide)) T.b_LiveDiscs_fork .nil pass0) pa_nil)) (by rfl))
      (pss_cons (ps_set (i := 4) sc_law_refused_right.nd rfl (.inl rfl) (pe_lst (pa_cons pe_bl (pa_cons pe_bl (pa_cons pe_non (pa_cons pe_str (pa_cons (pe_lst (pa_cons pe_int pa_nil)) (pa_cons (pe_tup (pa_cons pe_int pa_nil)) (pa_cons pe_dnewK (pa_cons pe_str pa_nil))))))))))
      (pss_cons (ps_if (pt_cmpR (neD (K := K) rfl hr) (pe_lc (own := [("bad", 5)]) (g := gName 5) (by rfl) sc_law_refused_right.nd (pi_listL (K := K) rfl (pv 4)) (blkOk_by (own := [("bad", 5)]) (N := ["one_here", "size", "kept", "twin", "others", "bad", "told", "slot"]) (sc := defScope s_law_refused_right) (by decide +kernel))
        (fun _ _ _ _ _ => (pg_name (i := 5) sc_law_refused_right.nd rfl (Or.inl rfl))) (fun _ _ _ _ _ => (pts_one (pt_cmpR op_ne (pe_callG G_law_raised hg (hr.mono (by decide)) (by rfl) T.g_law_raised T.F_law_raised.kp T.b_law_raised .nil pass0 (pa_cons pe_int (pa_cons (pv 0) (pa_cons (pe_lst (pa_cons (pv 5) pa_nil)) pa_nil)))) pe_str (nomark _)))) (fun _ _ _ _ _ => (pv 5))) (pe_lst pa_nil) (nomark _)) (pss_one (ps_ret pe_bl)) pss_nil)
      (pss_cons (ps_for PassesOwn.never rfl (pi_listL (K := K) rfl (pe_op op_cat (pv 4) (pe_lst (pa_cons (pe_un un_neg pe_int) (pa_cons (pv 1) (pa_cons (pe_op op_add (pv 1) pe_int) (pa_cons (pe_op op_pow pe_int pe_int) (pa_cons (pe_op op_sub pe_int (pe_op op_pow pe_int pe_int)) pa_nil)))))))) (pg_name (i := 5) sc_law_refused_right.nd rfl (.inr rfl)) (pss_cons (ps_set (i := 6) sc_law_refused_right.nd rfl (.inl rfl) (pe_lst (pa_cons (pe_callG G_law_raised hg (hr.mono (by decide)) (by rfl) T.g_law_raised T.F_law_raised.kp T.b_law_raised .nil pass0 (pa_cons pe_int (pa_cons (pv 0) (pa_cons (pe_lst (pa_cons (pv 5) (pa_cons pe_int pa_nil))) pa_nil)))) (pa_cons (pe_callG G_law_raised hg (hr.mono (by decide)) (by rfl) T.g_law_raised T.F_law_raised.kp T.b_law_raised .nil pass0 (pa_cons pe_int (pa_cons (pv 0) (pa_cons (pe_lst (pa_cons (pv 5) (pa_cons pe_non pa_nil))) pa_nil)))) pa_nil))))
      (pss_one (ps_if (pt_cmpR (neD (K := K) rfl hr) (pv 6) (pe_op op_rep (pe_lst (pa_cons pe_str pa_nil)) pe_int) (nomark _)) (pss_one (ps_ret pe_bl)) pss_nil))))
      (pss_cons (ps_for PassesOwn.never rfl (pi_listL (K := K) rfl (pe_op op_cat (pv 4) (pe_lst (pa_cons (pe_un un_neg pe_int) (pa_cons (pe_op op_add (pe_op op_pow pe_int pe_int) pe_int) (pa_cons (pe_op op_pow pe_int pe_int) pa_nil)))))) (pg_name (i := 5) sc_law_refused_right.nd rfl (.inr rfl)) (pss_cons (ps_setLc (i := 6) (own := [("slot", 7)]) (g := gName 7) (tt := tYes) (by rfl) sc_law_refused_right.nd rfl rfl (sw_true rfl rfl rfl (by decide +kernel)) (pi_tupL (K := K) rfl (pe_tup (pa_cons pe_int (pa_cons (pe_op op_sub (pv 1) pe_int) pa_nil)))) (blkOk_by (own := [("slot", 7)]) (N := ["one_here", "size", "kept", "twin", "others", "bad", "told", "slot"]) (sc := defScope s_law_refused_right) (by decide +kernel))
        (fun _ _ _ _ _ => (pg_name (i := 7) sc_law_refused_right.nd rfl (Or.inl rfl))) (fun _ _ _ _ _ => pts_nil) (fun _ _ _ _ _ => (pe_callG G_law_raised hg (hr.mono (by decide)) (by rfl) T.g_law_raised T.F_law_raised.kp T.b_law_raised .nil pass0 (pa_cons pe_int (pa_cons (pv 0) (pa_cons (pe_lst (pa_cons (pv 7) (pa_cons (pv 5) pa_nil))) pa_nil))))))
      (pss_one (ps_if (pt_cmpR (neD (K := K) rfl hr) (pv 6) (pe_op op_rep (pe_lst (pa_cons pe_str pa_nil)) pe_int) (nomark _)) (pss_one (ps_ret pe_bl)) pss_nil))))
      (pss_one (ps_ret (pe_and (pe_cmpR op_eq (pe_callG G_law_told hg (hr.mono (by decide)) (by rfl) T.g_law_told T.F_law_told.kp T.b_law_told .nil pass0 (pa_cons (pv 0) pa_nil)) (pv 2) (nomark _)) (pe_and (pe_cmpR (op_eqOwn T.m_LiveDiscs_eq G_LiveDiscs_eq (hr.mono (by decide)) T.b_LiveDiscs_eq pass0) (pv 0) (pv 3) (nomark _)) (pe_and (pe_cmpR (op_eqOwn T.m_LiveDiscs_eq G_LiveDiscs_eq (hr.mono (by decide)) T.b_LiveDiscs_eq pass0) (pe_meth0 (pv 0) T.cl_LiveDiscs T.m_LiveDiscs_fork G_LiveDiscs_fork (hr.mono (by decide)) T.b_LiveDiscs_fork .nil pass0) (pv 3) (nomark _)) (pe_one (pe_cmpR op_eq (pe_callG G_law_told hg (hr.mono (by decide)) (by rfl) T.g_law_told T.F_law_told.kp T.b_law_told .nil pass0 (pa_cons (pv 3) pa_nil)) (pv 2) (nomark _))))))))))))), ?_⟩
    have n1 := hL.rim.pos
    have n40 := hL.rim.le
    have sok := hL.sok s0 (List.mem_append_right _ List.mem_cons_self)
    refine ⟨.ref p, rfl, Z, p, D, S, L, ns, ss, s0, cs, rfl, hL, h600, fun H1 s1 => ?_⟩
    have L1 := hL.same s1
    obtain ⟨sh, st, hss⟩ : ∃ sh st, ss ++ [s0] = sh :: st := by
      cases ss with
      | nil => exact ⟨s0, [], rfl⟩
      | cons a r => exact ⟨a, r ++ [s0], rfl⟩
    obtain ⟨dx, e1⟩ := L1.ob
    -- @@
    refine ⟨.ref p, rfl, p, dx, _, rfl, e1, lf_no (by decide +kernel) (by decide +kernel) (by decide +kernel), Z, p, D, S, L, ns, sh, st, cs, rfl, hss ▸ L1, fun p' D' S' L' H2 s2 f1 f2 f3 f4 LT => ⟨_, _, rfl, ?_⟩⟩
    have sm := s1.trans s2
    have su := Same.refl H2
    clear f1 f2 f3 f4 s2 L1 e1
    refine ⟨(by show 1 ≤ sizeLine; decide), fun l0 hl0 => ?_⟩
    have dd := new_same (H := H2) (o := .lst [.int 0]) hl0
    have sm := sm.trans dd
    have su := su.trans dd
    have gl0 : (upd H2 l0 (.lst [.int 0])) l0 = some (.lst [.int 0]) := upd_same
    generalize upd H2 l0 (.lst [.int 0]) = G1 at dd gl0 sm su ⊢
    clear dd
    refine ⟨(by show 1 ≤ sizeLine; decide), fun t0 ht0 => ?_⟩
    have dd := new_same (H := G1) (o := .tup [.int 0]) ht0
    have sm := sm.trans dd
    have su := su.trans dd
    have gl0 := dd _ _ gl0
    have gt0 : (upd G1 t0 (.tup [.int 0])) t0 = some (.tup [.int 0]) := upd_same
    generalize upd G1 t0 (.tup [.int 0]) = G2 at dd gt0 sm su gl0 ⊢
    clear dd
    refine (show ∀ d0, G2 d0 = none → _ from fun d0 hd0 => ?_)
    have dd := new_same (H := G2) (o := .dK []) hd0
    have sm := sm.trans dd
    have su := su.trans dd
    have gl0 := dd _ _ gl0
    have gt0 := dd _ _ gt0
    have gd0 : (upd G2 d0 (.dK [])) d0 = some (.dK []) := upd_same
    generalize upd G2 d0 (.dK []) = G3 at dd gd0 sm su gl0 gt0 ⊢
    clear dd
    refine ⟨(by show 8 ≤ sizeLine; decide), fun O hO => ?_⟩
    have dd := new_same (H := G3) (o := .lst [.bl true, .bl false, .non, .str "0", .ref l0, .ref t0, .ref d0, .str ""]) hO
    have sm := sm.trans dd
    have su := su.trans dd
    have gl0 := dd _ _ gl0
    have gt0 := dd _ _ gt0
    have gd0 := dd _ _ gd0
    have gO : (upd G3 O (.lst [.bl true, .bl false, .non, .str "0", .ref l0, .ref t0, .ref d0, .str ""])) O = some (.lst [.bl true, .bl false, .non, .str "0", .ref l0, .ref t0, .ref d0, .str ""]) := upd_same
    generalize upd G3 O (.lst [.bl true, .bl false, .non, .str "0", .ref l0, .ref t0, .ref d0, .str ""]) = G4 at dd gO sm su gl0 gt0 gd0 ⊢
    clear dd
    have no : ∀ (i : Nat) (x : V), ([.bl true, .bl false, .non, .str "0", .ref l0, .ref t0, .ref d0, .str ""] : List V)[i]? = some x → NoI G4 x := fun i x hx => by
      match i, hx with
      | 0, hx => exact (Option.some.inj hx) ▸ ⟨_, .bl true, ⟨by decide +kernel, by decide +kernel, by decide +kernel⟩, rfl⟩
      | 1, hx => exact (Option.some.inj hx) ▸ ⟨_, .bl false, ⟨by decide +kernel, by decide +kernel, by decide +kernel⟩, rfl⟩
      | 2, hx => exact (Option.some.inj hx) ▸ ⟨_, .non, ⟨rfl, by decide, by decide +kernel⟩, rfl⟩
      | 3, hx => exact (Option.some.inj hx) ▸ ⟨_, .str "0", ⟨by decide +kernel, by decide +kernel, by decide +kernel⟩, rfl⟩
      | 4, hx => exact (Option.some.inj hx) ▸ ⟨_, .lst gl0 (.cons (.int 0) .nil), ⟨by decide +kernel, by decide +kernel, by decide +kernel⟩, rfl⟩
      | 5, hx => exact (Option.some.inj hx) ▸ ⟨_, .tup gt0 (.cons (.int 0) .nil), ⟨by decide +kernel, by decide +kernel, by decide +kernel⟩, rfl⟩
      | 6, hx => exact (Option.some.inj hx) ▸ ⟨_, .emp gd0, ⟨by decide +kernel, by decide +kernel, by decide +kernel⟩, rfl⟩
      | 7, hx => exact (Option.some.inj hx) ▸ ⟨_, .str "", ⟨by decide +kernel, by decide +kernel, by decide +kernel⟩, rfl⟩
    obtain ⟨os, hos⟩ : ∃ os : List V, os = [.bl true, .bl false, .non, .str "0", .ref l0, .ref t0, .ref d0, .str ""] := ⟨_, rfl⟩
    rw [← hos] at no gO
    have hol : os.length = 8 := by rw [hos]; rfl
    have no2 : ∀ u ∈ os, NoI G4 u := fun u hu => by
      obtain ⟨k, hk, rfl⟩ := List.mem_iff_getElem.mp hu
      exact no k _ (List.getElem?_eq_getElem hk)
    clear hos gl0 gt0 gd0 no
    refine ⟨.ref O, rfl, O, rfl, ⟨_, SqL.of gO⟩, fun R hR => ?_⟩
    refine lc_list (K := K) (a := O) (xs := os) (fun i H' => Same G4 H' ∧ H' R = some (.lst [])) ⟨new_same hR, upd_same⟩ (fun i H' _ hP => SqL.of (hP.1 _ _ gO)) (fun i x H' hx hP => ⟨rfl, ?_⟩) (fun H' hP => ?_)
    · obtain ⟨sx, gR⟩ := hP
      obtain ⟨d, hd, hz, ho⟩ := no2 x (List.mem_of_getElem? hx)
      refine ⟨.ref p, rfl, x, rfl, (by show 1 ≤ sizeLine; decide), fun r hr => ?_⟩
      have dr := new_same (H := H') (o := .lst [x]) hr
      have sr := sx.trans dr
      have w := row_one (upd_same (H := H') (a := r) (o := .lst [x])) (hd.same sr) (hz.mono (by decide) (by decide))
      refine ⟨1, .ref p, r, _, _, rfl, upd_same, w.1, w.2, .inl ⟨"turn", .turn (hL.same (sm.trans sr)) (hd.same sr) ho, fun H3 s3 => ?_⟩⟩
      exact ⟨rfl, _, rfl, ite2 (fun h => absurd h (by decide +kernel)) (fun _ => ⟨sr.trans s3, s3 _ _ (dr _ _ gR)⟩)⟩
    obtain ⟨sx, gR⟩ := hP
    have sm := sm.trans sx
    have su := su.trans sx
    have gO := sx _ _ gO
    have no2 := fun u hu => (no2 u hu).up sx
    refine ⟨(by show 0 ≤ sizeLine; decide), fun E0l hE0l => ?_⟩
    have dd := new_same (H := H') (o := .lst []) hE0l
    have sm := sm.trans dd
    have su := su.trans dd
    have gO := dd _ _ gO
    have no2 := fun u hu => (no2 u hu).up dd
    have gR := dd _ _ gR
    have gE0l : (upd H' E0l (.lst [])) E0l = some (.lst []) := upd_same
    generalize upd H' E0l (.lst []) = G5 at dd gE0l sm su gO no2 gR ⊢
    clear dd
    refine ⟨_, _, dp_strs (ws := []) gR, dp_strs (ws := []) gE0l, ws_shaped ws_nil, ws_shaped ws_nil, _, rfl, ite2 (fun h => absurd h (by rw [ws_refl ws_nil]; decide)) (fun _ => ?_)⟩
    clear gR gE0l
    refine ⟨.ref O, rfl, 1, rfl, .int ns.length, rfl, .int ns.length, rfl, ns.length, 1, rfl, rfl, 10, 39, rfl, rfl, ⟨by decide, by decide, by decide⟩, 10, 39, rfl, rfl, ⟨by decide, by decide, by decide⟩, 0, _, rfl, rfl, (by show 5 ≤ sizeLine; decide), fun Aa hAa => ?_⟩
    have dd := new_same (H := G5) (o := .lst [.int (-1), .int ns.length, .int ((ns.length : Int) + 1), .int (10 ^ (39 : Int).toNat), .int (0 - 10 ^ (39 : Int).toNat)]) hAa
    have sm := sm.trans dd
    have su := su.trans dd
    have gO := dd _ _ gO
    have no2 := fun u hu => (no2 u hu).up dd
    have gAa : (upd G5 Aa (.lst [.int (-1), .int ns.length, .int ((ns.length : Int) + 1), .int (10 ^ (39 : Int).toNat), .int (0 - 10 ^ (39 : Int).toNat)])) Aa = some (.lst [.int (-1), .int ns.length, .int ((ns.length : Int) + 1), .int (10 ^ (39 : Int).toNat), .int (0 - 10 ^ (39 : Int).toNat)]) := upd_same
    generalize upd G5 Aa (.lst [.int (-1), .int ns.length, .int ((ns.length : Int) + 1), .int (10 ^ (39 : Int).toNat), .int (0 - 10 ^ (39 : Int).toNat)]) = G6 at dd gAa sm su gO no2 ⊢
    clear dd
    refine ⟨O, Aa, _, _, rfl, rfl, gO, gAa, sz40' (by rw [hol]; simp), fun Ba hBa => ?_⟩
    have dd := new_same (H := G6) (o := .lst (os ++ [.int (-1), .int ns.length, .int ((ns.length : Int) + 1), .int (10 ^ (39 : Int).toNat), .int (0 - 10 ^ (39 : Int).toNat)])) hBa
    have sm := sm.trans dd
    have su := su.trans dd
    have gO := dd _ _ gO
    have no2 := fun u hu => (no2 u hu).up dd
    have gAa := dd _ _ gAa
    have gBa : (upd G6 Ba (.lst (os ++ [.int (-1), .int ns.length, .int ((ns.length : Int) + 1), .int (10 ^ (39 : Int).toNat), .int (0 - 10 ^ (39 : Int).toNat)]))) Ba = some (.lst (os ++ [.int (-1), .int ns.length, .int ((ns.length : Int) + 1), .int (10 ^ (39 : Int).toNat), .int (0 - 10 ^ (39 : Int).toNat)])) := upd_same
    generalize upd G6 Ba (.lst (os ++ [.int (-1), .int ns.length, .int ((ns.length : Int) + 1), .int (10 ^ (39 : Int).toNat), .int (0 - 10 ^ (39 : Int).toNat)])) = G7 at dd gBa sm su gO no2 gAa ⊢
    clear dd
    have alla : ∀ u ∈ os ++ [.int (-1), .int ns.length, .int ((ns.length : Int) + 1), .int (10 ^ (39 : Int).toNat), .int (0 - 10 ^ (39 : Int).toNat)], OutV 0 ((ns.length : Int) - 1) G7 u := fun u hu => by
      rcases List.mem_append.mp hu with h | h
      · exact (no2 u h).out
      · simp only [List.mem_cons, List.not_mem_nil, or_false] at h
        rcases h with rfl | rfl | rfl | rfl | rfl
        · exact out_int (.inl (by decide)) (by decide +kernel)
        · exact out_int (.inr (by omega)) (Nat.lt_of_le_of_lt (show ((ns.length : Nat) : Int).natAbs ≤ 40 by omega) (by decide +kernel))
        · exact out_int (.inr (by omega)) (Nat.lt_of_le_of_lt (show ((ns.length : Nat) + 1 : Int).natAbs ≤ 41 by omega) (by decide +kernel))
        · exact out_int (.inr (Int.lt_of_lt_of_le (show (ns.length : Int) - 1 < 40 by omega) (by decide +kernel))) (by decide +kernel)
        · exact out_int (.inl (by decide +kernel)) (by decide +kernel)
    generalize os ++ [.int (-1), .int ns.length, .int ((ns.length : Int) + 1), .int (10 ^ (39 : Int).toNat), .int (0 - 10 ^ (39 : Int).toNat)] = bs at gBa alla ⊢
    refine ⟨Ba, rfl, ⟨_, SqL.of gBa⟩, for_list (K := K) (a := Ba) (xs := bs) (fun i σ H' => ∃ (y5 y6 y7 : Option V), σ = [some (.ref p), some (.int ns.length), some (.str (dTold ns s0 cs).shown), some (.ref p'), some (.ref O), y5, y6, y7] ∧ Same G7 H')
      ⟨_, _, _, rfl, Same.refl _⟩ (fun i σ H' _ ⟨_, _, _, _, s⟩ => SqL.of (s _ _ gBa)) (fun i x σ H' hx hP => ?_) (fun σ H' hP => ?_)⟩
    · obtain ⟨y5, y6, y7, rfl, sx⟩ := hP
      obtain ⟨d, hd, hz, ho⟩ := (alla x (List.mem_of_getElem? hx)).up sx
      have hz4 := hz.mono (show 2 ≤ 4 by decide) (show 1200 ≤ 300000 by decide)
      refine ⟨.ref p, rfl, x, rfl, (by show 2 ≤ sizeLine; decide), fun r0 hr0 => ?_⟩
      have dd := new_same (H := H') (o := .lst [x, .int 1]) hr0
      have sx := sx.trans dd
      have hd := hd.same dd
      have gr0 : (upd H' r0 (.lst [x, .int 1])) r0 = some (.lst [x, .int 1]) := upd_same
      generalize upd H' r0 (.lst [x, .int 1]) = Ka1 at dd gr0 sx hd ⊢
      clear dd
      have w := row_two gr0 hd (.int 1) hz4 ((szd_int (by decide +kernel)).mono (by decide) (by decide))
      refine ⟨2, .ref p, r0, _, _, rfl, gr0, w.1, w.2, .inl ⟨"slot", .slot (b := true) (hL.same (sm.trans sx)) (.slot hd ho), fun K0 c0 => ?_⟩⟩
      clear w
      have sx := sx.trans c0
      have hd := hd.same c0
      have gr0 := c0 _ _ gr0
      clear gr0
      refine ⟨.ref p, rfl, x, rfl, (by show 2 ≤ sizeLine; decide), fun r1 hr1 => ?_⟩
      have dd := new_same (H := K0) (o := .lst [x, .non]) hr1
      have sx := sx.trans dd
      have hd := hd.same dd
      have gr1 : (upd K0 r1 (.lst [x, .non])) r1 = some (.lst [x, .non]) := upd_same
      generalize upd K0 r1 (.lst [x, .non]) = Ka2 at dd gr1 sx hd ⊢
      clear dd
      have w := row_two gr1 hd .non hz4 (szd_non.mono (by decide) (by decide))
      refine ⟨2, .ref p, r1, _, _, rfl, gr1, w.1, w.2, .inl ⟨"slot", .slot (b := true) (hL.same (sm.trans sx)) (.slot hd ho), fun K1 c1 => ?_⟩⟩
      clear w
      have sx := sx.trans c1
      have hd := hd.same c1
      have gr1 := c1 _ _ gr1
      clear gr1
      refine ⟨(by show 2 ≤ sizeLine; decide), fun L1 hL1 => ?_⟩
      have dd := new_same (H := K1) (o := .lst [.str "slot", .str "slot"]) hL1
      have sx := sx.trans dd
      have hd := hd.same dd
      have gL1 : (upd K1 L1 (.lst [.str "slot", .str "slot"])) L1 = some (.lst [.str "slot", .str "slot"]) := upd_same
      generalize upd K1 L1 (.lst [.str "slot", .str "slot"]) = Ka3 at dd gL1 sx hd ⊢
      clear dd
      refine ⟨.ref L1, rfl, (by show 1 ≤ sizeLine; decide), fun M1 hM1 => ?_⟩
      have dd := new_same (H := Ka3) (o := .lst [.str "slot"]) hM1
      have sx := sx.trans dd
      have hd := hd.same dd
      have gL1 := dd _ _ gL1
      have gM1 : (upd Ka3 M1 (.lst [.str "slot"])) M1 = some (.lst [.str "slot"]) := upd_same
      generalize upd Ka3 M1 (.lst [.str "slot"]) = Ka4 at dd gM1 sx hd gL1 ⊢
      clear dd
      refine ⟨M1, 2, _, rfl, rfl, gM1, by decide, by decide, (by show 1 * 2 ≤ sizeLine; decide), fun M2 hM2 => ?_⟩
      have dd := new_same (H := Ka4) (o := .lst (List.replicate (2 : Int).toNat [V.str "slot"]).flatten) hM2
      have sx := sx.trans dd
      have hd := hd.same dd
      have gL1 := dd _ _ gL1
      have gM1 := dd _ _ gM1
      have gM2 : (upd Ka4 M2 (.lst (List.replicate (2 : Int).toNat [V.str "slot"]).flatten)) M2 = some (.lst (List.replicate (2 : Int).toNat [V.str "slot"]).flatten) := upd_same
      generalize upd Ka4 M2 (.lst (List.replicate (2 : Int).toNat [V.str "slot"]).flatten) = Ka5 at dd gM2 sx hd gL1 gM1 ⊢
      clear dd
      have wo := ws_rep (w := "slot") (by decide +kernel) 2
      refine ⟨_, _, dp_strs (ws := List.replicate 2 "slot") gL1, dp_strs (ws := List.replicate 2 "slot") gM2, ws_shaped wo, ws_shaped wo, _, rfl, ite2 (fun h => absurd h (by rw [ws_refl wo]; decide)) (fun _ => ?_)⟩
      exact ⟨_, _, _, rfl, sx⟩
    obtain ⟨y5, y6, y7, rfl, sx⟩ := hP
    have sm := sm.trans sx
    have su := su.trans sx
    have gO := sx _ _ gO
    have no2 := fun u hu => (no2 u hu).up sx
    clear alla gBa gAa sx
    refine ⟨.ref O, rfl, 1, rfl, 10, 30, rfl, rfl, ⟨by decide, by decide, by decide⟩, _, 1, rfl, rfl, 10, 39, rfl, rfl, ⟨by decide, by decide, by decide⟩, (by show 3 ≤ sizeLine; decide), fun Ab hAb => ?_⟩
    have dd := new_same (H := H') (o := .lst [.int (-1), .int (10 ^ (30 : Int).toNat + 1), .int (10 ^ (39 : Int).toNat)]) hAb
    have sm := sm.trans dd
    have su := su.trans dd
    have gO := dd _ _ gO
    have no2 := fun u hu => (no2 u hu).up dd
    have gAb : (upd H' Ab (.lst [.int (-1), .int (10 ^ (30 : Int).toNat + 1), .int (10 ^ (39 : Int).toNat)])) Ab = some (.lst [.int (-1), .int (10 ^ (30 : Int).toNat + 1), .int (10 ^ (39 : Int).toNat)]) := upd_same
    generalize upd H' Ab (.lst [.int (-1), .int (10 ^ (30 : Int).toNat + 1), .int (10 ^ (39 : Int).toNat)]) = G8 at dd gAb sm su gO no2 ⊢
    clear dd
    refine ⟨O, Ab, _, _, rfl, rfl, gO, gAb, sz40' (by rw [hol]; simp), fun Bb hBb => ?_⟩
    have dd := new_same (H := G8) (o := .lst (os ++ [.int (-1), .int (10 ^ (30 : Int).toNat + 1), .int (10 ^ (39 : Int).toNat)])) hBb
    have sm := sm.trans dd
    have su := su.trans dd
    have gO := dd _ _ gO
    have no2 := fun u hu => (no2 u hu).up dd
    have gAb := dd _ _ gAb
    have gBb : (upd G8 Bb (.lst (os ++ [.int (-1), .int (10 ^ (30 : Int).toNat + 1), .int (10 ^ (39 : Int).toNat)]))) Bb = some (.lst (os ++ [.int (-1), .int (10 ^ (30 : Int).toNat + 1), .int (10 ^ (39 : Int).toNat)])) := upd_same
    generalize upd G8 Bb (.lst (os ++ [.int (-1), .int (10 ^ (30 : Int).toNat + 1), .int (10 ^ (39 : Int).toNat)])) = G9 at dd gBb sm su gO no2 gAb ⊢
    clear dd
    have allb : ∀ u ∈ os ++ [.int (-1), .int (10 ^ (30 : Int).toNat + 1), .int (10 ^ (39 : Int).toNat)], OutV 0 top30 G9 u := fun u hu => by
      rcases List.mem_append.mp hu with h | h
      · exact (no2 u h).out
      · simp only [List.mem_cons, List.not_mem_nil, or_false] at h
        rcases h with rfl | rfl | rfl
        · exact out_int (.inl (by decide)) (by decide +kernel)
        · exact out_int (.inr (by decide +kernel)) (by decide +kernel)
        · exact out_int (.inr (by decide +kernel)) (by decide +kernel)
    generalize os ++ [.int (-1), .int (10 ^ (30 : Int).toNat + 1), .int (10 ^ (39 : Int).toNat)] = bs at gBb allb ⊢
    refine ⟨Bb, rfl, ⟨_, SqL.of gBb⟩, for_list (K := K) (a := Bb) (xs := bs) (fun i σ H' => ∃ (y5 y6 y7 : Option V), σ = [some (.ref p), some (.int ns.length), some (.str (dTold ns s0 cs).shown), some (.ref p'), some (.ref O), y5, y6, y7] ∧ Same G9 H')
      ⟨_, _, _, rfl, Same.refl _⟩ (fun i σ H' _ ⟨_, _, _, _, s⟩ => SqL.of (s _ _ gBb)) (fun i x σ H' hx hP => ?_) (fun σ H' hP => ?_)⟩
    · obtain ⟨y5, y6, y7, rfl, sx⟩ := hP
      obtain ⟨d, hd, hz, ho⟩ := (allb x (List.mem_of_getElem? hx)).up sx
      have hz4 := hz.mono (show 2 ≤ 4 by decide) (show 1200 ≤ 300000 by decide)
      refine ⟨.int ns.length, rfl, ns.length, 1, rfl, rfl, (by show 2 ≤ sizeLine; decide), fun tt htt => ?_⟩
      have dd := new_same (H := H') (o := .tup [.int 0, .int ((ns.length : Int) - 1)]) htt
      have sx := sx.trans dd
      have hd := hd.same dd
      have gtt : (upd H' tt (.tup [.int 0, .int ((ns.length : Int) - 1)])) tt = some (.tup [.int 0, .int ((ns.length : Int) - 1)]) := upd_same
      generalize upd H' tt (.tup [.int 0, .int ((ns.length : Int) - 1)]) = Kb1 at dd gtt sx hd ⊢
      clear dd
      have two : ∀ (i : Nat) (v : V), ([.int 0, .int ((ns.length : Int) - 1)] : List V)[i]? = some v → i < 2 ∧ ∃ k : Int, v = .int k ∧ 0 ≤ k ∧ k < ns.length := fun i v hv => by
        match i, hv with
        | 0, hv => exact ⟨by decide, 0, (Option.some.inj hv).symm, Int.le_refl _, by omega⟩
        | 1, hv => exact ⟨by decide, (ns.length : Int) - 1, (Option.some.inj hv).symm, by omega, by omega⟩
      refine ⟨tt, rfl, ⟨_, SqT.of gtt⟩, fun R hR => ?_⟩
      refine lc_tup (K := K) (a := tt) (xs := [.int 0, .int ((ns.length : Int) - 1)]) (fun i H' => Same Kb1 H' ∧ H' R = some (.lst ((List.replicate i (Str.ofString "number")).map V.str))) ⟨new_same hR, upd_same⟩ (fun i H' _ hP => SqT.of (hP.1 _ _ gtt)) (fun i v H' hv hP => ⟨rfl, ?_⟩) (fun H' hP => ?_)
      · obtain ⟨sy, gR⟩ := hP
        obtain ⟨hi2, k, rfl, k0, k1⟩ := two i v hv
        refine ⟨.ref p, rfl, .int k, rfl, x, rfl, (by show 2 ≤ sizeLine; decide), fun r hr => ?_⟩
        have dr := new_same (H := H') (o := .lst [.int k, x]) hr
        have sr := sy.trans dr
        have w := row_two (upd_same (H := H') (a := r) (o := .lst [.int k, x])) (.int k) (hd.same sr) ((szd_int (Nat.lt_of_le_of_lt (show k.natAbs ≤ 40 by omega) (by decide +kernel))).mono (by decide) (by decide)) hz4
        refine ⟨2, .ref p, r, _, _, rfl, upd_same, w.1, w.2, .inl ⟨"number", .slot (b := false) (hL.same ((sm.trans sx).trans sr)) (.num k0 k1 (hd.same sr) ho), fun H3 s3 => ?_⟩⟩
        refine ⟨_, s3 _ _ (dr _ _ gR), ?_, same_over (sr.trans s3) hR, ?_⟩
        · rw [List.length_map, List.length_replicate]
          exact sz40 (by omega)
        · rw [upd_same, List.replicate_succ', List.map_append]
          rfl
      obtain ⟨sy, gR⟩ := hP
      have sx := sx.trans sy
      refine ⟨.ref R, rfl, (by show 1 ≤ sizeLine; decide), fun M1 hM1 => ?_⟩
      have dd := new_same (H := H') (o := .lst [.str "number"]) hM1
      have sx := sx.trans dd
      have gR := dd _ _ gR
      have gM1 : (upd H' M1 (.lst [.str "number"])) M1 = some (.lst [.str "number"]) := upd_same
      generalize upd H' M1 (.lst [.str "number"]) = Kb2 at dd gM1 sx gR ⊢
      clear dd
      refine ⟨M1, 2, _, rfl, rfl, gM1, by decide, by decide, (by show 1 * 2 ≤ sizeLine; decide), fun M2 hM2 => ?_⟩
      have dd := new_same (H := Kb2) (o := .lst (List.replicate (2 : Int).toNat [V.str "number"]).flatten) hM2
      have sx := sx.trans dd
      have gR := dd _ _ gR
      have gM1 := dd _ _ gM1
      have gM2 : (upd Kb2 M2 (.lst (List.replicate (2 : Int).toNat [V.str "number"]).flatten)) M2 = some (.lst (List.replicate (2 : Int).toNat [V.str "number"]).flatten) := upd_same
      generalize upd Kb2 M2 (.lst (List.replicate (2 : Int).toNat [V.str "number"]).flatten) = Kb3 at dd gM2 sx gR gM1 ⊢
      clear dd
      have wo := ws_rep (w := "number") (by decide +kernel) 2
      refine ⟨_, _, dp_strs (ws := List.replicate 2 "number") gR, dp_strs (ws := List.replicate 2 "number") gM2, ws_shaped wo, ws_shaped wo, _, rfl, ite2 (fun h => absurd h (by rw [ws_refl wo]; decide)) (fun _ => ?_)⟩
      exact ⟨_, _, _, rfl, sx⟩
    obtain ⟨y5, y6, y7, rfl, sx⟩ := hP
    have sm := sm.trans sx
    have su := su.trans sx
    have gO := sx _ _ gO
    have no2 := fun u hu => (no2 u hu).up sx
    clear allb gBb gAb sx
    have LP := hL.same sm
    have LQ := LT.same su
    obtain ⟨dx1, e1⟩ := LP.ob
    refine ⟨.ref p, rfl, Z, p, D, S, L, ns, ss, s0, cs, rfl, LP, h600, fun H3 s3 => ?_⟩
    have sm := sm.trans s3
    have su := su.trans s3
    refine ⟨.str (dTold ns s0 cs).shown, rfl, rfl, true, by rw [decide_eq_true rfl], ?_⟩
    have LP := hL.same sm
    have LQ := LT.same su
    refine iteT ?_
    refine ⟨.ref p, rfl, .ref p', rfl, eq_me (hss ▸ LP) LQ ⟨true, rfl, iteT ?_⟩⟩
    obtain ⟨dx1, e1⟩ := LP.ob
    refine ⟨.ref p, rfl, p, dx1, _, rfl, e1, lf_no (by decide +kernel) (by decide +kernel) (by decide +kernel), Z, p, D, S, L, ns, sh, st, cs, rfl, hss ▸ LP, fun p2 D2 S2 L2 H4 s4 f1 f2 f3 f4 LF => ?_⟩
    clear f1 f2 f3 f4 e1
    refine ⟨.ref p', rfl, eq_me LF (LQ.same s4) ⟨true, rfl, iteT ?_⟩⟩
    refine ⟨.ref p', rfl, _, p', D', S', L', ns, ss, s0, cs, rfl, hss ▸ (LQ.same s4), h600, fun H5 s5 => ?_⟩
    refine ⟨.str (dTold ns s0 cs).shown, rfl, rfl, ?_⟩
    have := q _ (sm.trans (s4.trans s5))
    rw [decide_eq_true rfl]
    exact this

/-! ### _law_right -/
theorem LiveAt.lS {C : Addr} {Z : Addr → Prop} {H : Hp} {p D S L : Addr} {ns : List Int} {ss : List LS} {cs : List LC} (h : LiveAt C Z H p D S L ns ss cs) : Lst H S := let ⟨_, e, _⟩ := h.gS; ⟨_, e⟩
theorem LiveAt.lL {C : Addr} {Z : Addr → Prop} {H : Hp} {p D S L : Addr} {ns : List Int} {ss : List LS} {cs : List LC} (h : LiveAt C Z H p D S L ns ss cs) : Lst H L := let ⟨_, e, _⟩ := h.gL; ⟨_, e⟩
theorem StsAt.widen {Z Z' : Addr → Prop} {H H' : Hp} {S L : Addr} {us : List V} {ss : List LS} (h : StsAt Z S L H us ss) (s : Same H H') (w : ∀ b, Z' b → Z b ∨ H b = none) : StsAt Z' S L H' us ss := by
  have nz : ∀ {b x}, H b = some x → ¬ Z b → ¬ Z' b := fun {b x} e n z => by
    rcases w b z with y | y
    · exact n y
    · rw [e] at y
      cases y
  induction h with
  | nil => exact .nil
  | cons h g f1 f2 n1 n2 _ ih => exact .cons (s _ _ h) (s _ _ g) (nz h f1) (nz g f2) n1 n2 ih
theorem ClsAt.widen {Z Z' : Addr → Prop} {H H' : Hp} {us : List V} {cs : List LC} (h : ClsAt Z H us cs) (s : Same H H') (w : ∀ b, Z' b → Z b ∨ H b = none) : ClsAt Z' H' us cs := by
  have nz : ∀ {b x}, H b = some x → ¬ Z b → ¬ Z' b := fun {b x} e n z => by
    rcases w b z with y | y
    · exact n y
    · rw [e] at y
      cases y
  induction h with
  | nil => exact .nil
  | cons h f1 _ ih => exact .cons (s _ _ h) (nz h f1) ih
theorem LiveAt.widen {C : Addr} {Z Z' : Addr → Prop} {H H' : Hp} {p D S L : Addr} {ns : List Int} {ss : List LS} {cs : List LC} (h : LiveAt C Z H p D S L ns ss cs) (s : Same H H') (w : ∀ b, Z' b → Z b ∨ H b = none) (n : ∀ z, Z' z → H' z ≠ none) : LiveAt C Z' H' p D S L ns ss cs := by
  have nz : ∀ {b x}, H b = some x → ¬ Z b → ¬ Z' b := fun {b x} e n z => by
    rcases w b z with y | y
    · exact n y
    · rw [e] at y
      cases y
  obtain ⟨us, e1, r1⟩ := h.gS
  obtain ⟨ws, e2, r2⟩ := h.gL
  obtain ⟨dx, e0⟩ := h.ob
  exact { h with
    ob := ⟨dx, s _ _ e0⟩
    gD := s _ _ h.gD
    gS := ⟨us, s _ _ e1, r1.widen s w⟩
    gL := ⟨ws, s _ _ e2, r2.widen s w⟩
    fD := nz h.gD h.fD
    fS := nz e1 h.fS
    fL := nz e2 h.fL
    fp := nz e0 h.fp
    zst := n }
/-- all but the stock, the done calls and what a call changes -/
def OkB (t S L d : Addr) : Addr → Prop := fun b => b ≠ S ∧ b ≠ L ∧ b ≠ t ∧ b ≠ d
theorem okB_tup {t S L d : Addr} {H : Hp} (hT : Lst H t) (hS : Lst H S) (hL : Lst H L) (hd : Lst H d) : ∀ b xs, H b = some (.tup xs) → OkB t S L d b := fun b xs e => ⟨tup_ne e hS, tup_ne e hL, tup_ne e hT, tup_ne e hd⟩
def ButB (t S L d : Addr) (H H' : Hp) : Prop := ∀ b x, H b = some x → OkB t S L d b → H' b = some x
theorem ButB.trans {t S L d : Addr} {H H1 H2 : Hp} (a : ButB t S L d H H1) (b : ButB t S L d H1 H2) : ButB t S L d H H2 := fun c o h k => b c o (a c o h k) k
theorem ButB.same {t S L d : Addr} {H H' : Hp} (s : Same H H') : ButB t S L d H H' := fun b o h _ => s b o h
theorem ButB.but {t S L d : Addr} {H H' : Hp} (s : But t H H') : ButB t S L d H H' := fun b o h k => s b o h k.2.2.1
theorem ButB.ls {t S L d : Addr} {H H' : Hp} (s : ButLS S L H H') : ButB t S L d H H' := fun b o h k => s b o h k.1 k.2.1
structure Rnd46 (C : Addr) (Z : Addr → Prop) (t x D S L A B n0 d : Addr) (ns ms : List Int) (H' : Hp) (us : List V) (rs : List (LC × LS)) (ss : List LS) : Prop where
  live : LiveAt C Z H' x D S L ns (ss ++ [nowOf (ms, 0) rs]) (rs.map (·.1))
  gA : H' A = some (.lst (ns.map V.int))
  gN : NowAt H' n0 B (ms, 0)
  gd : H' d = some (.lst us)
  dn : DnAt H' (OkB t S L d) us rs
  rk : RsOk ns.length rs
  hd : (ss ++ [nowOf (ms, 0) rs]).head? = some (ms, 0)
theorem at_last {us : List V} {v : V} : atI (us ++ [v]) (-1) = some v := by
  unfold atI ixN
  rw [if_neg (by decide), if_pos (by rw [List.length_append, List.length_singleton]; omega)]
  show (us ++ [v])[((-1 : Int) + ((us ++ [v]).length : Int)).toNat]? = _
  rw [show ((-1 : Int) + ((us ++ [v]).length : Int)).toNat = us.length by rw [List.length_append, List.length_singleton]; omega]
  simp
theorem ButB.over {t S L d : Addr} {H0 H : Hp} {R : Addr} {o : HO} (h : ButB t S L d H0 H) (f : H0 R = none) : ButB t S L d H0 (upd H R o) := fun b x e k => by
  rw [upd_ne (ne_of_none e f)]
  exact h b x e k
theorem LiveAt.off {C : Addr} {Z : Addr → Prop} {H : Hp} {p D S L : Addr} {ns : List Int} {ss : List LS} {cs : List LC} (h : LiveAt C Z H p D S L ns ss cs) {r : Addr} (e : H r = none) : r ≠ S ∧ r ≠ L := by
  obtain ⟨_, g1, _⟩ := h.gS
  obtain ⟨_, g2, _⟩ := h.gL
  exact ⟨(ne_of_none g1 e).symm, (ne_of_none g2 e).symm⟩
theorem LiveAt.wide1 {C : Addr} {Z : Addr → Prop} {H : Hp} {p D S L : Addr} {ns : List Int} {ss : List LS} {cs : List LC} (h : LiveAt C Z H p D S L ns ss cs) {R : Addr} {o : HO} (hR : H R = none) : LiveAt C (fun b => Z b ∨ b = R) (upd H R o) p D S L ns ss cs := by
  refine h.widen (new_same hR) (fun b hb => ?_) (fun b hb => ?_)
  · rcases hb with h | h
    · exact .inl h
    · exact .inr (h ▸ hR)
  · rcases hb with z | z
    · cases e : H b with
      | none => exact absurd e (h.zst b z)
      | some y => exact some_nn (new_same (o := o) hR _ _ e)
    · rw [z]
      exact some_nn (upd_same (o := o))
theorem Stk.ls {H H' : Hp} {t S L : Addr} {c : Int} (k : Stk H t c) (u : ButLS S L H H') (n : t ≠ S ∧ t ≠ L) : Stk H' t c := by
  obtain ⟨x1, x2, x3, e, rest⟩ := k
  exact ⟨x1, x2, x3, u _ _ e n.1 n.2, rest⟩
def uw (M j : Nat) : Str := if j < M then "fine" else "undo"
def uws (M j : Nat) : List Str := (List.range j).map (uw M)
theorem uws_succ (M j : Nat) : (uws M (j + 1)).map V.str = (uws M j).map V.str ++ [.str (uw M j)] := by
  unfold uws
  rw [List.range_succ, List.map_append, List.map_append]
  rfl
theorem uws_full (M : Nat) : uws M (M + 1) = (List.replicate M ("fine" : Str) ++ [("undo" : Str)] : List Str) := by
  unfold uws
  rw [List.range_succ, List.map_append]
  rw [show (List.range M).map (uw M) = List.replicate M ("fine" : Str) from List.eq_replicate_iff.mpr ⟨by rw [List.length_map, List.length_range], fun b hb => ?_⟩]
  · exact congrArg (fun z => List.replicate M ("fine" : Str) ++ [z]) (if_neg (Nat.lt_irrefl M))
  obtain ⟨j, hj, rfl⟩ := List.mem_map.mp hb
  exact if_pos (List.mem_range.mp hj)
theorem uws_two (M : Nat) : uws (M + 2) 2 = ([("fine" : Str), ("fine" : Str)] : List Str) := by
  show ([uw (M + 2) 0, uw (M + 2) 1] : List Str) = _
  rw [show uw (M + 2) 0 = "fine" from if_pos (by omega), show uw (M + 2) 1 = "fine" from if_pos (by omega)]
theorem uws_len (M j : Nat) : ((uws M j).map V.str).length = j := by
  unfold uws
  rw [List.length_map, List.length_map, List.length_range]
theorem flat_rep (n : Nat) (v : V) : (List.replicate n [v]).flatten = List.replicate n v := by
  induction n with
  | zero => rfl
  | succ n ih =>
    rw [List.replicate_succ, List.flatten_cons, ih]
    rfl
structure UndAt (C : Addr) (Z : Addr → Prop) (t x D S L R : Addr) (ns : List Int) (SS : List LS) (CS : List LC) (M : Nat) (c : Int) (H0 : Hp) (j : Nat) (H' : Hp) : Prop where
  live : LiveAt C Z H' x D S L ns (SS.take (M - j + 1)) (CS.take (M - j))
  bb : ButB t S L t H0 H'
  k : Stk H' t c
  g : H' R = some (.lst ((uws M j).map V.str))
theorem UndAt.start {C : Addr} {Z : Addr → Prop} {t x D S L R : Addr} {ns : List Int} {SS : List LS} {CS : List LC} {M : Nat} {c : Int} {H : Hp} (h : LiveAt C Z H x D S L ns SS CS) (hC : CS.length = M) (k : Stk H t c) (hR : H R = none) : UndAt C (fun b => Z b ∨ b = R) t x D S L R ns SS CS M c H 0 (upd H R (.lst [])) where
  live := by
    rw [Nat.sub_zero, List.take_of_length_le (by rw [h.len, hC]; exact Nat.le_refl _), List.take_of_length_le (by rw [hC]; exact Nat.le_refl _)]
    exact h.wide1 hR
  bb := ButB.same (new_same hR)
  k := k.same (new_same hR)
  g := upd_same
theorem UndAt.step {C : Addr} {Z : Addr → Prop} {t x D S L R : Addr} {ns : List Int} {SS : List LS} {CS : List LC} {M : Nat} {c : Int} {H0 : Hp} {j : Nat} {H' : Hp} (u : UndAt C Z t x D S L R ns SS CS M c H0 j H') (hS : SS.length = M + 1) (hC : CS.length = M) (hj : j ≤ M) (hR : H0 R = none) (zR : Z R) (aT : t ≠ S ∧ t ≠ L) (tR : R ≠ t) {r : Addr} (hr : H' r = none) {Q : VK} {E : XK}
    (q : ∀ H2, H2 R = some (.lst ((uws M j).map V.str)) → UndAt C Z t x D S L R ns SS CS M c H0 (j + 1) (upd H2 R (.lst ((uws M j).map V.str ++ [.str (uw M j)]))) → Q (.str (uw M j)) H2) : spRaised C [.int 3, .ref x, .ref r] (upd H' r (.lst [])) Q E := by
  have dd := new_same (o := .lst []) hr
  have gr : (upd H' r (.lst [])) r = some (.lst []) := upd_same
  have w := row_nil gr
  have L1 := u.live.same dd
  have off := u.live.off hr
  have nRS : R ≠ S := fun z => u.live.fS (z ▸ zR)
  have nRL : R ≠ L := fun z => u.live.fL (z ▸ zR)
  have done : ∀ H2, ButLS S L (upd H' r (.lst [])) H2 → LiveAt C Z H2 x D S L ns (SS.take (M - (j + 1) + 1)) (CS.take (M - (j + 1))) → Q (.str (uw M j)) H2 := fun H2 b2 L2 => by
    have gV2 := b2 _ _ (dd _ _ u.g) nRS nRL
    exact q H2 gV2 { live := L2.over zR, bb := (u.bb.trans ((ButB.same dd).trans (ButB.ls b2))).over hR, k := ((u.k.same dd).ls b2 aT).over tR, g := by rw [upd_same, uws_succ] }
  refine ⟨3, .ref x, r, [], _, rfl, gr, w.1, w.2, ?_⟩
  by_cases h : j < M
  · have e : M - j = (M - (j + 1)) + 1 := by omega
    rw [e, List.take_succ_eq_append_getElem (l := SS) (by omega), List.take_succ_eq_append_getElem (l := CS) (by omega)] at L1
    refine .inr (.inr ⟨[], _, rfl, .undo L1 off.1 off.2, fun H2 hG => ?_⟩)
    have := done H2 hG.1 hG.2
    rw [show uw M j = "fine" from if_pos h] at this
    exact this
  · have e : M - j = 0 := by omega
    rw [e, List.take_zero] at L1
    refine .inl ⟨"undo", .undo L1, fun H2 s2 => ?_⟩
    have := done H2 (fun b y e _ _ => s2 b y e) (by rw [show M - (j + 1) = 0 by omega, List.take_zero]; exact L1.same s2)
    rw [show uw M j = "undo" from if_neg h] at this
    exact this
def spRight46 : Sp := fun vs H Q _ => ∃ (t : Addr) (n m c : Int), vs = [.ref t, .int n, .int m] ∧ 1 ≤ n ∧ n ≤ 40 ∧ 0 ≤ m ∧ m ≤ 9 ∧ Stk H t c ∧ 0 ≤ c ∧ c < 2 ^ 37 ∧
  ∀ H', But t H H' → Stk H' t (c + 1000) → Q (.bl true) H'
theorem ok_law_right (T : Txt K mg) : FnG P w K mg base CX0 11 T.a_law_right T.d_law_right ["stock", "size", "often"] spRight46 := by
  have G_law_slots := ok_law_slots (P := P) (w := w) (base := base) T
  have G_LiveDiscs_init := ok_LiveDiscs_init (P := P) (w := w) (base := base) T
  have G_LiveDiscs_fork := ok_LiveDiscs_fork (P := P) (w := w) (base := base) T
  have G_LiveDiscs_eq := ok_LiveDiscs_eq (P := P) (w := w) (base := base) T
  have G_LiveDiscs_len := ok_LiveDiscs_len (P := P) (w := w) (base := base) T
  have G_law_raised := ok_law_raised (P := P) (w := w) (base := base) T
  have G_law_refused_right := ok_law_refused_right (P := P) (w := w) (base := base) T
  have G_law_told := ok_law_told (P := P) (w := w) (base := base) T
  have G_law_due := ok_law_due (P := P) (w := w) (base := base) T
  have G_law_next := ok_law_next (P := P) (w := w) (base := base) T
  have G_law_now := ok_law_now (P := P) (w := w) (base := base) T
  have G_law_call := ok_law_call (P := P) (w := w) (base := base) T
  refine okG T.F_law_right sc_law_right (fun vs H Q E h => ?_) (fun cdv A outer s H vs Q E hg hr h => ?_)
  · obtain ⟨_, _, _, _, rfl, _⟩ := h
    rfl
  · obtain ⟨t, n, m, c, rfl, hn1, hn, hm0, hm, hT, hc0, hc, q⟩ := h
    refine ⟨_, (pss_cons (ps_par (i := 3) (j := 4) (by rfl) sc_law_right.nd rfl rfl (by decide) rfl rfl (pa_cons (pe_call G_law_slots (hr.mono (by decide)) (by rfl) T.g_law_slots T.F_law_slots.kp T.b_law_slots .nil pass0 (pa_cons (pv 0) (pa_cons (pv 1) (pa_cons (pe_op op_pow pe_int pe_int) pa_nil)))) (pa_cons (pe_call G_law_slots (hr.mono (by decide)) (by rfl) T.g_law_slots T.F_law_slots.kp T.b_law_slots .nil pass0 (pa_cons (pv 0) (pa_cons (pv 1) (pa_cons (pe_op op_pow pe_int pe_int) pa_nil)))) pa_nil)) (by rfl))
      (pss_cons (ps_asg (pe_tup (pa_cons (pe_make T.mk_LiveDiscs G_LiveDiscs_init (hr.mono (by decide)) rfl T.g_LiveDiscs T.b_LiveDiscs_init .nil pass0 (pa_cons (pv 3) (pa_cons (pv 4) pa_nil))) (pa_cons (pe_tup (pa_cons (pv 4) (pa_cons pe_int pa_nil))) (pa_cons (pe_lst pa_nil) pa_nil)))) (pg_tupL (K := K) (n := 3) rfl rfl (pgs_cons (pg_name (i := 5) sc_law_right.nd rfl (.inr rfl)) (pgs_cons (pg_name (i := 6) sc_law_right.nd rfl (.inl rfl)) (pgs_cons (pg_name (i := 7) sc_law_right.nd rfl (.inl rfl)) pgs_nil)))))
      (pss_cons (ps_if (PW.pt (pw_or (pt_cmpR op_ne (pe_callG G_law_raised hg (hr.mono (by decide)) (by rfl) T.g_law_raised T.F_law_raised.kp T.b_law_raised .nil pass0 (pa_cons pe_int (pa_cons (pv 5) (pa_cons (pe_lst pa_nil) pa_nil)))) pe_str (nomark _)) (pw_or1 (pt_not (pt_val (pe_callG G_law_refused_right hg hr (by rfl) T.g_law_refused_right T.F_law_refused_right.kp T.b_law_refused_right .nil pass0 (pa_cons (pv 5) (pa_cons (pv 1) pa_nil)))))))) (pss_one (ps_ret pe_bl)) pss_nil)
      (pss_cons (ps_if (PW.pt (pw_or (pt_cmpR op_ne (pe_callG G_law_raised hg (hr.mono (by decide)) (by rfl) T.g_law_raised T.F_law_raised.kp T.b_law_raised .nil pass0 (pa_cons pe_int (pa_cons (pv 5) (pa_cons (pe_lst pa_nil) pa_nil)))) pe_str (nomark _)) (pw_or1 (pt_cmpR op_ne (pe_callB (cr_lenOwn T.cl_LiveDiscs T.m_LiveDiscs_len G_LiveDiscs_len (hr.mono (by decide)) T.b_LiveDiscs_len pass0) (by rfl) T.n_len (by decide +kernel) (pa_cons (pv 5) pa_nil)) pe_int (nomark _))))) (pss_one (ps_ret pe_bl)) pss_nil)
      (pss_cons (ps_for PassesOwn.never rfl (pi_range1 (by rfl) T.n_range (pa_cons (pv 2) pa_nil)) (pg_name (i := 8) sc_law_right.nd rfl (.inl rfl)) (pss_cons (ps_expr (pe_bm PySem.F.plainAttrs_list PySem.F.slot_list_append PySem.F.type_list_append mt_append (pv 7) (pa_cons (pe_call G_law_next (hr.mono (by decide)) (by rfl) T.g_law_next T.F_law_next.kp T.b_law_next .nil pass0 (pa_cons (pv 0) (pa_cons (pe_call G_law_now (hr.mono (by decide)) (by rfl) T.g_law_now T.F_law_now.kp T.b_law_now .nil pass0 (pa_cons (pv 6) (pa_cons (pv 7) pa_nil))) (pa_cons (pe_op op_pow pe_int pe_int) pa_nil)))) pa_nil)))
      (pss_one (ps_if (pt_not (pt_val (pe_call G_law_call (hr.mono (by decide)) (by rfl) T.g_law_call T.F_law_call.kp T.b_law_call .nil pass0 (pa_cons (pv 5) (pa_cons (pe_ix (ixTL (K := K) rfl) (pe_ix (ixL (K := K) rfl) (pv 7) (pe_un un_neg pe_int) (fun _ _ => rfl)) pe_int (fun _ _ => rfl)) pa_nil))))) (pss_one (ps_ret pe_bl)) pss_nil))))
      (pss_cons (ps_set (i := 9) sc_law_right.nd rfl (.inl rfl) (pe_callG G_law_due hg (hr.mono (by decide)) (by rfl) T.g_law_due T.F_law_due.kp T.b_law_due .nil pass0 (pa_cons (pv 3) (pa_cons (pv 6) (pa_cons (pv 7) pa_nil)))))
      (pss_cons (ps_if (PW.pt (pw_or (pt_not (pt_val (pe_callG G_law_refused_right hg hr (by rfl) T.g_law_refused_right T.F_law_refused_right.kp T.b_law_refused_right .nil pass0 (pa_cons (pv 5) (pa_cons (pv 1) pa_nil))))) (pw_or1 (pt_not (pt_val (pe_callG G_law_refused_right hg hr (by rfl) T.g_law_refused_right T.F_law_refused_right.kp T.b_law_refused_right .nil pass0 (pa_cons (pe_meth0 (pv 5) T.cl_LiveDiscs T.m_LiveDiscs_fork G_LiveDiscs_fork (hr.mono (by decide)) T.b_LiveDiscs_fork .nil pass0) (pa_cons (pv 1) pa_nil)))))))) (pss_one (ps_ret pe_bl)) pss_nil)
      (pss_cons (ps_set (i := 10) sc_law_right.nd rfl (.inl rfl) (pe_lst (pa_cons (pe_callG G_law_raised hg (hr.mono (by decide)) (by rfl) T.g_law_raised T.F_law_raised.kp T.b_law_raised .nil pass0 (pa_cons pe_int (pa_cons (pv 5) (pa_cons (pe_lst (pa_cons pe_int pa_nil)) pa_nil)))) (pa_cons (pe_callG G_law_raised hg (hr.mono (by decide)) (by rfl) T.g_law_raised T.F_law_raised.kp T.b_law_raised .nil pass0 (pa_cons pe_int (pa_cons (pv 5) (pa_cons (pe_lst (pa_cons (pe_op op_sub (pv 1) pe_int) (pa_cons (pe_op op_pow pe_int pe_int) pa_nil))) pa_nil)))) pa_nil))))
      (pss_cons (ps_set (i := 10) sc_law_right.nd rfl (.inl rfl) (pe_op op_cat (pv 10) (pe_lc (own := [("turn", 8)]) (g := gName 8) (tt := tYes) (by rfl) sc_law_right.nd (pi_range1 (by rfl) T.n_range (pa_cons pe_int pa_nil)) (blkOk_by (own := [("turn", 8)]) (N := ["stock", "size", "often", "rows", "others", "one_here", "begin", "done", "turn", "due", "told"]) (sc := defScope s_law_right) (by decide +kernel))
        (fun _ _ _ _ _ => (pg_name (i := 8) sc_law_right.nd rfl (Or.inl rfl))) (fun _ _ _ _ _ => pts_nil) (fun _ _ _ _ _ => (pe_callG G_law_raised hg (hr.mono (by decide)) (by rfl) T.g_law_raised T.F_law_raised.kp T.b_law_raised .nil pass0 (pa_cons pe_int (pa_cons (pv 5) (pa_cons (pe_lst pa_nil) pa_nil))))))))
      (pss_cons (ps_if (PW.pt (pw_or (pt_cmpR (neD (K := K) rfl hr) (pv 10) (pe_op op_rep (pe_lst (pa_cons pe_str pa_nil)) pe_int) (nomark _)) (pw_or (pt_cmpR op_ne (pe_callG G_law_told hg (hr.mono (by decide)) (by rfl) T.g_law_told T.F_law_told.kp T.b_law_told .nil pass0 (pa_cons (pv 5) pa_nil)) (pv 9) (nomark _)) (pw_or1 (pt_not (pt_val (pe_callG G_law_refused_right hg hr (by rfl) T.g_law_refused_right T.F_law_refused_right.kp T.b_law_refused_right .nil pass0 (pa_cons (pv 5) (pa_cons (pv 1) pa_nil))))))))) (pss_one (ps_ret pe_bl)) pss_nil)
      (pss_cons (ps_if (pt_cmpR (neD (K := K) rfl hr) (pe_lc (own := [("turn", 8)]) (g := gName 8) (tt := tYes) (by rfl) sc_law_right.nd (pi_range1 (by rfl) T.n_range (pa_cons (pe_op op_add (pv 2) pe_int) pa_nil)) (blkOk_by (own := [("turn", 8)]) (N := ["stock", "size", "often", "rows", "others", "one_here", "begin", "done", "turn", "due", "told"]) (sc := defScope s_law_right) (by decide +kernel))
        (fun _ _ _ _ _ => (pg_name (i := 8) sc_law_right.nd rfl (Or.inl rfl))) (fun _ _ _ _ _ => pts_nil) (fun _ _ _ _ _ => (pe_callG G_law_raised hg (hr.mono (by decide)) (by rfl) T.g_law_raised T.F_law_raised.kp T.b_law_raised .nil pass0 (pa_cons pe_int (pa_cons (pv 5) (pa_cons (pe_lst pa_nil) pa_nil)))))) (pe_op op_cat (pe_op op_rep (pe_lst (pa_cons pe_str pa_nil)) (pv 2)) (pe_lst (pa_cons pe_str pa_nil))) (nomark _)) (pss_one (ps_ret pe_bl)) pss_nil)
      (pss_one (ps_ret (pe_and (pe_cmpR op_eq (pe_callG G_law_raised hg (hr.mono (by decide)) (by rfl) T.g_law_raised T.F_law_raised.kp T.b_law_raised .nil pass0 (pa_cons pe_int (pa_cons (pe_meth0 (pv 5) T.cl_LiveDiscs T.m_LiveDiscs_fork G_LiveDiscs_fork (hr.mono (by decide)) T.b_LiveDiscs_fork .nil pass0) (pa_cons (pe_lst pa_nil) pa_nil)))) pe_str (nomark _)) (pe_one (pe_cmpR (op_eqOwn T.m_LiveDiscs_eq G_LiveDiscs_eq (hr.mono (by decide)) T.b_LiveDiscs_eq pass0) (pv 5) (pe_make T.mk_LiveDiscs G_LiveDiscs_init (hr.mono (by decide)) rfl T.g_LiveDiscs T.b_LiveDiscs_init .nil pass0 (pa_cons (pv 3) (pa_cons (pv 4) pa_nil))) (nomark _))))))))))))))))), ?_⟩
    refine ⟨.ref t, rfl, .int n, rfl, 10, 30, rfl, rfl, ⟨by decide, by decide, by decide⟩, t, n, 10 ^ (30 : Int).toNat, c, rfl, hn1, hn, by decide +kernel, by decide +kernel, hT, hc0, by omega, fun A ns H1 hR hlen u1 f1 g1 k1 => ?_⟩
    obtain rfl : n = (ns.length : Int) := by omega
    have nA := hT.ne f1
    refine ⟨.ref t, rfl, .int ns.length, rfl, 10, 30, rfl, rfl, ⟨by decide, by decide, by decide⟩, t, ns.length, 10 ^ (30 : Int).toNat, c + 300, rfl, hn1, hn, by decide +kernel, by decide +kernel, k1, by omega, by omega, fun B ms H4 hR2 hlen2 u2 f2 g2 k4 => ?_⟩
    have nB := k1.ne f2
    have A4 := u2 _ _ g1 nA
    have hl : ns.length = ms.length := by omega
    have u4 := u1.trans u2
    have lp := hR.pos
    have l40 := hR.le
    clear u1 u2 f1 f2 g1 k1
    refine ⟨_, _, rfl, .ref A, rfl, .ref B, rfl, fun x dx nx ndx nex => ?_⟩
    obtain ⟨Z, hZ⟩ : ∃ Z : Addr → Prop, Z = fun b => H4 b ≠ none := ⟨_, rfl⟩
    have mk5 : ∀ b y, H4 b = some y → (upd (upd H4 dx (.own x)) x (.ins T.C_LiveDiscs dx [])) b = some y := fun b y e => by
      rw [upd_ne (ne_of_none e nx), upd_ne (ne_of_none e ndx)]
      exact e
    refine ⟨x, dx, A, B, ns, ms, Z, rfl, upd_same, mk5 _ _ A4, mk5 _ _ g2, hR, hR2, hl, fun z hz => ?_, fun z => ?_, fun D S L H6 hL s6 => ⟨rfl, ?_⟩⟩
    · rw [hZ] at hz
      cases e : H4 z with
      | none => exact absurd e hz
      | some y => exact some_nn (mk5 _ _ e)
    · rw [hZ] at z
      exact z nx
    have s46 : Same H4 H6 := fun b y e => s6 _ _ (mk5 _ _ e) (ne_of_none e nx)
    have zof : ∀ {b y}, H4 b = some y → Z b := fun {b y} e => by rw [hZ]; exact some_nn e
    have away : ∀ {b y}, H4 b = some y → b ≠ S ∧ b ≠ L := fun {b y} e => ⟨fun z => hL.fS (z ▸ zof e), fun z => hL.fL (z ▸ zof e)⟩
    obtain ⟨oT, eT⟩ := k4.some
    have aA := away A4
    have aB := away g2
    have aT := away eT
    have zT : Z t := zof eT
    clear mk5 s6
    refine ⟨.ref B, rfl, (by show 2 ≤ sizeLine; decide), fun n0 h0 => ⟨(by show 0 ≤ sizeLine; decide), fun d hd => ⟨(by show 3 ≤ sizeLine; decide), fun w hw => ?_⟩⟩⟩
    have e1 := new_same (o := .tup [.ref B, .int 0]) h0
    have e2 := new_same (o := .lst []) hd
    have e3 := new_same (o := .tup [.ref x, .ref n0, .ref d]) hw
    have gw : (upd (upd (upd H6 n0 (.tup [.ref B, .int 0])) d (.lst [])) w (.tup [.ref x, .ref n0, .ref d])) w = some (.tup [.ref x, .ref n0, .ref d]) := upd_same
    have gn0 := e3 _ _ (e2 _ _ (upd_same (H := H6) (a := n0) (o := .tup [.ref B, .int 0])))
    have gd := e3 _ _ (upd_same (H := upd H6 n0 (.tup [.ref B, .int 0])) (a := d) (o := .lst []))
    have e13 := (e1.trans e2).trans e3
    have fd6 : H6 d = none := none_back e1 hd
    have k6 := k4.same s46
    have nd : d ≠ t := (k6.same e1).ne hd
    have dA : d ≠ A := (ne_of_none (e1 _ _ (s46 _ _ A4)) hd).symm
    have dB : d ≠ B := (ne_of_none (e1 _ _ (s46 _ _ g2)) hd).symm
    have fdH : H d = none := free_butS u4 hT (none_back s46 fd6) nd
    generalize upd (upd (upd H6 n0 (.tup [.ref B, .int 0])) d (.lst [])) w (.tup [.ref x, .ref n0, .ref d]) = H8 at e13 gw gn0 gd ⊢
    clear e1 e2 e3 hd h0 hw
    have L8 : LiveAt T.C_LiveDiscs (fun b => Z b ∨ b = d) H8 x D S L ns [(ms, 0)] [] := by
      refine hL.widen e13 (fun b hb => ?_) (fun b hb => ?_)
      · rcases hb with h | h
        · exact .inl h
        · exact .inr (h ▸ fd6)
      · rcases hb with h | h
        · rw [hZ] at h
          cases e : H4 b with
          | none => exact absurd e h
          | some y => exact some_nn (e13 _ _ (s46 _ _ e))
        · rw [h]
          exact some_nn gd
    have s48 := s46.trans e13
    have A8 := s48 _ _ A4
    have B8 := s48 _ _ g2
    have k8 := k4.same s48
    have u8 : But t H H8 := u4.trans (But.of s48)
    have away8 : ∀ {b y}, H b = some y → b ≠ t → b ≠ S ∧ b ≠ L := fun {b y} e n => away (u4 _ _ e n)
    have dS : d ≠ S := fun z => L8.fS (.inr z.symm)
    have dL : d ≠ L := fun z => L8.fL (.inr z.symm)
    refine ⟨w, _, rfl, SqT.of gw, rfl, _, _, rfl, _, _, rfl, _, _, rfl, rfl, ?_⟩
    clear gw e13 hL away s46 s48 k4 k6 eT A4 g2 u4 zof
    have hsm : LSok ns.length (ms, 0) := ⟨hR2, hl.symm, Int.le_refl _, by show (0 : Int) < (ns.length : Int); omega⟩
    refine ⟨.ref x, rfl, (by show 0 ≤ sizeLine; decide), fun r1 hr1 => ?_⟩
    have dd := new_same (H := H8) (o := .lst []) hr1
    have gn0 := dd _ _ gn0
    have gd := dd _ _ gd
    have A8 := dd _ _ A8
    have B8 := dd _ _ B8
    have k8 := k8.same dd
    have L8 := L8.same dd
    have u8 := u8.trans (But.of dd)
    have gr1 : (upd H8 r1 (.lst [])) r1 = some (.lst []) := upd_same
    generalize upd H8 r1 (.lst []) = M1 at dd gr1 gn0 gd A8 B8 k8 L8 u8 ⊢
    clear dd
    have w := row_nil gr1
    refine ⟨3, .ref x, r1, _, _, rfl, gr1, w.1, w.2, .inl ⟨"undo", .undo L8, fun K1 c1 => ?_⟩⟩
    clear w
    have gn0 := c1 _ _ gn0
    have gd := c1 _ _ gd
    have A8 := c1 _ _ A8
    have B8 := c1 _ _ B8
    have k8 := k8.same c1
    have L8 := L8.same c1
    have u8 := u8.trans (But.of c1)
    have gr1 := c1 _ _ gr1
    clear gr1
    refine ⟨rfl, _, rfl, ite2 (fun h => absurd h (by decide +kernel)) (fun _ => ?_)⟩
    refine ⟨.ref x, rfl, .int ns.length, rfl, _, x, D, S, L, ns, [], (ms, 0), [], rfl, L8, (by decide), fun K2 c2 => ?_⟩
    have gn0 := c2 _ _ gn0
    have gd := c2 _ _ gd
    have A8 := c2 _ _ A8
    have B8 := c2 _ _ B8
    have k8 := k8.same c2
    have L8 := L8.same c2
    have u8 := u8.trans (But.of c2)
    refine ⟨true, rfl, iteF ?_⟩
    refine ⟨.ref x, rfl, (by show 0 ≤ sizeLine; decide), fun r3 hr3 => ?_⟩
    have dd := new_same (H := K2) (o := .lst []) hr3
    have gn0 := dd _ _ gn0
    have gd := dd _ _ gd
    have A8 := dd _ _ A8
    have B8 := dd _ _ B8
    have k8 := k8.same dd
    have L8 := L8.same dd
    have u8 := u8.trans (But.of dd)
    have gr3 : (upd K2 r3 (.lst [])) r3 = some (.lst []) := upd_same
    generalize upd K2 r3 (.lst []) = M2 at dd gr3 gn0 gd A8 B8 k8 L8 u8 ⊢
    clear dd
    have w := row_nil gr3
    refine ⟨3, .ref x, r3, _, _, rfl, gr3, w.1, w.2, .inl ⟨"undo", .undo L8, fun K3 c3 => ?_⟩⟩
    clear w
    have gn0 := c3 _ _ gn0
    have gd := c3 _ _ gd
    have A8 := c3 _ _ A8
    have B8 := c3 _ _ B8
    have k8 := k8.same c3
    have L8 := L8.same c3
    have u8 := u8.trans (But.of c3)
    have gr3 := c3 _ _ gr3
    clear gr3
    refine ⟨rfl, _, rfl, ite2 (fun h => absurd h (by decide +kernel)) (fun _ => ?_)⟩
    obtain ⟨dxl, el⟩ := L8.ob
    refine ⟨.ref x, rfl, x, dxl, _, rfl, el, _, x, D, S, L, ns, [], [], (ms, 0), rfl, L8, fun v K4 c4 hv => ?_⟩
    clear el
    have hv : v = .int ([] : List LC).length := hv
    subst hv
    have gn0 := c4 _ _ gn0
    have gd := c4 _ _ gd
    have A8 := c4 _ _ A8
    have B8 := c4 _ _ B8
    have k8 := k8.same c4
    have L8 := L8.same c4
    have u8 := u8.trans (But.of c4)
    refine ⟨0, rfl, by decide, by decide, rfl, _, rfl, ite2 (fun h => absurd h (by decide +kernel)) (fun _ => ?_)⟩
    have lS8 := L8.lS
    have lL8 := L8.lL
    refine ⟨.int m, rfl, m, rfl, by omega, by omega, for_range (lo := 0) (n := m.toNat) (fun i σ H' => ∃ (y8 : Option V) (us : List V) (rs : List (LC × LS)) (ss : List LS),
        σ = [some (.ref t), some (.int ns.length), some (.int m), some (.ref A), some (.ref B), some (.ref x), some (.ref n0), some (.ref d), y8, none, none] ∧ Rnd46 T.C_LiveDiscs (fun b => Z b ∨ b = d) t x D S L A B n0 d ns ms H' us rs ss ∧ rs.length = i ∧
        ButB t S L d K4 H' ∧ Stk H' t (c + 600 + 10 * i))
      ⟨none, [], [], [], rfl, ⟨L8, A8, ⟨gn0, B8⟩, gd, .nil, fun r hr => (List.not_mem_nil hr).elim, rfl⟩, rfl, fun b y e _ => e, k8.mono (by omega)⟩ (fun i σ H11 hi hP => ?_) (fun σ H11 hP => ?_)⟩
    · obtain ⟨y8, us, rs, ss, rfl, R, hlr, b11, k11⟩ := hP
      have hi9 : i < 9 := by omega
      have hBt : OkB t S L d B := ⟨aB.1, aB.2, nB, dB.symm⟩
      have ld : Lst H11 d := ⟨_, R.gd⟩
      have lS11 := R.live.lS
      have lL11 := R.live.lL
      refine ⟨.ref d, rfl, .inl ⟨rfl, _, SqL.of R.gd⟩, .ref t, rfl, .ref n0, rfl, .ref d, rfl, n0, B, d, (ms, 0), ns.length, us, rs, OkB t S L d, rfl, R.gN, hBt, R.gd, R.dn, R.rk, fun n' o' H12 s12 hN12 ho' => ?_⟩
      have hN12' : NowAt H12 n' o' (nowOf (ms, 0) rs) := ⟨s12 _ _ hN12.1, s12 _ _ hN12.2⟩
      have k12 := k11.same s12
      refine ⟨10, 39, rfl, rfl, ⟨by decide, by decide, by decide⟩, t, n', o', nowOf (ms, 0) rs, ns.length, _, c + 600 + 10 * i, rfl, hN12', ho'.2.2.1, now_ok hsm R.rk, by decide +kernel, by decide +kernel, k12, by omega, by omega, fun r c' n2 o2 k H13 u13 fr gr gc hN13 ho hk k13 => ?_⟩
      have L13 := (R.live.same s12).butZ u13 (.inl zT) k13.nn
      have d13 := u13 _ _ (s12 _ _ R.gd) nd
      have ul : us.length = i := by rw [R.dn.len, hlr]
      refine ⟨d, us, _, rfl, rfl, d13, sz40 (by omega), ?_⟩
      have v14 : ∀ b y, H13 b = some y → b ≠ d → (upd H13 d (.lst (us ++ [.ref r]))) b = some y := fun b y e n => by
        rw [upd_ne n]
        exact e
      have d14 : (upd H13 d (.lst (us ++ [.ref r]))) d = some (.lst (us ++ [.ref r])) := upd_same
      have L14 := L13.over (o := .lst (us ++ [.ref r])) (.inr rfl : (fun b => Z b ∨ b = d) d)
      have k14 := k13.over (o := .lst (us ++ [.ref r])) nd
      generalize upd H13 d (.lst (us ++ [.ref r])) = H14 at v14 d14 L14 k14 ⊢
      have r14 := v14 _ _ gr (tup_ne gr ⟨_, d13⟩)
      have c14 := v14 _ _ gc (tup_ne gc ⟨_, d13⟩)
      have lcs : (rs.map (·.1)).length = i := by rw [List.length_map, hlr]
      refine ⟨.ref x, rfl, .ref d, rfl, 1, rfl, d, _, _, .ref r, rfl, rfl, SqL.of d14, at_last, r, _, 0, .ref c', rfl, rfl, SqT.of r14, rfl, _, x, D, S, L, c', ns, ss, rs.map (·.1), nowOf (ms, 0) rs, k, rfl, c14, L14, hk, by omega, fun H15 u15 L15 => ⟨true, rfl, iteF ?_⟩⟩
      have lS14 := L14.lS
      have lL14 := L14.lL
      have k15 : Stk H15 t (c + 600 + 10 * i + 10) := by
        obtain ⟨x1, x2, x3, e, rest⟩ := k14
        exact ⟨x1, x2, x3, u15 _ _ e aT.1 aT.2, rest⟩
      have all15 : ∀ b y, H11 b = some y → OkB t S L d b → H15 b = some y := fun b y e n => u15 _ _ (v14 _ _ (u13 _ _ (s12 _ _ e) n.2.2.1) n.2.2.2) n.1 n.2.1
      have o2ok : OkB t S L d o2 := by
        rcases ho with e | e
        · rw [e]
          exact ho'
        · have LL := R.live.same s12
          obtain ⟨_, eS, _⟩ := LL.gS
          obtain ⟨_, eL, _⟩ := LL.gL
          exact ⟨(ne_of_none eS e).symm, (ne_of_none eL e).symm, k12.ne e, (ne_of_none (s12 _ _ R.gd) e).symm⟩
      have hN15 : NowAt H15 n2 o2 (k.on (nowOf (ms, 0) rs)) :=
        ⟨u15 _ _ (v14 _ _ hN13.1 (tup_ne hN13.1 ⟨_, d13⟩)) (tup_ne (v14 _ _ hN13.1 (tup_ne hN13.1 ⟨_, d13⟩)) lS14) (tup_ne (v14 _ _ hN13.1 (tup_ne hN13.1 ⟨_, d13⟩)) lL14), u15 _ _ (v14 _ _ hN13.2 o2ok.2.2.2) o2ok.1 o2ok.2.1⟩
      have dn15 := (R.dn.up (fun b y e ok => all15 _ _ e ok) (okB_tup k11.lst lS11 lL11 ld)).snoc (u15 _ _ r14 (tup_ne r14 lS14) (tup_ne r14 lL14)) (u15 _ _ c14 (tup_ne c14 lS14) (tup_ne c14 lL14)) hN15 o2ok
      have hNok := okB_tup k11.lst lS11 lL11 ld _ _ R.gN.1
      refine ⟨_, us ++ [.ref r], rs ++ [(k, k.on (nowOf (ms, 0) rs))], ss ++ [nowOf (ms, 0) rs], rfl, ⟨?_, all15 _ _ R.gA ⟨aA.1, aA.2, nA, dA.symm⟩, ⟨all15 _ _ R.gN.1 hNok, all15 _ _ R.gN.2 hBt⟩, u15 _ _ d14 dS dL, dn15, fun y hy => ?_, ?_⟩, by rw [List.length_append, hlr]; rfl, b11.trans all15, k15.mono (by omega)⟩
      · rw [now_snoc, List.map_append]
        exact L15
      · rcases List.mem_append.mp hy with h | h
        · exact R.rk y h
        · rw [List.mem_singleton.mp h]
          exact ⟨hk, LC.on_ok (now_ok hsm R.rk) hk⟩
      · rw [List.head?_append, R.hd]
        rfl
    obtain ⟨y8, us, rs, ss, rfl, R, hlr, b11, k11⟩ := hP
    have hBt : OkB t S L d B := ⟨aB.1, aB.2, nB, dB.symm⟩
    have lr : rs.length ≤ 9 := by omega
    have LV := R.live
    have gA := R.gA
    have gB := R.gN.2
    refine ⟨.ref A, rfl, .ref n0, rfl, .ref d, rfl, A, n0, B, d, ns, (ms, 0), us, rs, OkB t S L d, rfl, gA, hR, R.gN, hBt, hsm, R.gd, R.dn, R.rk, by omega, fun H12 s12 => ?_⟩
    have kk := k11
    have bb : ButB t S L t H11 H11 := fun b y e _ => e
    have LV := LV.same s12
    have kk := kk.same s12
    have gA := s12 _ _ gA
    have gB := s12 _ _ gB
    have bb := bb.trans (ButB.same s12)
    have hsc : (rs.map (·.1)).length ≤ 9 := by rw [List.length_map]; exact lr
    have hhd := R.hd
    have hnow := now_ok hsm R.rk
    generalize nowOf (ms, 0) rs = sN at LV hhd hnow ⊢
    obtain ⟨cs, hcs⟩ : ∃ cs, cs = rs.map (·.1) := ⟨_, rfl⟩
    have lcs : cs.length = m.toNat := by rw [hcs, List.length_map, hlr]
    rw [← hcs] at LV ⊢
    clear s12 hsc
    obtain ⟨sh, st, hss⟩ : ∃ sh st, ss ++ [sN] = sh :: st := by
      cases ss with
      | nil => exact ⟨sN, [], rfl⟩
      | cons a r => exact ⟨a, r ++ [sN], rfl⟩
    obtain ⟨ZL, hZL⟩ : ∃ ZL : Addr → Prop, ZL = fun b => Z b ∨ b = d := ⟨_, rfl⟩
    rw [← hZL] at LV
    have hl0 := LV.len
    refine ⟨.ref x, rfl, .int ns.length, rfl, ZL, x, D, S, L, ns, ss, sN, cs, rfl, LV, by omega, fun K20 c20 => ?_⟩
    have LV := LV.same c20
    have kk := kk.same c20
    have gA := c20 _ _ gA
    have gB := c20 _ _ gB
    have bb := bb.trans (ButB.same c20)
    obtain ⟨dx1, e1⟩ := LV.ob
    refine ⟨true, rfl, iteF ?_⟩
    refine ⟨.ref x, rfl, x, dx1, _, rfl, e1, lf_no (by decide +kernel) (by decide +kernel) (by decide +kernel), ZL, x, D, S, L, ns, sh, st, cs, rfl, hss ▸ LV, fun p2 D2 S2 L2 K21 c21 f1 f2 f3 f4 LF => ?_⟩
    clear f1 f2 f3 f4 e1
    have LV := LV.same c21
    have kk := kk.same c21
    have gA := c21 _ _ gA
    have gB := c21 _ _ gB
    have bb := bb.trans (ButB.same c21)
    refine ⟨.int ns.length, rfl, _, p2, D2, S2, L2, ns, ss, sN, cs, rfl, hss ▸ LF, by omega, fun K22 c22 => ?_⟩
    clear LF
    have LV := LV.same c22
    have kk := kk.same c22
    have gA := c22 _ _ gA
    have gB := c22 _ _ gB
    have bb := bb.trans (ButB.same c22)
    refine ⟨true, rfl, iteF ?_⟩
    refine ⟨.ref x, rfl, (by show 1 ≤ sizeLine; decide), fun r1 hr1 => ?_⟩
    have off := LV.off hr1
    have dd := new_same (H := K22) (o := .lst [.int 0]) hr1
    have LV := LV.same dd
    have kk := kk.same dd
    have gA := dd _ _ gA
    have gB := dd _ _ gB
    have bb := bb.trans (ButB.same dd)
    have gr1 : (upd K22 r1 (.lst [.int 0])) r1 = some (.lst [.int 0]) := upd_same
    generalize upd K22 r1 (.lst [.int 0]) = M3 at dd gr1 LV kk gA gB bb ⊢
    clear dd
    have w := row_one gr1 (.int 0) ((szd_int (by decide)).mono (by decide) (by decide))
    refine ⟨1, .ref x, r1, _, _, rfl, gr1, w.1, w.2, .inr (.inr ⟨[0], _, rfl, .turn LV (by decide) (by omega) off.1 off.2, fun K23 hG => ?_⟩)⟩
    obtain ⟨u1, LV⟩ := hG
    clear w off
    have kk := kk.ls u1 aT
    have gA := u1 _ _ gA aA.1 aA.2
    have gB := u1 _ _ gB aB.1 aB.2
    have bb := bb.trans (ButB.ls u1)
    clear u1
    clear gr1
    refine ⟨.ref x, rfl, .int ns.length, rfl, ns.length, 1, rfl, rfl, 10, 30, rfl, rfl, ⟨by decide, by decide, by decide⟩, (by show 2 ≤ sizeLine; decide), fun r2 hr2 => ?_⟩
    have off := LV.off hr2
    have dd := new_same (H := K23) (o := .lst [.int ((ns.length : Int) - 1), .int (10 ^ (30 : Int).toNat)]) hr2
    have LV := LV.same dd
    have kk := kk.same dd
    have gA := dd _ _ gA
    have gB := dd _ _ gB
    have bb := bb.trans (ButB.same dd)
    have gr2 : (upd K23 r2 (.lst [.int ((ns.length : Int) - 1), .int (10 ^ (30 : Int).toNat)])) r2 = some (.lst [.int ((ns.length : Int) - 1), .int (10 ^ (30 : Int).toNat)]) := upd_same
    generalize upd K23 r2 (.lst [.int ((ns.length : Int) - 1), .int (10 ^ (30 : Int).toNat)]) = M4 at dd gr2 LV kk gA gB bb ⊢
    clear dd
    have w := row_two gr2 (.int _) (.int _) ((szd_int (Nat.lt_of_le_of_lt (show ((ns.length : Int) - 1).natAbs ≤ 40 by omega) (by decide +kernel))).mono (by decide) (by decide)) ((szd_int (by decide +kernel)).mono (by decide) (by decide))
    have ez : (ns.length : Int) - 1 = ((ns.length - 1 : Nat) : Int) := by omega
    refine ⟨2, .ref x, r2, _, _, rfl, gr2, w.1, w.2, .inr (.inr ⟨[((ns.length - 1 : Nat) : Int), 10 ^ (30 : Int).toNat], _, (by rw [ez]; rfl), .slot LV ⟨by omega, by decide +kernel, by decide +kernel⟩ (by rw [List.length_append]; show cs.length + 1 < 1000; omega) off.1 off.2, fun K24 hG => ?_⟩)⟩
    obtain ⟨u1, LV⟩ := hG
    clear w off
    have kk := kk.ls u1 aT
    have gA := u1 _ _ gA aA.1 aA.2
    have gB := u1 _ _ gB aB.1 aB.2
    have bb := bb.trans (ButB.ls u1)
    clear u1
    clear gr2
    refine ⟨(by show 2 ≤ sizeLine; decide), fun tl htl => ?_⟩
    have offl := LV.off htl
    have nTl : tl ≠ t := kk.ne htl
    have dd := new_same (H := K24) (o := .lst [.str "fine", .str "fine"]) htl
    have LV := LV.same dd
    have kk := kk.same dd
    have gA := dd _ _ gA
    have gB := dd _ _ gB
    have bb := bb.trans (ButB.same dd)
    have gtl : (upd K24 tl (.lst [.str "fine", .str "fine"])) tl = some (.lst [.str "fine", .str "fine"]) := upd_same
    generalize upd K24 tl (.lst [.str "fine", .str "fine"]) = M5 at dd gtl LV kk gA gB bb ⊢
    clear dd
    have hlen := LV.len
    obtain ⟨SS, hSS⟩ : ∃ SS, SS = ss ++ [sN] ++ [LC.on sN (.turn 0)] ++ [LC.on (LC.on sN (.turn 0)) (.slot (ns.length - 1) (10 ^ (30 : Int).toNat))] := ⟨_, rfl⟩
    obtain ⟨CS, hCS⟩ : ∃ CS, CS = cs ++ [.turn 0] ++ [.slot (ns.length - 1) (10 ^ (30 : Int).toNat)] := ⟨_, rfl⟩
    rw [← hSS, ← hCS] at LV hlen
    have hCl : CS.length = m.toNat + 2 := by rw [hCS, List.length_append, List.length_append, lcs]; rfl
    refine ⟨.ref tl, rfl, ?_⟩
    refine ⟨2, rfl, by decide, by decide, fun V1 hV1 => ?_⟩
    have tR1 := kk.ne hV1
    have us1 := UndAt.start LV hCl kk hV1
    refine lc_range (lo := 0) (n := (2 : Int).toNat) (UndAt T.C_LiveDiscs _ t x D S L V1 ns SS CS (m.toNat + 2) _ M5) us1 (fun j H' hj hu => ⟨rfl, ?_⟩) (fun H' hu => ?_)
    · refine ⟨.ref x, rfl, (by show 0 ≤ sizeLine; decide), fun r hr => ?_⟩
      delta tNil
      exact hu.step (by omega) hCl (by omega) hV1 (.inr rfl) aT tR1 hr fun H2 gV2 un => ⟨_, gV2, by rw [uws_len]; exact sz40 (by omega), un⟩
    clear us1
    obtain ⟨LV, b2, kk, gV1⟩ := hu
    have gA := b2 _ _ gA ⟨aA.1, aA.2, nA, nA⟩
    have gB := b2 _ _ gB ⟨aB.1, aB.2, nB, nB⟩
    have bb := bb.trans b2
    have gtl := b2 _ _ gtl ⟨offl.1, offl.2, nTl, nTl⟩
    clear b2
    have e1 : SS.take (m.toNat + 2 - (2 : Int).toNat + 1) = ss ++ [sN] := by
      rw [hSS, List.append_assoc (ss ++ [sN])]
      exact List.take_left' (by rw [hl0, lcs]; rfl)
    have e2 : CS.take (m.toNat + 2 - (2 : Int).toNat) = cs := by
      rw [hCS, List.append_assoc cs]
      exact List.take_left' (by rw [lcs]; rfl)
    rw [e1, e2] at LV
    have gV1 : H' V1 = some (.lst (([("fine" : Str), ("fine" : Str)] : List Str).map V.str)) := by
      have := gV1
      rw [show uws (m.toNat + 2) (2 : Int).toNat = _ from uws_two m.toNat] at this
      exact this
    clear e1 e2 hlen hCl hSS hCS
    refine ⟨tl, V1, _, _, rfl, rfl, gtl, gV1, (by show 2 + 2 ≤ sizeLine; decide), fun W hW => ?_⟩
    have dd := new_same (H := H') (o := .lst (([V.str "fine", V.str "fine"] : List V) ++ (([("fine" : Str), ("fine" : Str)] : List Str).map V.str))) hW
    have LV := LV.same dd
    have kk := kk.same dd
    have gA := dd _ _ gA
    have gB := dd _ _ gB
    have bb := bb.trans (ButB.same dd)
    have gtl := dd _ _ gtl
    have gV1 := dd _ _ gV1
    have gW : (upd H' W (.lst (([V.str "fine", V.str "fine"] : List V) ++ (([("fine" : Str), ("fine" : Str)] : List Str).map V.str)))) W = some (.lst (([V.str "fine", V.str "fine"] : List V) ++ (([("fine" : Str), ("fine" : Str)] : List Str).map V.str))) := upd_same
    generalize upd H' W (.lst (([V.str "fine", V.str "fine"] : List V) ++ (([("fine" : Str), ("fine" : Str)] : List Str).map V.str))) = M6 at dd gW LV kk gA gB bb gtl gV1 ⊢
    clear dd
    refine ⟨.ref W, rfl, (by show 1 ≤ sizeLine; decide), fun q1 hq1 => ?_⟩
    have dd := new_same (H := M6) (o := .lst [.str "fine"]) hq1
    have LV := LV.same dd
    have kk := kk.same dd
    have gA := dd _ _ gA
    have gB := dd _ _ gB
    have bb := bb.trans (ButB.same dd)
    have gtl := dd _ _ gtl
    have gV1 := dd _ _ gV1
    have gW := dd _ _ gW
    have gq1 : (upd M6 q1 (.lst [.str "fine"])) q1 = some (.lst [.str "fine"]) := upd_same
    generalize upd M6 q1 (.lst [.str "fine"]) = M7 at dd gq1 LV kk gA gB bb gtl gV1 gW ⊢
    clear dd
    refine ⟨q1, 4, _, rfl, rfl, gq1, by decide, by decide, (by show 1 * 4 ≤ sizeLine; decide), fun q2 hq2 => ?_⟩
    have dd := new_same (H := M7) (o := .lst (List.replicate (4 : Int).toNat [V.str "fine"]).flatten) hq2
    have LV := LV.same dd
    have kk := kk.same dd
    have gA := dd _ _ gA
    have gB := dd _ _ gB
    have bb := bb.trans (ButB.same dd)
    have gtl := dd _ _ gtl
    have gV1 := dd _ _ gV1
    have gW := dd _ _ gW
    have gq1 := dd _ _ gq1
    have gq2 : (upd M7 q2 (.lst (List.replicate (4 : Int).toNat [V.str "fine"]).flatten)) q2 = some (.lst (List.replicate (4 : Int).toNat [V.str "fine"]).flatten) := upd_same
    generalize upd M7 q2 (.lst (List.replicate (4 : Int).toNat [V.str "fine"]).flatten) = M8 at dd gq2 LV kk gA gB bb gtl gV1 gW gq1 ⊢
    clear dd
    have wo := ws_rep (w := ("fine" : Str)) (by decide +kernel) 4
    refine ⟨_, _, dp_strs (ws := List.replicate 4 ("fine" : Str)) gW, dp_strs (ws := List.replicate 4 ("fine" : Str)) gq2, ws_shaped wo, ws_shaped wo, _, rfl, ite2 (fun h => absurd h (by rw [ws_refl wo]; decide)) (fun _ => ?_)⟩
    clear gtl gV1 gW gq1 gq2
    obtain ⟨ZM, hZM⟩ : ∃ ZM : Addr → Prop, ZM = fun b => ZL b ∨ b = V1 := ⟨_, rfl⟩
    rw [← hZM] at LV
    refine ⟨.ref x, rfl, ZM, x, D, S, L, ns, ss, sN, cs, rfl, LV, by omega, fun K30 c30 => ?_⟩
    have LV := LV.same c30
    have kk := kk.same c30
    have gA := c30 _ _ gA
    have gB := c30 _ _ gB
    have bb := bb.trans (ButB.same c30)
    refine ⟨.str (dTold ns sN cs).shown, rfl, rfl, _, rfl, ite2 (fun h => absurd h (by rw [decide_eq_true rfl]; decide)) (fun _ => ?_)⟩
    refine ⟨.ref x, rfl, .int ns.length, rfl, ZM, x, D, S, L, ns, ss, sN, cs, rfl, LV, by omega, fun K31 c31 => ?_⟩
    have LV := LV.same c31
    have kk := kk.same c31
    have gA := c31 _ _ gA
    have gB := c31 _ _ gB
    have bb := bb.trans (ButB.same c31)
    refine ⟨true, rfl, iteF ?_⟩
    refine ⟨.int m, rfl, m, 1, rfl, rfl, m + 1, rfl, by omega, by omega, fun V2 hV2 => ?_⟩
    have tR2 := kk.ne hV2
    have us2 := UndAt.start LV lcs kk hV2
    refine lc_range (lo := 0) (n := (m + 1).toNat) (UndAt T.C_LiveDiscs _ t x D S L V2 ns (ss ++ [sN]) cs m.toNat _ K31) us2 (fun j H' hj hu => ⟨rfl, ?_⟩) (fun H' hu => ?_)
    · refine ⟨.ref x, rfl, (by show 0 ≤ sizeLine; decide), fun r hr => ?_⟩
      delta tNil
      exact hu.step (by rw [hl0, lcs]) lcs (by omega) hV2 (.inr rfl) aT tR2 hr fun H2 gV2 un => ⟨_, gV2, by rw [uws_len]; exact sz40 (by omega), un⟩
    clear us2
    obtain ⟨LV, b2, kk, gV2⟩ := hu
    have gA := b2 _ _ gA ⟨aA.1, aA.2, nA, nA⟩
    have gB := b2 _ _ gB ⟨aB.1, aB.2, nB, nB⟩
    have bb := bb.trans b2
    clear b2
    rw [show (m + 1).toNat = m.toNat + 1 by omega] at LV gV2
    rw [show m.toNat - (m.toNat + 1) = 0 by omega, List.take_zero, show (ss ++ [sN]).take (0 + 1) = [(ms, 0)] from by
      have := hhd
      rw [hss] at this ⊢
      exact congrArg (fun z => [z]) (Option.some.inj this)] at LV
    have gV2 : H' V2 = some (.lst ((List.replicate m.toNat ("fine" : Str) ++ [("undo" : Str)] : List Str).map V.str)) := by
      have := gV2
      rw [uws_full] at this
      exact this
    refine ⟨(by show 1 ≤ sizeLine; decide), fun q3 hq3 => ?_⟩
    have dd := new_same (H := H') (o := .lst [.str "fine"]) hq3
    have LV := LV.same dd
    have kk := kk.same dd
    have gA := dd _ _ gA
    have gB := dd _ _ gB
    have bb := bb.trans (ButB.same dd)
    have gV2 := dd _ _ gV2
    have gq3 : (upd H' q3 (.lst [.str "fine"])) q3 = some (.lst [.str "fine"]) := upd_same
    generalize upd H' q3 (.lst [.str "fine"]) = M9 at dd gq3 LV kk gA gB bb gV2 ⊢
    clear dd
    refine ⟨.int m, rfl, q3, m, _, rfl, rfl, gq3, by omega, by omega, (Nat.le_trans (show 1 * m.toNat ≤ 10 by omega) (by decide)), fun q4 hq4 => ?_⟩
    have dd := new_same (H := M9) (o := .lst (List.replicate m.toNat [V.str "fine"]).flatten) hq4
    have LV := LV.same dd
    have kk := kk.same dd
    have gA := dd _ _ gA
    have gB := dd _ _ gB
    have bb := bb.trans (ButB.same dd)
    have gV2 := dd _ _ gV2
    have gq3 := dd _ _ gq3
    have gq4 : (upd M9 q4 (.lst (List.replicate m.toNat [V.str "fine"]).flatten)) q4 = some (.lst (List.replicate m.toNat [V.str "fine"]).flatten) := upd_same
    generalize upd M9 q4 (.lst (List.replicate m.toNat [V.str "fine"]).flatten) = M10 at dd gq4 LV kk gA gB bb gV2 gq3 ⊢
    clear dd
    refine ⟨(by show 1 ≤ sizeLine; decide), fun q5 hq5 => ?_⟩
    have dd := new_same (H := M10) (o := .lst [.str "undo"]) hq5
    have LV := LV.same dd
    have kk := kk.same dd
    have gA := dd _ _ gA
    have gB := dd _ _ gB
    have bb := bb.trans (ButB.same dd)
    have gV2 := dd _ _ gV2
    have gq3 := dd _ _ gq3
    have gq4 := dd _ _ gq4
    have gq5 : (upd M10 q5 (.lst [.str "undo"])) q5 = some (.lst [.str "undo"]) := upd_same
    generalize upd M10 q5 (.lst [.str "undo"]) = M11 at dd gq5 LV kk gA gB bb gV2 gq3 gq4 ⊢
    clear dd
    refine ⟨q4, q5, _, _, rfl, rfl, gq4, gq5, (by rw [flat_rep, List.length_replicate]; exact Nat.le_trans (show m.toNat + 1 ≤ 10 by omega) (by decide)), fun q6 hq6 => ?_⟩
    have dd := new_same (H := M11) (o := .lst ((List.replicate m.toNat [V.str "fine"]).flatten ++ [.str "undo"])) hq6
    have LV := LV.same dd
    have kk := kk.same dd
    have gA := dd _ _ gA
    have gB := dd _ _ gB
    have bb := bb.trans (ButB.same dd)
    have gV2 := dd _ _ gV2
    have gq3 := dd _ _ gq3
    have gq4 := dd _ _ gq4
    have gq5 := dd _ _ gq5
    have gq6 : (upd M11 q6 (.lst ((List.replicate m.toNat [V.str "fine"]).flatten ++ [.str "undo"]))) q6 = some (.lst ((List.replicate m.toNat [V.str "fine"]).flatten ++ [.str "undo"])) := upd_same
    generalize upd M11 q6 (.lst ((List.replicate m.toNat [V.str "fine"]).flatten ++ [.str "undo"])) = M12 at dd gq6 LV kk gA gB bb gV2 gq3 gq4 gq5 ⊢
    clear dd
    have gq6 : M12 q6 = some (.lst ((List.replicate m.toNat ("fine" : Str) ++ [("undo" : Str)] : List Str).map V.str)) := by
      rw [gq6, flat_rep, List.map_append, List.map_replicate]
      rfl
    have wo : WsOk (List.replicate m.toNat ("fine" : Str) ++ [("undo" : Str)] : List Str) := fun z hz => by
      rcases List.mem_append.mp hz with h | h
      · exact ws_rep (by decide +kernel) _ z h
      · rw [List.mem_singleton.mp h]
        decide +kernel
    refine ⟨_, _, dp_strs gV2, dp_strs gq6, ws_shaped wo, ws_shaped wo, _, rfl, ite2 (fun h => absurd h (by rw [ws_refl wo]; decide)) (fun _ => ?_)⟩
    clear gV2 gq3 gq4 gq5 gq6
    obtain ⟨dx2, e2⟩ := LV.ob
    refine ⟨.ref x, rfl, x, dx2, _, rfl, e2, lf_no (by decide +kernel) (by decide +kernel) (by decide +kernel), _, x, D, S, L, ns, (ms, 0), [], [], rfl, LV, fun p3 D3 S3 L3 K40 c40 f1 f2 f3 f4 LF => ?_⟩
    clear f1 f2 f3 f4 e2
    have LV := LV.same c40
    have kk := kk.same c40
    have gA := c40 _ _ gA
    have gB := c40 _ _ gB
    have bb := bb.trans (ButB.same c40)
    refine ⟨(by show 0 ≤ sizeLine; decide), fun r9 hr9 => ?_⟩
    have dd := new_same (H := K40) (o := .lst []) hr9
    have LV := LV.same dd
    have kk := kk.same dd
    have gA := dd _ _ gA
    have gB := dd _ _ gB
    have bb := bb.trans (ButB.same dd)
    have LF := LF.same dd
    have gr9 : (upd K40 r9 (.lst [])) r9 = some (.lst []) := upd_same
    generalize upd K40 r9 (.lst []) = M13 at dd gr9 LV kk gA gB bb LF ⊢
    clear dd
    have w := row_nil gr9
    refine ⟨3, .ref p3, r9, _, _, rfl, gr9, w.1, w.2, .inl ⟨"undo", .undo LF, fun K41 c41 => ?_⟩⟩
    clear w
    clear gr9 LF
    have LV := LV.same c41
    have kk := kk.same c41
    have gA := c41 _ _ gA
    have gB := c41 _ _ gB
    have bb := bb.trans (ButB.same c41)
    refine ⟨rfl, true, by rw [decide_eq_true rfl], ?_⟩
    refine iteT ?_
    refine ⟨.ref x, rfl, .ref A, rfl, .ref B, rfl, fun x2 dy ny ndy ney => ?_⟩
    have mk6 : ∀ b y, K41 b = some y → (upd (upd K41 dy (.own x2)) x2 (.ins T.C_LiveDiscs dy [])) b = some y := fun b y e => by
      rw [upd_ne (ne_of_none e ny), upd_ne (ne_of_none e ndy)]
      exact e
    refine ⟨x2, dy, A, B, ns, ms, fun _ => False, rfl, upd_same, mk6 _ _ gA, mk6 _ _ gB, hR, hR2, hl, fun _ z => z.elim, fun z => z, fun D5 S5 L5 K42 hL5 s5 => ⟨rfl, ?_⟩⟩
    have s42 : Same K41 K42 := fun b y e => s5 _ _ (mk6 _ _ e) (ne_of_none e ny)
    refine eq_me (LV.same s42) hL5 (q _ (fun b y e n => ?_) ((kk.same s42).mono (by omega)))
    have o := away8 e n
    have nbd : b ≠ d := ne_of_none e fdH
    exact s42 _ _ (bb _ _ (b11 _ _ (u8 _ _ e n) ⟨o.1, o.2, n, nbd⟩) ⟨o.1, o.2, n, n⟩)

def spLaw (K : PySem.W.Frag) : Sp := fun vs H Q _ => ∃ (a : Addr) (ns : List Int), vs = [.ref a] ∧ SqL K H a (ns.map V.int) ∧ ns.length ≤ 63 ∧ ∀ H', Q (.bl true) H'

theorem ok_law (T : Txt K mg) : FnG P w K mg base CX0 12 T.a_law T.d_law ["script"] (spLaw K) := by
  have G_law_stock := ok_law_stock (P := P) (w := w) (base := base) T
  have G_law_draw := ok_law_draw (P := P) (w := w) (base := base) T
  have G_law_size := ok_law_size (P := P) (w := w) (base := base) T
  have G_law_slots := ok_law_slots (P := P) (w := w) (base := base) T
  have G_law_made_right := ok_law_made_right (P := P) (w := w) (base := base) T
  have G_law_right := ok_law_right (P := P) (w := w) (base := base) T
  have G_law_raised := ok_law_raised (P := P) (w := w) (base := base) T
  have G_LiveDiscs_init := ok_LiveDiscs_init (P := P) (w := w) (base := base) T
  have G_LiveDiscs_light := ok_LiveDiscs_light (P := P) (w := w) (base := base) T
  have G_LiveDiscs_len := ok_LiveDiscs_len (P := P) (w := w) (base := base) T
  refine okG T.F_law sc_law (fun vs H Q E h => ?_) (fun cdv A outer s H vs Q E hg hr h => ?_)
  · obtain ⟨_, _, rfl, _⟩ := h
    rfl
  · obtain ⟨a, ns, rfl, hS, hlen, q⟩ := h
    refine ⟨_, (pss_cons (ps_set (i := 1) sc_law.nd rfl (.inl rfl) (pe_call G_law_stock (hr.mono (by decide)) (by rfl) T.g_law_stock T.F_law_stock.kp T.b_law_stock .nil pass0 (pa_cons (pv 0) pa_nil)))
      (pss_cons (ps_for PassesOwn.never rfl (pi_range1 (by rfl) T.n_range (pa_cons (pe_callB (call_max2 rfl) (by rfl) T.n_max (by decide +kernel) (pa_cons pe_int (pa_cons (pe_callB (call_min2 rfl) (by rfl) T.n_min (by decide +kernel) (pa_cons pe_int (pa_cons (pe_callB (lenL (K := K) rfl) (by rfl) T.n_len (by decide +kernel) (pa_cons (pv 0) pa_nil)) pa_nil))) pa_nil))) pa_nil)) (pg_name (i := 2) sc_law.nd rfl (.inl rfl)) (pss_cons (ps_set (i := 3) sc_law.nd rfl (.inl rfl) (pe_call G_law_size (hr.mono (by decide)) (by rfl) T.g_law_size T.F_law_size.kp T.b_law_size .nil pass0 (pa_cons (pv 1) (pa_cons (pe_ix (ixL (K := K) rfl) (pe_lst (pa_cons pe_int (pa_cons pe_int (pa_cons pe_int pa_nil)))) (pv 2) (fun _ _ => rfl)) pa_nil))))
      (pss_cons (ps_if (pt_not (pt_val (pe_callG G_law_made_right hg (hr.mono (by decide)) (by rfl) T.g_law_made_right T.F_law_made_right.kp T.b_law_made_right .nil pass0 (pa_cons (pe_call G_law_slots (hr.mono (by decide)) (by rfl) T.g_law_slots T.F_law_slots.kp T.b_law_slots .nil pass0 (pa_cons (pv 1) (pa_cons (pv 3) (pa_cons (pe_op op_pow pe_int pe_int) pa_nil)))) (pa_cons (pe_call G_law_slots (hr.mono (by decide)) (by rfl) T.g_law_slots T.F_law_slots.kp T.b_law_slots .nil pass0 (pa_cons (pv 1) (pa_cons (pv 3) (pa_cons (pe_op op_pow pe_int pe_int) pa_nil)))) pa_nil))))) (pss_one (ps_ret pe_bl)) pss_nil)
      (pss_one (ps_if (pt_not (pt_val (pe_callG G_law_right hg hr (by rfl) T.g_law_right T.F_law_right.kp T.b_law_right .nil pass0 (pa_cons (pv 1) (pa_cons (pv 3) (pa_cons (pe_call G_law_draw (hr.mono (by decide)) (by rfl) T.g_law_draw T.F_law_draw.kp T.b_law_draw .nil pass0 (pa_cons (pv 1) (pa_cons pe_int pa_nil))) pa_nil)))))) (pss_one (ps_ret pe_bl)) pss_nil)))))
      (pss_cons (ps_set (i := 4) sc_law.nd rfl (.inl rfl) (pe_make T.mk_LiveDiscs G_LiveDiscs_init (hr.mono (by decide)) rfl T.g_LiveDiscs T.b_LiveDiscs_init .nil pass0 (pa_cons (pe_lst (pa_cons pe_int pa_nil)) (pa_cons (pe_lst (pa_cons pe_int pa_nil)) pa_nil))))
      (pss_cons (ps_set (i := 5) sc_law.nd rfl (.inl rfl) (pe_lst (pa_cons (pe_callG G_law_raised hg (hr.mono (by decide)) (by rfl) T.g_law_raised T.F_law_raised.kp T.b_law_raised .nil pass0 (pa_cons pe_int (pa_cons (pv 4) (pa_cons (pe_lst (pa_cons pe_int (pa_cons pe_int pa_nil))) pa_nil)))) (pa_cons (pe_callG G_law_raised hg (hr.mono (by decide)) (by rfl) T.g_law_raised T.F_law_raised.kp T.b_law_raised .nil pass0 (pa_cons pe_int (pa_cons (pv 4) (pa_cons (pe_lst (pa_cons pe_int (pa_cons pe_int pa_nil))) pa_nil)))) (pa_cons (pe_callG G_law_raised hg (hr.mono (by decide)) (by rfl) T.g_law_raised T.F_law_raised.kp T.b_law_raised .nil pass0 (pa_cons pe_int (pa_cons (pv 4) (pa_cons (pe_lst (pa_cons (pe_op op_pow pe_int pe_int) pa_nil)) pa_nil)))) pa_nil)))))
      (pss_one (ps_ret (pe_and (pe_cmpR (eqD (K := K) rfl hr) (pv 5) (pe_lst (pa_cons pe_str (pa_cons pe_str (pa_cons pe_str pa_nil)))) (nomark _)) (pe_one (pe_cmpR (eqD (K := K) rfl hr) (pe_lst (pa_cons (pe_prop (pv 4) T.cl_LiveDiscs T.p_LiveDiscs_light G_LiveDiscs_light (hr.mono (by decide)) T.b_LiveDiscs_light .nil pass0 rfl) (pa_cons (pe_callB (cr_lenOwn T.cl_LiveDiscs T.m_LiveDiscs_len G_LiveDiscs_len (hr.mono (by decide)) T.b_LiveDiscs_len pass0) (by rfl) T.n_len (by decide +kernel) (pa_cons (pv 4) pa_nil)) pa_nil))) (pe_lst (pa_cons pe_int (pa_cons pe_int pa_nil))) (nomark _)))))))))), ?_⟩
    refine ⟨.ref a, rfl, a, ns, rfl, hS, hlen, fun t H1 s1 n1 k1 => ?_⟩
    refine ⟨.ref a, rfl, a, _, rfl, .inl (s1.seq hS), 3, _, rfl, 1, _, rfl, _, rfl, ?_, ?_, for_range (lo := 0)
      (fun i σ H' => ∃ y2 y3 : Option V, σ = [some (.ref a), some (.ref t), y2, y3, none, none] ∧ Stk H' t (2000 * i) ∧ i ≤ 6) ⟨none, none, rfl, k1.mono (by omega), by omega⟩ (fun i σ H2 hi hP => ?_) (fun σ H2 hP => ?_)⟩
    · split <;> split <;> omega
    · split <;> split <;> omega
    · obtain ⟨y2, y3, rfl, k2, _⟩ := hP
      have hi6 : i < 6 := by
        revert hi
        split <;> split <;> omega
      have hi3 : i < 3 := by
        revert hi
        split <;> split <;> omega
      refine ⟨.ref t, rfl, (by show 3 ≤ sizeLine; decide), fun l hl => ?_⟩
      obtain ⟨z, hz, hat⟩ := at_in (ns := [40, 12, 7]) (i := 0 + (i : Int)) (by omega) (by show _ < ((3 : Nat) : Int); omega)
      have hz1 : 1 ≤ z ∧ z ≤ 40 := by
        have := List.mem_of_getElem? hz
        simp only [List.mem_cons, List.not_mem_nil, or_false] at this
        omega
      refine ⟨.int (0 + i), rfl, l, _, _, .int z, rfl, rfl, SqL.of upd_same, hat, ?_⟩
      refine ⟨t, z, 2000 * i, rfl, hz1.1, by omega, k2.up hl, by omega, by omega, fun r H3 r1 r2 k3 u3 => ?_⟩
      refine ⟨.ref t, rfl, .int r, rfl, 10, 30, rfl, rfl, ⟨by decide, by decide, by decide⟩, t, r, 10 ^ (30 : Int).toNat, 2000 * i + 3, rfl, r1, by omega, by decide +kernel, by decide +kernel, k3, by omega, by omega, fun A ns1 H4 hR hl1 u4 f4 g4 k4 => ?_⟩
      refine ⟨.ref t, rfl, .int r, rfl, 10, 30, rfl, rfl, ⟨by decide, by decide, by decide⟩, t, r, 10 ^ (30 : Int).toNat, 2000 * i + 303, rfl, r1, by omega, by decide +kernel, by decide +kernel, k4.mono (by omega), by omega, by omega, fun B ms1 H5 hR2 hl2 u5 f5 g5 k5 => ?_⟩
      refine ⟨A, B, ns1, ms1, rfl, u5 _ _ g4 (k3.ne f4), g5, hR, hR2, by omega, fun H6 s6 => ⟨true, rfl, iteF ?_⟩⟩
      refine ⟨.ref t, rfl, .int r, rfl, .ref t, rfl, t, 10, 2000 * i + 603, rfl, by omega, by omega, (k5.same s6).mono (by omega), by omega, fun m H7 m1 m2 k7 u7 => ?_⟩
      refine ⟨t, r, m, 2000 * i + 604, rfl, r1, by omega, m1, by omega, k7.mono (by omega), by omega, by omega, fun H8 u8 k8 => ⟨true, rfl, iteF ?_⟩⟩
      exact ⟨_, _, rfl, k8.mono (by omega), by omega⟩
    obtain ⟨y2, y3, rfl, _, _⟩ := hP
    clear k1 s1 hS
    refine ⟨(by show 1 ≤ sizeLine; decide), fun l1 hl1 => ?_⟩
    have dd := new_same (H := H2) (o := .lst [.int 1]) hl1
    have gl1 : (upd H2 l1 (.lst [.int 1])) l1 = some (.lst [.int 1]) := upd_same
    generalize upd H2 l1 (.lst [.int 1]) = M1 at dd gl1  ⊢
    clear dd
    refine ⟨(by show 1 ≤ sizeLine; decide), fun l0 hl0 => ?_⟩
    have dd := new_same (H := M1) (o := .lst [.int 0]) hl0
    have gl1 := dd _ _ gl1
    have gl0 : (upd M1 l0 (.lst [.int 0])) l0 = some (.lst [.int 0]) := upd_same
    generalize upd M1 l0 (.lst [.int 0]) = M2 at dd gl0 gl1 ⊢
    clear dd
    have hR1 : Rim [1] := ⟨by decide, by decide, by decide⟩
    have hR0 : Rim [0] := ⟨by decide, by decide, by decide⟩
    refine fun x dx nx ndx nex => ?_
    have mk5 : ∀ b y, M2 b = some y → (upd (upd M2 dx (.own x)) x (.ins T.C_LiveDiscs dx [])) b = some y := fun b y e => by
      rw [upd_ne (ne_of_none e nx), upd_ne (ne_of_none e ndx)]
      exact e
    refine ⟨x, dx, l1, l0, [1], [0], (fun _ => False), rfl, upd_same, mk5 _ _ gl1, mk5 _ _ gl0, hR1, hR0, rfl, fun z hz => hz.elim, fun z => z, fun D S L J1 LV s6 => ⟨rfl, ?_⟩⟩
    clear s6 mk5 gl1 gl0
    refine ⟨.ref x, rfl, (by show 2 ≤ sizeLine; decide), fun r1 hr1 => ?_⟩
    have dd := new_same (H := J1) (o := .lst [.int 1, .int 1]) hr1
    have LV := LV.same dd
    have gr1 : (upd J1 r1 (.lst [.int 1, .int 1])) r1 = some (.lst [.int 1, .int 1]) := upd_same
    generalize upd J1 r1 (.lst [.int 1, .int 1]) = M3 at dd gr1 LV ⊢
    clear dd
    have w := row_two gr1 (.int 1) (.int 1) ((szd_int (by decide)).mono (by decide) (by decide)) ((szd_int (by decide)).mono (by decide) (by decide))
    refine ⟨2, .ref x, r1, _, _, rfl, gr1, w.1, w.2, .inl ⟨"slot", .slot (b := true) LV (.slot (.int 1) (.inr ⟨1, rfl, .inr (by decide)⟩)), fun K1 c1 => ?_⟩⟩
    clear w
    clear gr1
    have LV := LV.same c1
    refine ⟨.ref x, rfl, (by show 2 ≤ sizeLine; decide), fun r2 hr2 => ?_⟩
    have off := LV.off hr2
    have dd := new_same (H := K1) (o := .lst [.int 0, .int 1]) hr2
    have LV := LV.same dd
    have gr2 : (upd K1 r2 (.lst [.int 0, .int 1])) r2 = some (.lst [.int 0, .int 1]) := upd_same
    generalize upd K1 r2 (.lst [.int 0, .int 1]) = M4 at dd gr2 LV ⊢
    clear dd
    have w := row_two gr2 (.int 0) (.int 1) ((szd_int (by decide)).mono (by decide) (by decide)) ((szd_int (by decide)).mono (by decide) (by decide))
    refine ⟨2, .ref x, r2, _, _, rfl, gr2, w.1, w.2, .inr (.inr ⟨[((0 : Nat) : Int), 1], _, rfl, .slot (ss := []) (s := ([0], 0)) (cs := []) LV ⟨by decide, by decide, by decide⟩ (by decide) off.1 off.2, fun K2 hG => ?_⟩)⟩
    obtain ⟨u1, LV⟩ := hG
    clear w off u1
    clear gr2
    refine ⟨.ref x, rfl, 10, 39, rfl, rfl, ⟨by decide, by decide, by decide⟩, (by show 1 ≤ sizeLine; decide), fun r3 hr3 => ?_⟩
    have off := LV.off hr3
    have dd := new_same (H := K2) (o := .lst [.int (10 ^ (39 : Int).toNat)]) hr3
    have LV := LV.same dd
    have gr3 : (upd K2 r3 (.lst [.int (10 ^ (39 : Int).toNat)])) r3 = some (.lst [.int (10 ^ (39 : Int).toNat)]) := upd_same
    generalize upd K2 r3 (.lst [.int (10 ^ (39 : Int).toNat)]) = M5 at dd gr3 LV ⊢
    clear dd
    have w := row_one gr3 (.int _) ((szd_int (by decide +kernel)).mono (by decide) (by decide))
    refine ⟨1, .ref x, r3, _, _, rfl, gr3, w.1, w.2, .inr (.inr ⟨[10 ^ (39 : Int).toNat], _, rfl, .turn (n := 10 ^ (39 : Int).toNat) LV (by decide +kernel) (by decide) off.1 off.2, fun K3 hG => ?_⟩)⟩
    obtain ⟨u1, LV⟩ := hG
    clear w off u1
    clear gr3
    refine ⟨(by show 3 ≤ sizeLine; decide), fun w1 hw1 => ?_⟩
    have dd := new_same (H := K3) (o := .lst [.str "slot", .str "fine", .str "fine"]) hw1
    have LV := LV.same dd
    have gw1 : (upd K3 w1 (.lst [.str "slot", .str "fine", .str "fine"])) w1 = some (.lst [.str "slot", .str "fine", .str "fine"]) := upd_same
    generalize upd K3 w1 (.lst [.str "slot", .str "fine", .str "fine"]) = M6 at dd gw1 LV ⊢
    clear dd
    refine ⟨.ref w1, rfl, (by show 3 ≤ sizeLine; decide), fun w2 hw2 => ?_⟩
    have dd := new_same (H := M6) (o := .lst [.str "slot", .str "fine", .str "fine"]) hw2
    have LV := LV.same dd
    have gw1 := dd _ _ gw1
    have gw2 : (upd M6 w2 (.lst [.str "slot", .str "fine", .str "fine"])) w2 = some (.lst [.str "slot", .str "fine", .str "fine"]) := upd_same
    generalize upd M6 w2 (.lst [.str "slot", .str "fine", .str "fine"]) = M7 at dd gw2 LV gw1 ⊢
    clear dd
    have wo : WsOk ([("slot" : Str), ("fine" : Str), ("fine" : Str)] : List Str) := fun z hz => by
      simp only [List.mem_cons, List.not_mem_nil, or_false, or_self] at hz
      rcases hz with rfl | rfl
      · decide +kernel
      · decide +kernel
    refine ⟨_, _, dp_strs (ws := [("slot" : Str), ("fine" : Str), ("fine" : Str)]) gw1, dp_strs (ws := [("slot" : Str), ("fine" : Str), ("fine" : Str)]) gw2, ws_shaped wo, ws_shaped wo, ?_⟩
    refine ⟨true, by rw [ws_refl wo], iteT ?_⟩
    clear gw1 gw2
    obtain ⟨_, e1⟩ := LV.ob
    refine ⟨.ref x, rfl, x, _, _, rfl, e1, _, x, D, S, L, [1], _, _, _, rfl, LV, fun v K4 c4 hv => ?_⟩
    obtain ⟨ss', s', es, rfl⟩ := hv
    obtain ⟨rfl, rfl⟩ := snoc_inj es
    clear es
    have el : lightV [1] (LC.on (LC.on ([0], 0) (.slot 0 1)) (.turn (10 ^ (39 : Int).toNat))).1 (LC.on (LC.on ([0], 0) (.slot 0 1)) (.turn (10 ^ (39 : Int).toNat))).2 = 1 := by decide +kernel
    rw [el]
    clear e1
    have LV := LV.same c4
    obtain ⟨_, e1⟩ := LV.ob
    refine ⟨.ref x, rfl, x, _, _, rfl, e1, _, x, D, S, L, [1], _, _, _, rfl, LV, fun v K5 c5 hv => ?_⟩
    have hv : v = .int 2 := hv
    subst hv
    clear e1
    have LV := LV.same c5
    refine ⟨2, rfl, by decide, by decide, (by show 2 ≤ sizeLine; decide), fun z1 hz1 => ?_⟩
    have dd := new_same (H := K5) (o := .lst [.int 1, .int 2]) hz1
    have LV := LV.same dd
    have gz1 : (upd K5 z1 (.lst [.int 1, .int 2])) z1 = some (.lst [.int 1, .int 2]) := upd_same
    generalize upd K5 z1 (.lst [.int 1, .int 2]) = M8 at dd gz1 LV ⊢
    clear dd
    refine ⟨(by show 2 ≤ sizeLine; decide), fun z2 hz2 => ?_⟩
    have dd := new_same (H := M8) (o := .lst [.int 1, .int 2]) hz2
    have LV := LV.same dd
    have gz1 := dd _ _ gz1
    have gz2 : (upd M8 z2 (.lst [.int 1, .int 2])) z2 = some (.lst [.int 1, .int 2]) := upd_same
    generalize upd M8 z2 (.lst [.int 1, .int 2]) = M9 at dd gz2 LV gz1 ⊢
    clear dd
    have wd : SeqAt.shaped (dI [1, 2]) = true := by decide +kernel
    have we : PyData.eqv (dI [1, 2]) (dI [1, 2]) = true := by decide +kernel
    refine ⟨dI [1, 2], dI [1, 2], dp_ints (SqL.of gz1), dp_ints (SqL.of gz2), wd, wd, ?_⟩
    rw [we]
    exact q _

end
/-! ### what the top has written, and the end -/
theorem all_mk {l : PySem.W.OpenLaw} {w : World} {K : PySem.W.Frag} {h : Heap} {mg : Str → Option Value} {fa : Addr} (X : K.In h) (G : h.Ns mainGlobals mg) (hfa : mg "law" = some (.ref fa))
    {C_LiveDiscs : Addr} (g_LiveDiscs : PySem.W.nsIn K mainGlobals "LiveDiscs" = some (some (.ref C_LiveDiscs))) (pg_LiveDiscs : PySem.W.plainGet K C_LiveDiscs Str.empty = true) (hd_LiveDiscs : PySem.W.hasDictIn K C_LiveDiscs = true) (po_LiveDiscs : PySem.W.plainOver K C_LiveDiscs = true) (sa_LiveDiscs : PySem.W.findIn K (.ref C_LiveDiscs) "__setattr__" = some (some (.builtin "object.__setattr__"))) (mk_LiveDiscs : PySem.W.makesIn K C_LiveDiscs = true) (kc_LiveDiscs : PySem.W.keepIn K (.ref C_LiveDiscs) = true)
    (ne_LiveDiscs : PySem.W.findIn K (.ref C_LiveDiscs) "__ne__" = some (some (.builtin "object.__ne__")))
    (ob_LiveDiscs : PySem.W.mroIn K C_LiveDiscs (.type "object") = some true)
    (ha_LiveDiscs : PySem.W.findIn K (.ref C_LiveDiscs) "__class__" = some (some (.builtin "object.__class__")))
    (hn_LiveDiscs : PySem.W.specialIn K (.builtin "object.__class__") "__get__" = some (some (.builtin "getset_descriptor.__get__")))
    (ht_LiveDiscs : PySem.W.takesIn K (.builtin "object.__class__") = some true)
    (x_LiveDiscs_disc : PySem.W.findIn K (.ref C_LiveDiscs) "_disc" = some none)
    (x_LiveDiscs_states : PySem.W.findIn K (.ref C_LiveDiscs) "_states" = some none)
    (x_LiveDiscs_log : PySem.W.findIn K (.ref C_LiveDiscs) "_log" = some none)
    {C_DiscError : Addr} (g_DiscError : PySem.W.nsIn K mainGlobals "DiscError" = some (some (.ref C_DiscError))) (kp_DiscError : PySem.W.keepIn K (.ref C_DiscError) = true)
    (hg_DiscError : PySem.W.findIn K (.ref C_DiscError) "__getattribute__" = some (some (.builtin "BaseException.__getattribute__"))) (hk_DiscError : PySem.W.findIn K (.ref C_DiscError) "__getattr__" = some none) (hs_DiscError : PySem.W.subIn K (.ref C_DiscError) (.type "BaseException") = some true) (hd_DiscError : PySem.W.hasDictIn K C_DiscError = true)
    (ha_DiscError : PySem.W.findIn K (.ref C_DiscError) "__class__" = some (some (.builtin "object.__class__"))) (hm_DiscError : PySem.W.mroIn K C_DiscError (.type "object") = some true)
    (x_DiscError : PySem.W.excIn K C_DiscError [.type "ValueError", .type "Exception", .type "BaseException", .type "object"] "ValueError.__new__" = true)
    {C_InvalidNumber : Addr} (g_InvalidNumber : PySem.W.nsIn K mainGlobals "InvalidNumber" = some (some (.ref C_InvalidNumber))) (kp_InvalidNumber : PySem.W.keepIn K (.ref C_InvalidNumber) = true)
    (hg_InvalidNumber : PySem.W.findIn K (.ref C_InvalidNumber) "__getattribute__" = some (some (.builtin "BaseException.__getattribute__"))) (hk_InvalidNumber : PySem.W.findIn K (.ref C_InvalidNumber) "__getattr__" = some none) (hs_InvalidNumber : PySem.W.subIn K (.ref C_InvalidNumber) (.type "BaseException") = some true) (hd_InvalidNumber : PySem.W.hasDictIn K C_InvalidNumber = true)
    (ha_InvalidNumber : PySem.W.findIn K (.ref C_InvalidNumber) "__class__" = some (some (.builtin "object.__class__"))) (hm_InvalidNumber : PySem.W.mroIn K C_InvalidNumber (.type "object") = some true)
    (x_InvalidNumber : PySem.W.excIn K C_InvalidNumber [.type "ValueError", .type "Exception", .type "BaseException", .type "object"] "ValueError.__new__" = true)
    {C_InvalidTurn : Addr} (g_InvalidTurn : PySem.W.nsIn K mainGlobals "InvalidTurn" = some (some (.ref C_InvalidTurn))) (kp_InvalidTurn : PySem.W.keepIn K (.ref C_InvalidTurn) = true)
    (hg_InvalidTurn : PySem.W.findIn K (.ref C_InvalidTurn) "__getattribute__" = some (some (.builtin "BaseException.__getattribute__"))) (hk_InvalidTurn : PySem.W.findIn K (.ref C_InvalidTurn) "__getattr__" = some none) (hs_InvalidTurn : PySem.W.subIn K (.ref C_InvalidTurn) (.type "BaseException") = some true) (hd_InvalidTurn : PySem.W.hasDictIn K C_InvalidTurn = true)
    (ha_InvalidTurn : PySem.W.findIn K (.ref C_InvalidTurn) "__class__" = some (some (.builtin "object.__class__"))) (hm_InvalidTurn : PySem.W.mroIn K C_InvalidTurn (.type "object") = some true)
    (x_InvalidTurn : PySem.W.excIn K C_InvalidTurn [.type "ValueError", .type "Exception", .type "BaseException", .type "object"] "ValueError.__new__" = true)
    {C_InvalidSlot : Addr} (g_InvalidSlot : PySem.W.nsIn K mainGlobals "InvalidSlot" = some (some (.ref C_InvalidSlot))) (kp_InvalidSlot : PySem.W.keepIn K (.ref C_InvalidSlot) = true)
    (hg_InvalidSlot : PySem.W.findIn K (.ref C_InvalidSlot) "__getattribute__" = some (some (.builtin "BaseException.__getattribute__"))) (hk_InvalidSlot : PySem.W.findIn K (.ref C_InvalidSlot) "__getattr__" = some none) (hs_InvalidSlot : PySem.W.subIn K (.ref C_InvalidSlot) (.type "BaseException") = some true) (hd_InvalidSlot : PySem.W.hasDictIn K C_InvalidSlot = true)
    (ha_InvalidSlot : PySem.W.findIn K (.ref C_InvalidSlot) "__class__" = some (some (.builtin "object.__class__"))) (hm_InvalidSlot : PySem.W.mroIn K C_InvalidSlot (.type "object") = some true)
    (x_InvalidSlot : PySem.W.excIn K C_InvalidSlot [.type "ValueError", .type "Exception", .type "BaseException", .type "object"] "ValueError.__new__" = true)
    {C_Impossible : Addr} (g_Impossible : PySem.W.nsIn K mainGlobals "Impossible" = some (some (.ref C_Impossible))) (kp_Impossible : PySem.W.keepIn K (.ref C_Impossible) = true)
    (hg_Impossible : PySem.W.findIn K (.ref C_Impossible) "__getattribute__" = some (some (.builtin "BaseException.__getattribute__"))) (hk_Impossible : PySem.W.findIn K (.ref C_Impossible) "__getattr__" = some none) (hs_Impossible : PySem.W.subIn K (.ref C_Impossible) (.type "BaseException") = some true) (hd_Impossible : PySem.W.hasDictIn K C_Impossible = true)
    (ha_Impossible : PySem.W.findIn K (.ref C_Impossible) "__class__" = some (some (.builtin "object.__class__"))) (hm_Impossible : PySem.W.mroIn K C_Impossible (.type "object") = some true)
    (x_Impossible : PySem.W.excIn K C_Impossible [.type "ValueError", .type "Exception", .type "BaseException", .type "object"] "ValueError.__new__" = true)
    {C_NothingToUndo : Addr} (g_NothingToUndo : PySem.W.nsIn K mainGlobals "NothingToUndo" = some (some (.ref C_NothingToUndo))) (kp_NothingToUndo : PySem.W.keepIn K (.ref C_NothingToUndo) = true)
    (hg_NothingToUndo : PySem.W.findIn K (.ref C_NothingToUndo) "__getattribute__" = some (some (.builtin "BaseException.__getattribute__"))) (hk_NothingToUndo : PySem.W.findIn K (.ref C_NothingToUndo) "__getattr__" = some none) (hs_NothingToUndo : PySem.W.subIn K (.ref C_NothingToUndo) (.type "BaseException") = some true) (hd_NothingToUndo : PySem.W.hasDictIn K C_NothingToUndo = true)
    (ha_NothingToUndo : PySem.W.findIn K (.ref C_NothingToUndo) "__class__" = some (some (.builtin "object.__class__"))) (hm_NothingToUndo : PySem.W.mroIn K C_NothingToUndo (.type "object") = some true)
    (x_NothingToUndo : PySem.W.excIn K C_NothingToUndo [.type "ValueError", .type "Exception", .type "BaseException", .type "object"] "ValueError.__new__" = true)
    {C_InvalidCommand : Addr} (g_InvalidCommand : PySem.W.nsIn K mainGlobals "InvalidCommand" = some (some (.ref C_InvalidCommand))) (kp_InvalidCommand : PySem.W.keepIn K (.ref C_InvalidCommand) = true)
    (hg_InvalidCommand : PySem.W.findIn K (.ref C_InvalidCommand) "__getattribute__" = some (some (.builtin "BaseException.__getattribute__"))) (hk_InvalidCommand : PySem.W.findIn K (.ref C_InvalidCommand) "__getattr__" = some none) (hs_InvalidCommand : PySem.W.subIn K (.ref C_InvalidCommand) (.type "BaseException") = some true) (hd_InvalidCommand : PySem.W.hasDictIn K C_InvalidCommand = true)
    (ha_InvalidCommand : PySem.W.findIn K (.ref C_InvalidCommand) "__class__" = some (some (.builtin "object.__class__"))) (hm_InvalidCommand : PySem.W.mroIn K C_InvalidCommand (.type "object") = some true)
    (x_InvalidCommand : PySem.W.excIn K C_InvalidCommand [.type "ValueError", .type "Exception", .type "BaseException", .type "object"] "ValueError.__new__" = true)
    {C_InvalidDisc : Addr} (g_InvalidDisc : PySem.W.nsIn K mainGlobals "InvalidDisc" = some (some (.ref C_InvalidDisc))) (kp_InvalidDisc : PySem.W.keepIn K (.ref C_InvalidDisc) = true)
    (hg_InvalidDisc : PySem.W.findIn K (.ref C_InvalidDisc) "__getattribute__" = some (some (.builtin "BaseException.__getattribute__"))) (hk_InvalidDisc : PySem.W.findIn K (.ref C_InvalidDisc) "__getattr__" = some none) (hs_InvalidDisc : PySem.W.subIn K (.ref C_InvalidDisc) (.type "BaseException") = some true) (hd_InvalidDisc : PySem.W.hasDictIn K C_InvalidDisc = true)
    (ha_InvalidDisc : PySem.W.findIn K (.ref C_InvalidDisc) "__class__" = some (some (.builtin "object.__class__"))) (hm_InvalidDisc : PySem.W.mroIn K C_InvalidDisc (.type "object") = some true)
    (ox_InvalidDisc : sdOex K C_InvalidDisc = true) (sa_InvalidDisc : PySem.W.findIn K (.ref C_InvalidDisc) "__setattr__" = some (some (.builtin "object.__setattr__"))) (ty_InvalidDisc : PySem.W.typeIn K (.ref C_InvalidDisc) = some (.type "type"))
    (nf_InvalidDisc_index : PySem.W.findIn K (.ref C_InvalidDisc) "index" = some none)
    {C_InvalidRow : Addr} (g_InvalidRow : PySem.W.nsIn K mainGlobals "InvalidRow" = some (some (.ref C_InvalidRow))) (kp_InvalidRow : PySem.W.keepIn K (.ref C_InvalidRow) = true)
    (hg_InvalidRow : PySem.W.findIn K (.ref C_InvalidRow) "__getattribute__" = some (some (.builtin "BaseException.__getattribute__"))) (hk_InvalidRow : PySem.W.findIn K (.ref C_InvalidRow) "__getattr__" = some none) (hs_InvalidRow : PySem.W.subIn K (.ref C_InvalidRow) (.type "BaseException") = some true) (hd_InvalidRow : PySem.W.hasDictIn K C_InvalidRow = true)
    (ha_InvalidRow : PySem.W.findIn K (.ref C_InvalidRow) "__class__" = some (some (.builtin "object.__class__"))) (hm_InvalidRow : PySem.W.mroIn K C_InvalidRow (.type "object") = some true)
    (ox_InvalidRow : sdOex K C_InvalidRow = true) (sa_InvalidRow : PySem.W.findIn K (.ref C_InvalidRow) "__setattr__" = some (some (.builtin "object.__setattr__"))) (ty_InvalidRow : PySem.W.typeIn K (.ref C_InvalidRow) = some (.type "type"))
    (nf_InvalidRow_index : PySem.W.findIn K (.ref C_InvalidRow) "index" = some none)
    {C_InvalidLights : Addr} (g_InvalidLights : PySem.W.nsIn K mainGlobals "InvalidLights" = some (some (.ref C_InvalidLights))) (kp_InvalidLights : PySem.W.keepIn K (.ref C_InvalidLights) = true)
    (hg_InvalidLights : PySem.W.findIn K (.ref C_InvalidLights) "__getattribute__" = some (some (.builtin "BaseException.__getattribute__"))) (hk_InvalidLights : PySem.W.findIn K (.ref C_InvalidLights) "__getattr__" = some none) (hs_InvalidLights : PySem.W.subIn K (.ref C_InvalidLights) (.type "BaseException") = some true) (hd_InvalidLights : PySem.W.hasDictIn K C_InvalidLights = true)
    (ha_InvalidLights : PySem.W.findIn K (.ref C_InvalidLights) "__class__" = some (some (.builtin "object.__class__"))) (hm_InvalidLights : PySem.W.mroIn K C_InvalidLights (.type "object") = some true)
    (ox_InvalidLights : sdOex K C_InvalidLights = true) (sa_InvalidLights : PySem.W.findIn K (.ref C_InvalidLights) "__setattr__" = some (some (.builtin "object.__setattr__"))) (ty_InvalidLights : PySem.W.typeIn K (.ref C_InvalidLights) = some (.type "type"))
    (nf_InvalidLights_index : PySem.W.findIn K (.ref C_InvalidLights) "index" = some none)
    {C_InvalidLooks : Addr} (g_InvalidLooks : PySem.W.nsIn K mainGlobals "InvalidLooks" = some (some (.ref C_InvalidLooks))) (kp_InvalidLooks : PySem.W.keepIn K (.ref C_InvalidLooks) = true)
    (hg_InvalidLooks : PySem.W.findIn K (.ref C_InvalidLooks) "__getattribute__" = some (some (.builtin "BaseException.__getattribute__"))) (hk_InvalidLooks : PySem.W.findIn K (.ref C_InvalidLooks) "__getattr__" = some none) (hs_InvalidLooks : PySem.W.subIn K (.ref C_InvalidLooks) (.type "BaseException") = some true) (hd_InvalidLooks : PySem.W.hasDictIn K C_InvalidLooks = true)
    (ha_InvalidLooks : PySem.W.findIn K (.ref C_InvalidLooks) "__class__" = some (some (.builtin "object.__class__"))) (hm_InvalidLooks : PySem.W.mroIn K C_InvalidLooks (.type "object") = some true)
    (ox_InvalidLooks : sdOex K C_InvalidLooks = true) (sa_InvalidLooks : PySem.W.findIn K (.ref C_InvalidLooks) "__setattr__" = some (some (.builtin "object.__setattr__"))) (ty_InvalidLooks : PySem.W.typeIn K (.ref C_InvalidLooks) = some (.type "type"))
    (nf_InvalidLooks_index : PySem.W.findIn K (.ref C_InvalidLooks) "index" = some none)
    {C_InvalidSyntax : Addr} (g_InvalidSyntax : PySem.W.nsIn K mainGlobals "InvalidSyntax" = some (some (.ref C_InvalidSyntax))) (kp_InvalidSyntax : PySem.W.keepIn K (.ref C_InvalidSyntax) = true)
    (hg_InvalidSyntax : PySem.W.findIn K (.ref C_InvalidSyntax) "__getattribute__" = some (some (.builtin "BaseException.__getattribute__"))) (hk_InvalidSyntax : PySem.W.findIn K (.ref C_InvalidSyntax) "__getattr__" = some none) (hs_InvalidSyntax : PySem.W.subIn K (.ref C_InvalidSyntax) (.type "BaseException") = some true) (hd_InvalidSyntax : PySem.W.hasDictIn K C_InvalidSyntax = true)
    (ha_InvalidSyntax : PySem.W.findIn K (.ref C_InvalidSyntax) "__class__" = some (some (.builtin "object.__class__"))) (hm_InvalidSyntax : PySem.W.mroIn K C_InvalidSyntax (.type "object") = some true)
    (ox_InvalidSyntax : sdOex K C_InvalidSyntax = true) (sa_InvalidSyntax : PySem.W.findIn K (.ref C_InvalidSyntax) "__setattr__" = some (some (.builtin "object.__setattr__"))) (ty_InvalidSyntax : PySem.W.typeIn K (.ref C_InvalidSyntax) = some (.type "type"))
    (nf_InvalidSyntax_word : PySem.W.findIn K (.ref C_InvalidSyntax) "word" = some none)
    (hn_E : PySem.W.specialIn K (.builtin "object.__class__") "__get__" = some (some (.builtin "getset_descriptor.__get__"))) (ht_E : PySem.W.takesIn K (.builtin "object.__class__") = some true)
    (rd_E : PySem.W.readsIn K C_DiscError (.type "type") = true) (ga_E : PySem.W.specialIn K (.ref C_DiscError) "__getattribute__" = some (some (.builtin "type.__getattribute__")))
    (vi_E : PySem.W.findCls K (.ref C_DiscError) (.type "type") "__init__" = some (.val (.builtin "ValueError.__init__")))
    (ks_DiscError : Kits K C_DiscError [C_InvalidNumber, C_InvalidTurn, C_InvalidSlot, C_Impossible, C_NothingToUndo, C_InvalidCommand, C_InvalidDisc, C_InvalidRow, C_InvalidLights, C_InvalidLooks, C_InvalidSyntax] [false, false, false, false, false, false, false, false, false, false, false]) (kb_DiscError : PySem.W.kitOne K (.ref C_DiscError) (.ref C_DiscError) = some true) (kv_DiscError : PySem.W.kitOne K (.ref C_DiscError) (.type "ValueError") = some true)
    (su_DiscError : PySem.W.subIn K (.ref C_DiscError) (.ref C_DiscError) = some true)
    (ks_InvalidNumber : Kits K C_InvalidNumber [C_InvalidNumber, C_InvalidTurn, C_InvalidSlot, C_Impossible, C_NothingToUndo, C_InvalidCommand, C_InvalidDisc, C_InvalidRow, C_InvalidLights, C_InvalidLooks, C_InvalidSyntax] [true, false, false, false, false, false, false, false, false, false, false]) (kb_InvalidNumber : PySem.W.kitOne K (.ref C_InvalidNumber) (.ref C_DiscError) = some true) (kv_InvalidNumber : PySem.W.kitOne K (.ref C_InvalidNumber) (.type "ValueError") = some true)
    (su_InvalidNumber : PySem.W.subIn K (.ref C_InvalidNumber) (.ref C_DiscError) = some true)
    (ks_InvalidTurn : Kits K C_InvalidTurn [C_InvalidNumber, C_InvalidTurn, C_InvalidSlot, C_Impossible, C_NothingToUndo, C_InvalidCommand, C_InvalidDisc, C_InvalidRow, C_InvalidLights, C_InvalidLooks, C_InvalidSyntax] [false, true, false, false, false, false, false, false, false, false, false]) (kb_InvalidTurn : PySem.W.kitOne K (.ref C_InvalidTurn) (.ref C_DiscError) = some true) (kv_InvalidTurn : PySem.W.kitOne K (.ref C_InvalidTurn) (.type "ValueError") = some true)
    (su_InvalidTurn : PySem.W.subIn K (.ref C_InvalidTurn) (.ref C_DiscError) = some true)
    (ks_InvalidSlot : Kits K C_InvalidSlot [C_InvalidNumber, C_InvalidTurn, C_InvalidSlot, C_Impossible, C_NothingToUndo, C_InvalidCommand, C_InvalidDisc, C_InvalidRow, C_InvalidLights, C_InvalidLooks, C_InvalidSyntax] [false, false, true, false, false, false, false, false, false, false, false]) (kb_InvalidSlot : PySem.W.kitOne K (.ref C_InvalidSlot) (.ref C_DiscError) = some true) (kv_InvalidSlot : PySem.W.kitOne K (.ref C_InvalidSlot) (.type "ValueError") = some true)
    (su_InvalidSlot : PySem.W.subIn K (.ref C_InvalidSlot) (.ref C_DiscError) = some true)
    (ks_Impossible : Kits K C_Impossible [C_InvalidNumber, C_InvalidTurn, C_InvalidSlot, C_Impossible, C_NothingToUndo, C_InvalidCommand, C_InvalidDisc, C_InvalidRow, C_InvalidLights, C_InvalidLooks, C_InvalidSyntax] [false, false, false, true, false, false, false, false, false, false, false]) (kb_Impossible : PySem.W.kitOne K (.ref C_Impossible) (.ref C_DiscError) = some true) (kv_Impossible : PySem.W.kitOne K (.ref C_Impossible) (.type "ValueError") = some true)
    (su_Impossible : PySem.W.subIn K (.ref C_Impossible) (.ref C_DiscError) = some true)
    (ks_NothingToUndo : Kits K C_NothingToUndo [C_InvalidNumber, C_InvalidTurn, C_InvalidSlot, C_Impossible, C_NothingToUndo, C_InvalidCommand, C_InvalidDisc, C_InvalidRow, C_InvalidLights, C_InvalidLooks, C_InvalidSyntax] [false, false, false, false, true, false, false, false, false, false, false]) (kb_NothingToUndo : PySem.W.kitOne K (.ref C_NothingToUndo) (.ref C_DiscError) = some true) (kv_NothingToUndo : PySem.W.kitOne K (.ref C_NothingToUndo) (.type "ValueError") = some true)
    (su_NothingToUndo : PySem.W.subIn K (.ref C_NothingToUndo) (.ref C_DiscError) = some true)
    (ks_InvalidCommand : Kits K C_InvalidCommand [C_InvalidNumber, C_InvalidTurn, C_InvalidSlot, C_Impossible, C_NothingToUndo, C_InvalidCommand, C_InvalidDisc, C_InvalidRow, C_InvalidLights, C_InvalidLooks, C_InvalidSyntax] [false, false, false, false, false, true, false, false, false, false, false]) (kb_InvalidCommand : PySem.W.kitOne K (.ref C_InvalidCommand) (.ref C_DiscError) = some true) (kv_InvalidCommand : PySem.W.kitOne K (.ref C_InvalidCommand) (.type "ValueError") = some true)
    (su_InvalidCommand : PySem.W.subIn K (.ref C_InvalidCommand) (.ref C_DiscError) = some true)
    (ks_InvalidDisc : Kits K C_InvalidDisc [C_InvalidNumber, C_InvalidTurn, C_InvalidSlot, C_Impossible, C_NothingToUndo, C_InvalidCommand, C_InvalidDisc, C_InvalidRow, C_InvalidLights, C_InvalidLooks, C_InvalidSyntax] [false, false, false, false, false, false, true, false, false, false, false]) (kb_InvalidDisc : PySem.W.kitOne K (.ref C_InvalidDisc) (.ref C_DiscError) = some true) (kv_InvalidDisc : PySem.W.kitOne K (.ref C_InvalidDisc) (.type "ValueError") = some true)
    (su_InvalidDisc : PySem.W.subIn K (.ref C_InvalidDisc) (.ref C_DiscError) = some true)
    (ks_InvalidRow : Kits K C_InvalidRow [C_InvalidNumber, C_InvalidTurn, C_InvalidSlot, C_Impossible, C_NothingToUndo, C_InvalidCommand, C_InvalidDisc, C_InvalidRow, C_InvalidLights, C_InvalidLooks, C_InvalidSyntax] [false, false, false, false, false, false, false, true, false, false, false]) (kb_InvalidRow : PySem.W.kitOne K (.ref C_InvalidRow) (.ref C_DiscError) = some true) (kv_InvalidRow : PySem.W.kitOne K (.ref C_InvalidRow) (.type "ValueError") = some true)
    (su_InvalidRow : PySem.W.subIn K (.ref C_InvalidRow) (.ref C_DiscError) = some true)
    (ks_InvalidLights : Kits K C_InvalidLights [C_InvalidNumber, C_InvalidTurn, C_InvalidSlot, C_Impossible, C_NothingToUndo, C_InvalidCommand, C_InvalidDisc, C_InvalidRow, C_InvalidLights, C_InvalidLooks, C_InvalidSyntax] [false, false, false, false, false, false, false, false, true, false, false]) (kb_InvalidLights : PySem.W.kitOne K (.ref C_InvalidLights) (.ref C_DiscError) = some true) (kv_InvalidLights : PySem.W.kitOne K (.ref C_InvalidLights) (.type "ValueError") = some true)
    (su_InvalidLights : PySem.W.subIn K (.ref C_InvalidLights) (.ref C_DiscError) = some true)
    (ks_InvalidLooks : Kits K C_InvalidLooks [C_InvalidNumber, C_InvalidTurn, C_InvalidSlot, C_Impossible, C_NothingToUndo, C_InvalidCommand, C_InvalidDisc, C_InvalidRow, C_InvalidLights, C_InvalidLooks, C_InvalidSyntax] [false, false, false, false, false, false, false, false, false, true, false]) (kb_InvalidLooks : PySem.W.kitOne K (.ref C_InvalidLooks) (.ref C_DiscError) = some true) (kv_InvalidLooks : PySem.W.kitOne K (.ref C_InvalidLooks) (.type "ValueError") = some true)
    (su_InvalidLooks : PySem.W.subIn K (.ref C_InvalidLooks) (.ref C_DiscError) = some true)
    (ks_InvalidSyntax : Kits K C_InvalidSyntax [C_InvalidNumber, C_InvalidTurn, C_InvalidSlot, C_Impossible, C_NothingToUndo, C_InvalidCommand, C_InvalidDisc, C_InvalidRow, C_InvalidLights, C_InvalidLooks, C_InvalidSyntax] [false, false, false, false, false, false, false, false, false, false, true]) (kb_InvalidSyntax : PySem.W.kitOne K (.ref C_InvalidSyntax) (.ref C_DiscError) = some true) (kv_InvalidSyntax : PySem.W.kitOne K (.ref C_InvalidSyntax) (.type "ValueError") = some true)
    (su_InvalidSyntax : PySem.W.subIn K (.ref C_InvalidSyntax) (.ref C_DiscError) = some true)
    (tb_E : PySem.W.typeIn K (.ref C_DiscError) = some (.type "type"))
    {f0 : Addr} {od0 an0 : Option Addr} {sl0 : Array (Option Value)} {oc0 kV0 dc0 pm0 cd0 ct0 : Value}
    (a0 : PySem.W.nsIn K mainGlobals "turned_list" = some (some (.ref f0))) (l0 : K.lookup f0 = some ⟨oc0, od0, .func (PySem.W.fnOf "turned_list" "turned_list" (defArgs s_turned_list) (defBody s_turned_list) (defScope s_turned_list) .none kV0 dc0 pm0 an0 cd0 ct0), sl0⟩) (c0 : PySem.W.codeIn K cd0 "turned_list" = true) (k0 : PySem.W.keepIn K (.ref f0) = true)
    {f1 : Addr} {od1 an1 : Option Addr} {sl1 : Array (Option Value)} {oc1 kV1 dc1 pm1 cd1 ct1 : Value}
    (a1 : PySem.W.nsIn K mainGlobals "mirrored_list" = some (some (.ref f1))) (l1 : K.lookup f1 = some ⟨oc1, od1, .func (PySem.W.fnOf "mirrored_list" "mirrored_list" (defArgs s_mirrored_list) (defBody s_mirrored_list) (defScope s_mirrored_list) .none kV1 dc1 pm1 an1 cd1 ct1), sl1⟩) (c1 : PySem.W.codeIn K cd1 "mirrored_list" = true) (k1 : PySem.W.keepIn K (.ref f1) = true)
    {f2 : Addr} {od2 an2 : Option Addr} {sl2 : Array (Option Value)} {oc2 kV2 dc2 pm2 cd2 ct2 : Value}
    (a2 : PySem.W.nsIn K mainGlobals "light_between" = some (some (.ref f2))) (l2 : K.lookup f2 = some ⟨oc2, od2, .func (PySem.W.fnOf "light_between" "light_between" (defArgs s_light_between) (defBody s_light_between) (defScope s_light_between) .none kV2 dc2 pm2 an2 cd2 ct2), sl2⟩) (c2 : PySem.W.codeIn K cd2 "light_between" = true) (k2 : PySem.W.keepIn K (.ref f2) = true)
    {f3 : Addr} {od3 an3 : Option Addr} {sl3 : Array (Option Value)} {oc3 kV3 dc3 pm3 cd3 ct3 : Value}
    (a3 : PySem.W.nsIn K mainGlobals "is_integer" = some (some (.ref f3))) (l3 : K.lookup f3 = some ⟨oc3, od3, .func (PySem.W.fnOf "is_integer" "is_integer" (defArgs s_is_integer) (defBody s_is_integer) (defScope s_is_integer) .none kV3 dc3 pm3 an3 cd3 ct3), sl3⟩) (c3 : PySem.W.codeIn K cd3 "is_integer" = true) (k3 : PySem.W.keepIn K (.ref f3) = true)
    {f4 : Addr} {od4 an4 : Option Addr} {sl4 : Array (Option Value)} {oc4 kV4 dc4 pm4 cd4 ct4 : Value}
    (a4 : PySem.W.nsIn K mainGlobals "has_slots" = some (some (.ref f4))) (l4 : K.lookup f4 = some ⟨oc4, od4, .func (PySem.W.fnOf "has_slots" "has_slots" (defArgs s_has_slots) (defBody s_has_slots) (defScope s_has_slots) .none kV4 dc4 pm4 an4 cd4 ct4), sl4⟩) (c4 : PySem.W.codeIn K cd4 "has_slots" = true) (k4 : PySem.W.keepIn K (.ref f4) = true)
    {f5 : Addr} {od5 an5 : Option Addr} {sl5 : Array (Option Value)} {oc5 kV5 dc5 pm5 cd5 ct5 : Value}
    (a5 : PySem.W.nsIn K mainGlobals "wrong_light" = some (some (.ref f5))) (l5 : K.lookup f5 = some ⟨oc5, od5, .func (PySem.W.fnOf "wrong_light" "wrong_light" (defArgs s_wrong_light) (defBody s_wrong_light) (defScope s_wrong_light) .none kV5 dc5 pm5 an5 cd5 ct5), sl5⟩) (c5 : PySem.W.codeIn K cd5 "wrong_light" = true) (k5 : PySem.W.keepIn K (.ref f5) = true)
    {f6 : Addr} {od6 an6 : Option Addr} {sl6 : Array (Option Value)} {oc6 kV6 dc6 pm6 cd6 ct6 : Value}
    (a6 : PySem.W.nsIn K mainGlobals "wrong_slot" = some (some (.ref f6))) (l6 : K.lookup f6 = some ⟨oc6, od6, .func (PySem.W.fnOf "wrong_slot" "wrong_slot" (defArgs s_wrong_slot) (defBody s_wrong_slot) (defScope s_wrong_slot) .none kV6 dc6 pm6 an6 cd6 ct6), sl6⟩) (c6 : PySem.W.codeIn K cd6 "wrong_slot" = true) (k6 : PySem.W.keepIn K (.ref f6) = true)
    {f7 : Addr} {od7 an7 : Option Addr} {sl7 : Array (Option Value)} {oc7 kV7 dc7 pm7 cd7 ct7 : Value}
    (a7 : PySem.W.nsIn K mainGlobals "check_disc" = some (some (.ref f7))) (l7 : K.lookup f7 = some ⟨oc7, od7, .func (PySem.W.fnOf "check_disc" "check_disc" (defArgs s_check_disc) (defBody s_check_disc) (defScope s_check_disc) .none kV7 dc7 pm7 an7 cd7 ct7), sl7⟩) (c7 : PySem.W.codeIn K cd7 "check_disc" = true) (k7 : PySem.W.keepIn K (.ref f7) = true)
    {f8 : Addr} {od8 an8 : Option Addr} {sl8 : Array (Option Value)} {oc8 kV8 dc8 pm8 cd8 ct8 : Value}
    (a8 : PySem.W.nsIn K mainGlobals "check_discs" = some (some (.ref f8))) (l8 : K.lookup f8 = some ⟨oc8, od8, .func (PySem.W.fnOf "check_discs" "check_discs" (defArgs s_check_discs) (defBody s_check_discs) (defScope s_check_discs) .none kV8 dc8 pm8 an8 cd8 ct8), sl8⟩) (c8 : PySem.W.codeIn K cd8 "check_discs" = true) (k8 : PySem.W.keepIn K (.ref f8) = true)
    {f9 : Addr} {od9 an9 : Option Addr} {sl9 : Array (Option Value)} {oc9 kV9 dc9 pm9 cd9 ct9 : Value}
    (a9 : PySem.W.nsIn K mainGlobals "check_turn" = some (some (.ref f9))) (l9 : K.lookup f9 = some ⟨oc9, od9, .func (PySem.W.fnOf "check_turn" "check_turn" (defArgs s_check_turn) (defBody s_check_turn) (defScope s_check_turn) .none kV9 dc9 pm9 an9 cd9 ct9), sl9⟩) (c9 : PySem.W.codeIn K cd9 "check_turn" = true) (k9 : PySem.W.keepIn K (.ref f9) = true)
    {f10 : Addr} {od10 an10 : Option Addr} {sl10 : Array (Option Value)} {oc10 kV10 dc10 pm10 cd10 ct10 : Value}
    (a10 : PySem.W.nsIn K mainGlobals "check_slot" = some (some (.ref f10))) (l10 : K.lookup f10 = some ⟨oc10, od10, .func (PySem.W.fnOf "check_slot" "check_slot" (defArgs s_check_slot) (defBody s_check_slot) (defScope s_check_slot) .none kV10 dc10 pm10 an10 cd10 ct10), sl10⟩) (c10 : PySem.W.codeIn K cd10 "check_slot" = true) (k10 : PySem.W.keepIn K (.ref f10) = true)
    {f11 : Addr} {od11 an11 : Option Addr} {sl11 : Array (Option Value)} {oc11 kV11 dc11 pm11 cd11 ct11 : Value}
    (a11 : PySem.W.nsIn K mainGlobals "check_between" = some (some (.ref f11))) (l11 : K.lookup f11 = some ⟨oc11, od11, .func (PySem.W.fnOf "check_between" "check_between" (defArgs s_check_between) (defBody s_check_between) (defScope s_check_between) .none kV11 dc11 pm11 an11 cd11 ct11), sl11⟩) (c11 : PySem.W.codeIn K cd11 "check_between" = true) (k11 : PySem.W.keepIn K (.ref f11) = true)
    {f12 : Addr} {od12 an12 : Option Addr} {sl12 : Array (Option Value)} {oc12 kV12 dc12 pm12 cd12 ct12 : Value}
    (a12 : PySem.W.nsIn K mainGlobals "_law_stock" = some (some (.ref f12))) (l12 : K.lookup f12 = some ⟨oc12, od12, .func (PySem.W.fnOf "_law_stock" "_law_stock" (defArgs s_law_stock) (defBody s_law_stock) (defScope s_law_stock) .none kV12 dc12 pm12 an12 cd12 ct12), sl12⟩) (c12 : PySem.W.codeIn K cd12 "_law_stock" = true) (k12 : PySem.W.keepIn K (.ref f12) = true)
    {f13 : Addr} {od13 an13 : Option Addr} {sl13 : Array (Option Value)} {oc13 kV13 dc13 pm13 cd13 ct13 : Value}
    (a13 : PySem.W.nsIn K mainGlobals "_law_draw" = some (some (.ref f13))) (l13 : K.lookup f13 = some ⟨oc13, od13, .func (PySem.W.fnOf "_law_draw" "_law_draw" (defArgs s_law_draw) (defBody s_law_draw) (defScope s_law_draw) .none kV13 dc13 pm13 an13 cd13 ct13), sl13⟩) (c13 : PySem.W.codeIn K cd13 "_law_draw" = true) (k13 : PySem.W.keepIn K (.ref f13) = true)
    {f14 : Addr} {od14 an14 : Option Addr} {sl14 : Array (Option Value)} {oc14 kV14 dc14 pm14 cd14 ct14 : Value}
    (a14 : PySem.W.nsIn K mainGlobals "_law_size" = some (some (.ref f14))) (l14 : K.lookup f14 = some ⟨oc14, od14, .func (PySem.W.fnOf "_law_size" "_law_size" (defArgs s_law_size) (defBody s_law_size) (defScope s_law_size) .none kV14 dc14 pm14 an14 cd14 ct14), sl14⟩) (c14 : PySem.W.codeIn K cd14 "_law_size" = true) (k14 : PySem.W.keepIn K (.ref f14) = true)
    {f15 : Addr} {od15 an15 : Option Addr} {sl15 : Array (Option Value)} {oc15 kV15 dc15 pm15 cd15 ct15 : Value}
    (a15 : PySem.W.nsIn K mainGlobals "_law_slots" = some (some (.ref f15))) (l15 : K.lookup f15 = some ⟨oc15, od15, .func (PySem.W.fnOf "_law_slots" "_law_slots" (defArgs s_law_slots) (defBody s_law_slots) (defScope s_law_slots) .none kV15 dc15 pm15 an15 cd15 ct15), sl15⟩) (c15 : PySem.W.codeIn K cd15 "_law_slots" = true) (k15 : PySem.W.keepIn K (.ref f15) = true)
    {f16 : Addr} {od16 an16 : Option Addr} {sl16 : Array (Option Value)} {oc16 kV16 dc16 pm16 cd16 ct16 : Value}
    (a16 : PySem.W.nsIn K mainGlobals "_law_seen" = some (some (.ref f16))) (l16 : K.lookup f16 = some ⟨oc16, od16, .func (PySem.W.fnOf "_law_seen" "_law_seen" (defArgs s_law_seen) (defBody s_law_seen) (defScope s_law_seen) .none kV16 dc16 pm16 an16 cd16 ct16), sl16⟩) (c16 : PySem.W.codeIn K cd16 "_law_seen" = true) (k16 : PySem.W.keepIn K (.ref f16) = true)
    {f17 : Addr} {od17 an17 : Option Addr} {sl17 : Array (Option Value)} {oc17 kV17 dc17 pm17 cd17 ct17 : Value}
    (a17 : PySem.W.nsIn K mainGlobals "_law_after" = some (some (.ref f17))) (l17 : K.lookup f17 = some ⟨oc17, od17, .func (PySem.W.fnOf "_law_after" "_law_after" (defArgs s_law_after) (defBody s_law_after) (defScope s_law_after) .none kV17 dc17 pm17 an17 cd17 ct17), sl17⟩) (c17 : PySem.W.codeIn K cd17 "_law_after" = true) (k17 : PySem.W.keepIn K (.ref f17) = true)
    {f18 : Addr} {od18 an18 : Option Addr} {sl18 : Array (Option Value)} {oc18 kV18 dc18 pm18 cd18 ct18 : Value}
    (a18 : PySem.W.nsIn K mainGlobals "_law_now" = some (some (.ref f18))) (l18 : K.lookup f18 = some ⟨oc18, od18, .func (PySem.W.fnOf "_law_now" "_law_now" (defArgs s_law_now) (defBody s_law_now) (defScope s_law_now) .none kV18 dc18 pm18 an18 cd18 ct18), sl18⟩) (c18 : PySem.W.codeIn K cd18 "_law_now" = true) (k18 : PySem.W.keepIn K (.ref f18) = true)
    {f19 : Addr} {od19 an19 : Option Addr} {sl19 : Array (Option Value)} {oc19 kV19 dc19 pm19 cd19 ct19 : Value}
    (a19 : PySem.W.nsIn K mainGlobals "_law_due" = some (some (.ref f19))) (l19 : K.lookup f19 = some ⟨oc19, od19, .func (PySem.W.fnOf "_law_due" "_law_due" (defArgs s_law_due) (defBody s_law_due) (defScope s_law_due) .none kV19 dc19 pm19 an19 cd19 ct19), sl19⟩) (c19 : PySem.W.codeIn K cd19 "_law_due" = true) (k19 : PySem.W.keepIn K (.ref f19) = true)
    {f20 : Addr} {od20 an20 : Option Addr} {sl20 : Array (Option Value)} {oc20 kV20 dc20 pm20 cd20 ct20 : Value}
    (a20 : PySem.W.nsIn K mainGlobals "_law_told" = some (some (.ref f20))) (l20 : K.lookup f20 = some ⟨oc20, od20, .func (PySem.W.fnOf "_law_told" "_law_told" (defArgs s_law_told) (defBody s_law_told) (defScope s_law_told) .none kV20 dc20 pm20 an20 cd20 ct20), sl20⟩) (c20 : PySem.W.codeIn K cd20 "_law_told" = true) (k20 : PySem.W.keepIn K (.ref f20) = true)
    {f21 : Addr} {od21 an21 : Option Addr} {sl21 : Array (Option Value)} {oc21 kV21 dc21 pm21 cd21 ct21 : Value}
    (a21 : PySem.W.nsIn K mainGlobals "_law_call" = some (some (.ref f21))) (l21 : K.lookup f21 = some ⟨oc21, od21, .func (PySem.W.fnOf "_law_call" "_law_call" (defArgs s_law_call) (defBody s_law_call) (defScope s_law_call) .none kV21 dc21 pm21 an21 cd21 ct21), sl21⟩) (c21 : PySem.W.codeIn K cd21 "_law_call" = true) (k21 : PySem.W.keepIn K (.ref f21) = true)
    {f22 : Addr} {od22 an22 : Option Addr} {sl22 : Array (Option Value)} {oc22 kV22 dc22 pm22 cd22 ct22 : Value}
    (a22 : PySem.W.nsIn K mainGlobals "_law_next" = some (some (.ref f22))) (l22 : K.lookup f22 = some ⟨oc22, od22, .func (PySem.W.fnOf "_law_next" "_law_next" (defArgs s_law_next) (defBody s_law_next) (defScope s_law_next) .none kV22 dc22 pm22 an22 cd22 ct22), sl22⟩) (c22 : PySem.W.codeIn K cd22 "_law_next" = true) (k22 : PySem.W.keepIn K (.ref f22) = true)
    {f23 : Addr} {od23 an23 : Option Addr} {sl23 : Array (Option Value)} {oc23 kV23 dc23 pm23 cd23 ct23 : Value}
    (a23 : PySem.W.nsIn K mainGlobals "_law_fault" = some (some (.ref f23))) (l23 : K.lookup f23 = some ⟨oc23, od23, .func (PySem.W.fnOf "_law_fault" "_law_fault" (defArgs s_law_fault) (defBody s_law_fault) (defScope s_law_fault) .none kV23 dc23 pm23 an23 cd23 ct23), sl23⟩) (c23 : PySem.W.codeIn K cd23 "_law_fault" = true) (k23 : PySem.W.keepIn K (.ref f23) = true)
    {f24 : Addr} {od24 an24 : Option Addr} {sl24 : Array (Option Value)} {oc24 kV24 dc24 pm24 cd24 ct24 : Value}
    (a24 : PySem.W.nsIn K mainGlobals "_law_raised" = some (some (.ref f24))) (l24 : K.lookup f24 = some ⟨oc24, od24, .func (PySem.W.fnOf "_law_raised" "_law_raised" (defArgs s_law_raised) (defBody s_law_raised) (defScope s_law_raised) .none kV24 dc24 pm24 an24 cd24 ct24), sl24⟩) (c24 : PySem.W.codeIn K cd24 "_law_raised" = true) (k24 : PySem.W.keepIn K (.ref f24) = true)
    {f25 : Addr} {od25 an25 : Option Addr} {sl25 : Array (Option Value)} {oc25 kV25 dc25 pm25 cd25 ct25 : Value}
    (a25 : PySem.W.nsIn K mainGlobals "_law_bad_discs" = some (some (.ref f25))) (l25 : K.lookup f25 = some ⟨oc25, od25, .func (PySem.W.fnOf "_law_bad_discs" "_law_bad_discs" (defArgs s_law_bad_discs) (defBody s_law_bad_discs) (defScope s_law_bad_discs) .none kV25 dc25 pm25 an25 cd25 ct25), sl25⟩) (c25 : PySem.W.codeIn K cd25 "_law_bad_discs" = true) (k25 : PySem.W.keepIn K (.ref f25) = true)
    {f26 : Addr} {od26 an26 : Option Addr} {sl26 : Array (Option Value)} {oc26 kV26 dc26 pm26 cd26 ct26 : Value}
    (a26 : PySem.W.nsIn K mainGlobals "_law_refused_right" = some (some (.ref f26))) (l26 : K.lookup f26 = some ⟨oc26, od26, .func (PySem.W.fnOf "_law_refused_right" "_law_refused_right" (defArgs s_law_refused_right) (defBody s_law_refused_right) (defScope s_law_refused_right) .none kV26 dc26 pm26 an26 cd26 ct26), sl26⟩) (c26 : PySem.W.codeIn K cd26 "_law_refused_right" = true) (k26 : PySem.W.keepIn K (.ref f26) = true)
    {f27 : Addr} {od27 an27 : Option Addr} {sl27 : Array (Option Value)} {oc27 kV27 dc27 pm27 cd27 ct27 : Value}
    (a27 : PySem.W.nsIn K mainGlobals "_law_right" = some (some (.ref f27))) (l27 : K.lookup f27 = some ⟨oc27, od27, .func (PySem.W.fnOf "_law_right" "_law_right" (defArgs s_law_right) (defBody s_law_right) (defScope s_law_right) .none kV27 dc27 pm27 an27 cd27 ct27), sl27⟩) (c27 : PySem.W.codeIn K cd27 "_law_right" = true) (k27 : PySem.W.keepIn K (.ref f27) = true)
    {f28 : Addr} {od28 an28 : Option Addr} {sl28 : Array (Option Value)} {oc28 kV28 dc28 pm28 cd28 ct28 : Value}
    (a28 : PySem.W.nsIn K mainGlobals "_law_made_right" = some (some (.ref f28))) (l28 : K.lookup f28 = some ⟨oc28, od28, .func (PySem.W.fnOf "_law_made_right" "_law_made_right" (defArgs s_law_made_right) (defBody s_law_made_right) (defScope s_law_made_right) .none kV28 dc28 pm28 an28 cd28 ct28), sl28⟩) (c28 : PySem.W.codeIn K cd28 "_law_made_right" = true) (k28 : PySem.W.keepIn K (.ref f28) = true)
    {f29 : Addr} {od29 an29 : Option Addr} {sl29 : Array (Option Value)} {oc29 kV29 dc29 pm29 cd29 ct29 : Value}
    (a29 : PySem.W.nsIn K mainGlobals "law" = some (some (.ref f29))) (l29 : K.lookup f29 = some ⟨oc29, od29, .func (PySem.W.fnOf "law" "law" (defArgs s_law) (defBody s_law) (defScope s_law) .none kV29 dc29 pm29 an29 cd29 ct29), sl29⟩) (c29 : PySem.W.codeIn K cd29 "law" = true) (k29 : PySem.W.keepIn K (.ref f29) = true)
    {f30 : Addr} {od30 an30 : Option Addr} {sl30 : Array (Option Value)} {oc30 kV30 dc30 pm30 cd30 ct30 : Value}
    (a30 : PySem.W.findIn K (.ref C_InvalidDisc) "__init__" = some (some (.ref f30))) (i30 : PySem.W.isFn K (.ref f30) = true)
    (l30 : K.lookup f30 = some ⟨oc30, od30, .func (PySem.W.fnOf "__init__" "InvalidDisc.__init__" (defArgs s_InvalidDisc_init) (defBody s_InvalidDisc_init) (defScope s_InvalidDisc_init) .none kV30 dc30 pm30 an30 cd30 ct30), sl30⟩) (c30 : PySem.W.codeIn K cd30 "InvalidDisc.__init__" = true) (k30 : PySem.W.keepIn K (.ref f30) = true)
    {f31 : Addr} {od31 an31 : Option Addr} {sl31 : Array (Option Value)} {oc31 kV31 dc31 pm31 cd31 ct31 : Value}
    (a31 : PySem.W.findIn K (.ref C_InvalidRow) "__init__" = some (some (.ref f31))) (i31 : PySem.W.isFn K (.ref f31) = true)
    (l31 : K.lookup f31 = some ⟨oc31, od31, .func (PySem.W.fnOf "__init__" "InvalidRow.__init__" (defArgs s_InvalidRow_init) (defBody s_InvalidRow_init) (defScope s_InvalidRow_init) .none kV31 dc31 pm31 an31 cd31 ct31), sl31⟩) (c31 : PySem.W.codeIn K cd31 "InvalidRow.__init__" = true) (k31 : PySem.W.keepIn K (.ref f31) = true)
    {f32 : Addr} {od32 an32 : Option Addr} {sl32 : Array (Option Value)} {oc32 kV32 dc32 pm32 cd32 ct32 : Value}
    (a32 : PySem.W.findIn K (.ref C_InvalidLights) "__init__" = some (some (.ref f32))) (i32 : PySem.W.isFn K (.ref f32) = true)
    (l32 : K.lookup f32 = some ⟨oc32, od32, .func (PySem.W.fnOf "__init__" "InvalidLights.__init__" (defArgs s_InvalidLights_init) (defBody s_InvalidLights_init) (defScope s_InvalidLights_init) .none kV32 dc32 pm32 an32 cd32 ct32), sl32⟩) (c32 : PySem.W.codeIn K cd32 "InvalidLights.__init__" = true) (k32 : PySem.W.keepIn K (.ref f32) = true)
    {f33 : Addr} {od33 an33 : Option Addr} {sl33 : Array (Option Value)} {oc33 kV33 dc33 pm33 cd33 ct33 : Value}
    (a33 : PySem.W.findIn K (.ref C_InvalidLooks) "__init__" = some (some (.ref f33))) (i33 : PySem.W.isFn K (.ref f33) = true)
    (l33 : K.lookup f33 = some ⟨oc33, od33, .func (PySem.W.fnOf "__init__" "InvalidLooks.__init__" (defArgs s_InvalidLooks_init) (defBody s_InvalidLooks_init) (defScope s_InvalidLooks_init) .none kV33 dc33 pm33 an33 cd33 ct33), sl33⟩) (c33 : PySem.W.codeIn K cd33 "InvalidLooks.__init__" = true) (k33 : PySem.W.keepIn K (.ref f33) = true)
    {f34 : Addr} {od34 an34 : Option Addr} {sl34 : Array (Option Value)} {oc34 kV34 dc34 pm34 cd34 ct34 : Value}
    (a34 : PySem.W.findIn K (.ref C_InvalidSyntax) "__init__" = some (some (.ref f34))) (i34 : PySem.W.isFn K (.ref f34) = true)
    (l34 : K.lookup f34 = some ⟨oc34, od34, .func (PySem.W.fnOf "__init__" "InvalidSyntax.__init__" (defArgs s_InvalidSyntax_init) (defBody s_InvalidSyntax_init) (defScope s_InvalidSyntax_init) .none kV34 dc34 pm34 an34 cd34 ct34), sl34⟩) (c34 : PySem.W.codeIn K cd34 "InvalidSyntax.__init__" = true) (k34 : PySem.W.keepIn K (.ref f34) = true)
    {f35 : Addr} {od35 an35 : Option Addr} {sl35 : Array (Option Value)} {oc35 kV35 dc35 pm35 cd35 ct35 : Value}
    (a35 : PySem.W.findIn K (.ref C_LiveDiscs) "__init__" = some (some (.ref f35))) (i35 : PySem.W.isFn K (.ref f35) = true)
    (l35 : K.lookup f35 = some ⟨oc35, od35, .func (PySem.W.fnOf "__init__" "LiveDiscs.__init__" (defArgs s_LiveDiscs_init) (defBody s_LiveDiscs_init) (defScope s_LiveDiscs_init) .none kV35 dc35 pm35 an35 cd35 ct35), sl35⟩) (c35 : PySem.W.codeIn K cd35 "LiveDiscs.__init__" = true) (k35 : PySem.W.keepIn K (.ref f35) = true)
    {f36 : Addr} {od36 an36 : Option Addr} {sl36 : Array (Option Value)} {oc36 kV36 dc36 pm36 cd36 ct36 : Value}
    {P36 : Addr} {rs36 : List Value} (a36 : PySem.W.findIn K (.ref C_LiveDiscs) "disc" = some (some (.ref P36))) (e36 : PySem.W.specialIn K (.ref P36) "__get__" = some (some (.builtin "property.__get__"))) (t36 : PySem.W.takesIn K (.ref P36) = some true) (r36 : PySem.W.recIn K P36 "property" = some (.ref f36 :: rs36))
    (l36 : K.lookup f36 = some ⟨oc36, od36, .func (PySem.W.fnOf "disc" "LiveDiscs.disc" (defArgs s_LiveDiscs_disc) (defBody s_LiveDiscs_disc) (defScope s_LiveDiscs_disc) .none kV36 dc36 pm36 an36 cd36 ct36), sl36⟩) (c36 : PySem.W.codeIn K cd36 "LiveDiscs.disc" = true) (k36 : PySem.W.keepIn K (.ref f36) = true)
    {f37 : Addr} {od37 an37 : Option Addr} {sl37 : Array (Option Value)} {oc37 kV37 dc37 pm37 cd37 ct37 : Value}
    {P37 : Addr} {rs37 : List Value} (a37 : PySem.W.findIn K (.ref C_LiveDiscs) "other" = some (some (.ref P37))) (e37 : PySem.W.specialIn K (.ref P37) "__get__" = some (some (.builtin "property.__get__"))) (t37 : PySem.W.takesIn K (.ref P37) = some true) (r37 : PySem.W.recIn K P37 "property" = some (.ref f37 :: rs37))
    (l37 : K.lookup f37 = some ⟨oc37, od37, .func (PySem.W.fnOf "other" "LiveDiscs.other" (defArgs s_LiveDiscs_other) (defBody s_LiveDiscs_other) (defScope s_LiveDiscs_other) .none kV37 dc37 pm37 an37 cd37 ct37), sl37⟩) (c37 : PySem.W.codeIn K cd37 "LiveDiscs.other" = true) (k37 : PySem.W.keepIn K (.ref f37) = true)
    {f38 : Addr} {od38 an38 : Option Addr} {sl38 : Array (Option Value)} {oc38 kV38 dc38 pm38 cd38 ct38 : Value}
    {P38 : Addr} {rs38 : List Value} (a38 : PySem.W.findIn K (.ref C_LiveDiscs) "turn" = some (some (.ref P38))) (e38 : PySem.W.specialIn K (.ref P38) "__get__" = some (some (.builtin "property.__get__"))) (t38 : PySem.W.takesIn K (.ref P38) = some true) (r38 : PySem.W.recIn K P38 "property" = some (.ref f38 :: rs38))
    (l38 : K.lookup f38 = some ⟨oc38, od38, .func (PySem.W.fnOf "turn" "LiveDiscs.turn" (defArgs s_LiveDiscs_turn) (defBody s_LiveDiscs_turn) (defScope s_LiveDiscs_turn) .none kV38 dc38 pm38 an38 cd38 ct38), sl38⟩) (c38 : PySem.W.codeIn K cd38 "LiveDiscs.turn" = true) (k38 : PySem.W.keepIn K (.ref f38) = true)
    {f39 : Addr} {od39 an39 : Option Addr} {sl39 : Array (Option Value)} {oc39 kV39 dc39 pm39 cd39 ct39 : Value}
    {P39 : Addr} {rs39 : List Value} (a39 : PySem.W.findIn K (.ref C_LiveDiscs) "light" = some (some (.ref P39))) (e39 : PySem.W.specialIn K (.ref P39) "__get__" = some (some (.builtin "property.__get__"))) (t39 : PySem.W.takesIn K (.ref P39) = some true) (r39 : PySem.W.recIn K P39 "property" = some (.ref f39 :: rs39))
    (l39 : K.lookup f39 = some ⟨oc39, od39, .func (PySem.W.fnOf "light" "LiveDiscs.light" (defArgs s_LiveDiscs_light) (defBody s_LiveDiscs_light) (defScope s_LiveDiscs_light) .none kV39 dc39 pm39 an39 cd39 ct39), sl39⟩) (c39 : PySem.W.codeIn K cd39 "LiveDiscs.light" = true) (k39 : PySem.W.keepIn K (.ref f39) = true)
    {f40 : Addr} {od40 an40 : Option Addr} {sl40 : Array (Option Value)} {oc40 kV40 dc40 pm40 cd40 ct40 : Value}
    {P40 : Addr} {rs40 : List Value} (a40 : PySem.W.findIn K (.ref C_LiveDiscs) "log" = some (some (.ref P40))) (e40 : PySem.W.specialIn K (.ref P40) "__get__" = some (some (.builtin "property.__get__"))) (t40 : PySem.W.takesIn K (.ref P40) = some true) (r40 : PySem.W.recIn K P40 "property" = some (.ref f40 :: rs40))
    (l40 : K.lookup f40 = some ⟨oc40, od40, .func (PySem.W.fnOf "log" "LiveDiscs.log" (defArgs s_LiveDiscs_log) (defBody s_LiveDiscs_log) (defScope s_LiveDiscs_log) .none kV40 dc40 pm40 an40 cd40 ct40), sl40⟩) (c40 : PySem.W.codeIn K cd40 "LiveDiscs.log" = true) (k40 : PySem.W.keepIn K (.ref f40) = true)
    {f41 : Addr} {od41 an41 : Option Addr} {sl41 : Array (Option Value)} {oc41 kV41 dc41 pm41 cd41 ct41 : Value}
    (a41 : PySem.W.findIn K (.ref C_LiveDiscs) "__len__" = some (some (.ref f41))) (i41 : PySem.W.isFn K (.ref f41) = true)
    (l41 : K.lookup f41 = some ⟨oc41, od41, .func (PySem.W.fnOf "__len__" "LiveDiscs.__len__" (defArgs s_LiveDiscs_len) (defBody s_LiveDiscs_len) (defScope s_LiveDiscs_len) .none kV41 dc41 pm41 an41 cd41 ct41), sl41⟩) (c41 : PySem.W.codeIn K cd41 "LiveDiscs.__len__" = true) (k41 : PySem.W.keepIn K (.ref f41) = true)
    {f42 : Addr} {od42 an42 : Option Addr} {sl42 : Array (Option Value)} {oc42 kV42 dc42 pm42 cd42 ct42 : Value}
    (a42 : PySem.W.findIn K (.ref C_LiveDiscs) "__eq__" = some (some (.ref f42))) (i42 : PySem.W.isFn K (.ref f42) = true)
    (l42 : K.lookup f42 = some ⟨oc42, od42, .func (PySem.W.fnOf "__eq__" "LiveDiscs.__eq__" (defArgs s_LiveDiscs_eq) (defBody s_LiveDiscs_eq) (defScope s_LiveDiscs_eq) .none kV42 dc42 pm42 an42 cd42 ct42), sl42⟩) (c42 : PySem.W.codeIn K cd42 "LiveDiscs.__eq__" = true) (k42 : PySem.W.keepIn K (.ref f42) = true)
    {f43 : Addr} {od43 an43 : Option Addr} {sl43 : Array (Option Value)} {oc43 kV43 dc43 pm43 cd43 ct43 : Value}
    (a43 : PySem.W.findIn K (.ref C_LiveDiscs) "turn_by" = some (some (.ref f43))) (i43 : PySem.W.isFn K (.ref f43) = true)
    (l43 : K.lookup f43 = some ⟨oc43, od43, .func (PySem.W.fnOf "turn_by" "LiveDiscs.turn_by" (defArgs s_LiveDiscs_turn_by) (defBody s_LiveDiscs_turn_by) (defScope s_LiveDiscs_turn_by) .none kV43 dc43 pm43 an43 cd43 ct43), sl43⟩) (c43 : PySem.W.codeIn K cd43 "LiveDiscs.turn_by" = true) (k43 : PySem.W.keepIn K (.ref f43) = true)
    {f44 : Addr} {od44 an44 : Option Addr} {sl44 : Array (Option Value)} {oc44 kV44 dc44 pm44 cd44 ct44 : Value}
    (a44 : PySem.W.findIn K (.ref C_LiveDiscs) "set_slot" = some (some (.ref f44))) (i44 : PySem.W.isFn K (.ref f44) = true)
    (l44 : K.lookup f44 = some ⟨oc44, od44, .func (PySem.W.fnOf "set_slot" "LiveDiscs.set_slot" (defArgs s_LiveDiscs_set_slot) (defBody s_LiveDiscs_set_slot) (defScope s_LiveDiscs_set_slot) .none kV44 dc44 pm44 an44 cd44 ct44), sl44⟩) (c44 : PySem.W.codeIn K cd44 "LiveDiscs.set_slot" = true) (k44 : PySem.W.keepIn K (.ref f44) = true)
    {f45 : Addr} {od45 an45 : Option Addr} {sl45 : Array (Option Value)} {oc45 kV45 dc45 pm45 cd45 ct45 : Value}
    (a45 : PySem.W.findIn K (.ref C_LiveDiscs) "mirror_other" = some (some (.ref f45))) (i45 : PySem.W.isFn K (.ref f45) = true)
    (l45 : K.lookup f45 = some ⟨oc45, od45, .func (PySem.W.fnOf "mirror_other" "LiveDiscs.mirror_other" (defArgs s_LiveDiscs_mirror_other) (defBody s_LiveDiscs_mirror_other) (defScope s_LiveDiscs_mirror_other) .none kV45 dc45 pm45 an45 cd45 ct45), sl45⟩) (c45 : PySem.W.codeIn K cd45 "LiveDiscs.mirror_other" = true) (k45 : PySem.W.keepIn K (.ref f45) = true)
    {f46 : Addr} {od46 an46 : Option Addr} {sl46 : Array (Option Value)} {oc46 kV46 dc46 pm46 cd46 ct46 : Value}
    (a46 : PySem.W.findIn K (.ref C_LiveDiscs) "undo" = some (some (.ref f46))) (i46 : PySem.W.isFn K (.ref f46) = true)
    (l46 : K.lookup f46 = some ⟨oc46, od46, .func (PySem.W.fnOf "undo" "LiveDiscs.undo" (defArgs s_LiveDiscs_undo) (defBody s_LiveDiscs_undo) (defScope s_LiveDiscs_undo) .none kV46 dc46 pm46 an46 cd46 ct46), sl46⟩) (c46 : PySem.W.codeIn K cd46 "LiveDiscs.undo" = true) (k46 : PySem.W.keepIn K (.ref f46) = true)
    {f47 : Addr} {od47 an47 : Option Addr} {sl47 : Array (Option Value)} {oc47 kV47 dc47 pm47 cd47 ct47 : Value}
    (a47 : PySem.W.findIn K (.ref C_LiveDiscs) "fork" = some (some (.ref f47))) (i47 : PySem.W.isFn K (.ref f47) = true)
    (l47 : K.lookup f47 = some ⟨oc47, od47, .func (PySem.W.fnOf "fork" "LiveDiscs.fork" (defArgs s_LiveDiscs_fork) (defBody s_LiveDiscs_fork) (defScope s_LiveDiscs_fork) .none kV47 dc47 pm47 an47 cd47 ct47), sl47⟩) (c47 : PySem.W.codeIn K cd47 "LiveDiscs.fork" = true) (k47 : PySem.W.keepIn K (.ref f47) = true)
    {f48 : Addr} {od48 an48 : Option Addr} {sl48 : Array (Option Value)} {oc48 kV48 dc48 pm48 cd48 ct48 : Value}
    (a48 : PySem.W.findIn K (.ref C_LiveDiscs) "_go_on" = some (some (.ref f48))) (i48 : PySem.W.isFn K (.ref f48) = true)
    (l48 : K.lookup f48 = some ⟨oc48, od48, .func (PySem.W.fnOf "_go_on" "LiveDiscs._go_on" (defArgs s_LiveDiscs_go_on) (defBody s_LiveDiscs_go_on) (defScope s_LiveDiscs_go_on) .none kV48 dc48 pm48 an48 cd48 ct48), sl48⟩) (c48 : PySem.W.codeIn K cd48 "LiveDiscs._go_on" = true) (k48 : PySem.W.keepIn K (.ref f48) = true)
    {t_MOST_SLOTS : Tok} (m_MOST_SLOTS : PySem.W.nsIn K mainGlobals "MOST_SLOTS" = some (some (.int (40) t_MOST_SLOTS)))
    {t_MOST_LIGHT : Tok} (m_MOST_LIGHT : PySem.W.nsIn K mainGlobals "MOST_LIGHT" = some (some (.int (1000000000000000000000000000000) t_MOST_LIGHT)))
    (z_ValueError : PySem.W.nsIn K mainGlobals "ValueError" = some none)
    (z_abs : PySem.W.nsIn K mainGlobals "abs" = some none)
    (z_bool : PySem.W.nsIn K mainGlobals "bool" = some none)
    (z_enumerate : PySem.W.nsIn K mainGlobals "enumerate" = some none)
    (z_int : PySem.W.nsIn K mainGlobals "int" = some none)
    (z_isinstance : PySem.W.nsIn K mainGlobals "isinstance" = some none)
    (z_len : PySem.W.nsIn K mainGlobals "len" = some none)
    (z_list : PySem.W.nsIn K mainGlobals "list" = some none)
    (z_max : PySem.W.nsIn K mainGlobals "max" = some none)
    (z_min : PySem.W.nsIn K mainGlobals "min" = some none)
    (z_property : PySem.W.nsIn K mainGlobals "property" = some none)
    (z_range : PySem.W.nsIn K mainGlobals "range" = some none)
    (z_repr : PySem.W.nsIn K mainGlobals "repr" = some none)
    (z_sum : PySem.W.nsIn K mainGlobals "sum" = some none)
    (z_zip : PySem.W.nsIn K mainGlobals "zip" = some none)
    : ∃ fd : FuncData, (∀ (s : Shared) (u : Value), BindsTo s fd ⟨[u], []⟩ [("script", u)]) ∧ ∀ base : Heap, K.In base → base.Ns mainGlobals mg → FnG l.prog w K mg base CX0 12 fa fd ["script"] (spLaw K) := by
  have e := hfa.symm.trans (PySem.W.mg_of X G a29)
  cases e
  have F0 := fun_mk (st := s_turned_list) l0 c0 k0
  have b0 := F0.binds (ps := ["items", "turn"]) fun _ _ _ _ _ _ us hl => match us, hl with | [_, _], _ => rfl
  have F1 := fun_mk (st := s_mirrored_list) l1 c1 k1
  have b1 := F1.binds (ps := ["items"]) fun _ _ _ _ _ _ us hl => match us, hl with | [_], _ => rfl
  have F2 := fun_mk (st := s_light_between) l2 c2 k2
  have b2 := F2.binds (ps := ["disc", "row", "turn"]) fun _ _ _ _ _ _ us hl => match us, hl with | [_, _, _], _ => rfl
  have F3 := fun_mk (st := s_is_integer) l3 c3 k3
  have b3 := F3.binds (ps := ["value"]) fun _ _ _ _ _ _ us hl => match us, hl with | [_], _ => rfl
  have F4 := fun_mk (st := s_has_slots) l4 c4 k4
  have b4 := F4.binds (ps := ["value"]) fun _ _ _ _ _ _ us hl => match us, hl with | [_], _ => rfl
  have F5 := fun_mk (st := s_wrong_light) l5 c5 k5
  have b5 := F5.binds (ps := ["items", "most"]) fun _ _ _ _ _ _ us hl => match us, hl with | [_, _], _ => rfl
  have F6 := fun_mk (st := s_wrong_slot) l6 c6 k6
  have b6 := F6.binds (ps := ["items"]) fun _ _ _ _ _ _ us hl => match us, hl with | [_], _ => rfl
  have F7 := fun_mk (st := s_check_disc) l7 c7 k7
  have b7 := F7.binds (ps := ["disc"]) fun _ _ _ _ _ _ us hl => match us, hl with | [_], _ => rfl
  have F8 := fun_mk (st := s_check_discs) l8 c8 k8
  have b8 := F8.binds (ps := ["disc", "other"]) fun _ _ _ _ _ _ us hl => match us, hl with | [_, _], _ => rfl
  have F9 := fun_mk (st := s_check_turn) l9 c9 k9
  have b9 := F9.binds (ps := ["turn"]) fun _ _ _ _ _ _ us hl => match us, hl with | [_], _ => rfl
  have F10 := fun_mk (st := s_check_slot) l10 c10 k10
  have b10 := F10.binds (ps := ["slot", "slots"]) fun _ _ _ _ _ _ us hl => match us, hl with | [_, _], _ => rfl
  have F11 := fun_mk (st := s_check_between) l11 c11 k11
  have b11 := F11.binds (ps := ["number", "least", "most"]) fun _ _ _ _ _ _ us hl => match us, hl with | [_, _, _], _ => rfl
  have F12 := fun_mk (st := s_law_stock) l12 c12 k12
  have b12 := F12.binds (ps := ["script"]) fun _ _ _ _ _ _ us hl => match us, hl with | [_], _ => rfl
  have F13 := fun_mk (st := s_law_draw) l13 c13 k13
  have b13 := F13.binds (ps := ["stock", "wide"]) fun _ _ _ _ _ _ us hl => match us, hl with | [_, _], _ => rfl
  have F14 := fun_mk (st := s_law_size) l14 c14 k14
  have b14 := F14.binds (ps := ["stock", "bound"]) fun _ _ _ _ _ _ us hl => match us, hl with | [_, _], _ => rfl
  have F15 := fun_mk (st := s_law_slots) l15 c15 k15
  have b15 := F15.binds (ps := ["stock", "size", "far"]) fun _ _ _ _ _ _ us hl => match us, hl with | [_, _, _], _ => rfl
  have F16 := fun_mk (st := s_law_seen) l16 c16 k16
  have b16 := F16.binds (ps := ["rows", "others", "spin"]) fun _ _ _ _ _ _ us hl => match us, hl with | [_, _, _], _ => rfl
  have F17 := fun_mk (st := s_law_after) l17 c17 k17
  have b17 := F17.binds (ps := ["now", "call"]) fun _ _ _ _ _ _ us hl => match us, hl with | [_, _], _ => rfl
  have F18 := fun_mk (st := s_law_now) l18 c18 k18
  have b18 := F18.binds (ps := ["begin", "done"]) fun _ _ _ _ _ _ us hl => match us, hl with | [_, _], _ => rfl
  have F19 := fun_mk (st := s_law_due) l19 c19 k19
  have b19 := F19.binds (ps := ["rows", "begin", "done"]) fun _ _ _ _ _ _ us hl => match us, hl with | [_, _, _], _ => rfl
  have F20 := fun_mk (st := s_law_told) l20 c20 k20
  have b20 := F20.binds (ps := ["one_here"]) fun _ _ _ _ _ _ us hl => match us, hl with | [_], _ => rfl
  have F21 := fun_mk (st := s_law_call) l21 c21 k21
  have b21 := F21.binds (ps := ["one_here", "call"]) fun _ _ _ _ _ _ us hl => match us, hl with | [_, _], _ => rfl
  have F22 := fun_mk (st := s_law_next) l22 c22 k22
  have b22 := F22.binds (ps := ["stock", "now", "far"]) fun _ _ _ _ _ _ us hl => match us, hl with | [_, _, _], _ => rfl
  have F23 := fun_mk (st := s_law_fault) l23 c23 k23
  have b23 := F23.binds (ps := ["error"]) fun _ _ _ _ _ _ us hl => match us, hl with | [_], _ => rfl
  have F24 := fun_mk (st := s_law_raised) l24 c24 k24
  have b24 := F24.binds (ps := ["door", "one_here", "row"]) fun _ _ _ _ _ _ us hl => match us, hl with | [_, _, _], _ => rfl
  have F25 := fun_mk (st := s_law_bad_discs) l25 c25 k25
  have b25 := F25.binds (ps := ["bound"]) fun _ _ _ _ _ _ us hl => match us, hl with | [_], _ => rfl
  have F26 := fun_mk (st := s_law_refused_right) l26 c26 k26
  have b26 := F26.binds (ps := ["one_here", "size"]) fun _ _ _ _ _ _ us hl => match us, hl with | [_, _], _ => rfl
  have F27 := fun_mk (st := s_law_right) l27 c27 k27
  have b27 := F27.binds (ps := ["stock", "size", "often"]) fun _ _ _ _ _ _ us hl => match us, hl with | [_, _, _], _ => rfl
  have F28 := fun_mk (st := s_law_made_right) l28 c28 k28
  have b28 := F28.binds (ps := ["rows", "others"]) fun _ _ _ _ _ _ us hl => match us, hl with | [_, _], _ => rfl
  have F29 := fun_mk (st := s_law) l29 c29 k29
  have F30 := fun_mk (st := s_InvalidDisc_init) l30 c30 k30
  have b30 := F30.binds (ps := ["self", "index"]) fun _ _ _ _ _ _ us hl => match us, hl with | [_, _], _ => rfl
  have F31 := fun_mk (st := s_InvalidRow_init) l31 c31 k31
  have b31 := F31.binds (ps := ["self", "index"]) fun _ _ _ _ _ _ us hl => match us, hl with | [_, _], _ => rfl
  have F32 := fun_mk (st := s_InvalidLights_init) l32 c32 k32
  have b32 := F32.binds (ps := ["self", "index"]) fun _ _ _ _ _ _ us hl => match us, hl with | [_, _], _ => rfl
  have F33 := fun_mk (st := s_InvalidLooks_init) l33 c33 k33
  have b33 := F33.binds (ps := ["self", "index"]) fun _ _ _ _ _ _ us hl => match us, hl with | [_, _], _ => rfl
  have F34 := fun_mk (st := s_InvalidSyntax_init) l34 c34 k34
  have b34 := F34.binds (ps := ["self", "word"]) fun _ _ _ _ _ _ us hl => match us, hl with | [_, _], _ => rfl
  have F35 := fun_mk (st := s_LiveDiscs_init) l35 c35 k35
  have b35 := F35.binds (ps := ["self", "disc", "other"]) fun _ _ _ _ _ _ us hl => match us, hl with | [_, _, _], _ => rfl
  have F36 := fun_mk (st := s_LiveDiscs_disc) l36 c36 k36
  have b36 := F36.binds (ps := ["self"]) fun _ _ _ _ _ _ us hl => match us, hl with | [_], _ => rfl
  have F37 := fun_mk (st := s_LiveDiscs_other) l37 c37 k37
  have b37 := F37.binds (ps := ["self"]) fun _ _ _ _ _ _ us hl => match us, hl with | [_], _ => rfl
  have F38 := fun_mk (st := s_LiveDiscs_turn) l38 c38 k38
  have b38 := F38.binds (ps := ["self"]) fun _ _ _ _ _ _ us hl => match us, hl with | [_], _ => rfl
  have F39 := fun_mk (st := s_LiveDiscs_light) l39 c39 k39
  have b39 := F39.binds (ps := ["self"]) fun _ _ _ _ _ _ us hl => match us, hl with | [_], _ => rfl
  have F40 := fun_mk (st := s_LiveDiscs_log) l40 c40 k40
  have b40 := F40.binds (ps := ["self"]) fun _ _ _ _ _ _ us hl => match us, hl with | [_], _ => rfl
  have F41 := fun_mk (st := s_LiveDiscs_len) l41 c41 k41
  have b41 := F41.binds (ps := ["self"]) fun _ _ _ _ _ _ us hl => match us, hl with | [_], _ => rfl
  have F42 := fun_mk (st := s_LiveDiscs_eq) l42 c42 k42
  have b42 := F42.binds (ps := ["self", "other"]) fun _ _ _ _ _ _ us hl => match us, hl with | [_, _], _ => rfl
  have F43 := fun_mk (st := s_LiveDiscs_turn_by) l43 c43 k43
  have b43 := F43.binds (ps := ["self", "turn"]) fun _ _ _ _ _ _ us hl => match us, hl with | [_, _], _ => rfl
  have F44 := fun_mk (st := s_LiveDiscs_set_slot) l44 c44 k44
  have b44 := F44.binds (ps := ["self", "slot", "light"]) fun _ _ _ _ _ _ us hl => match us, hl with | [_, _, _], _ => rfl
  have F45 := fun_mk (st := s_LiveDiscs_mirror_other) l45 c45 k45
  have b45 := F45.binds (ps := ["self"]) fun _ _ _ _ _ _ us hl => match us, hl with | [_], _ => rfl
  have F46 := fun_mk (st := s_LiveDiscs_undo) l46 c46 k46
  have b46 := F46.binds (ps := ["self"]) fun _ _ _ _ _ _ us hl => match us, hl with | [_], _ => rfl
  have F47 := fun_mk (st := s_LiveDiscs_fork) l47 c47 k47
  have b47 := F47.binds (ps := ["self"]) fun _ _ _ _ _ _ us hl => match us, hl with | [_], _ => rfl
  have F48 := fun_mk (st := s_LiveDiscs_go_on) l48 c48 k48
  have b48 := F48.binds (ps := ["self", "call", "other", "turn"]) fun _ _ _ _ _ _ us hl => match us, hl with | [_, _, _, _], _ => rfl
  exact ⟨_, fun s v => .of_eq rfl, fun base _ _ => ok_law ⟨f0, _, F0, b0, PySem.W.mg_of X G a0, f1, _, F1, b1, PySem.W.mg_of X G a1, f2, _, F2, b2, PySem.W.mg_of X G a2, f3, _, F3, b3, PySem.W.mg_of X G a3, f4, _, F4, b4, PySem.W.mg_of X G a4, f5, _, F5, b5, PySem.W.mg_of X G a5, f6, _, F6, b6, PySem.W.mg_of X G a6, f7, _, F7, b7, PySem.W.mg_of X G a7, f8, _, F8, b8, PySem.W.mg_of X G a8, f9, _, F9, b9, PySem.W.mg_of X G a9, f10, _, F10, b10, PySem.W.mg_of X G a10, f11, _, F11, b11, PySem.W.mg_of X G a11, f12, _, F12, b12, PySem.W.mg_of X G a12, f13, _, F13, b13, PySem.W.mg_of X G a13, f14, _, F14, b14, PySem.W.mg_of X G a14, f15, _, F15, b15, PySem.W.mg_of X G a15, f16, _, F16, b16, PySem.W.mg_of X G a16, f17, _, F17, b17, PySem.W.mg_of X G a17, f18, _, F18, b18, PySem.W.mg_of X G a18, f19, _, F19, b19, PySem.W.mg_of X G a19, f20, _, F20, b20, PySem.W.mg_of X G a20, f21, _, F21, b21, PySem.W.mg_of X G a21, f22, _, F22, b22, PySem.W.mg_of X G a22, f23, _, F23, b23, PySem.W.mg_of X G a23, f24, _, F24, b24, PySem.W.mg_of X G a24, f25, _, F25, b25, PySem.W.mg_of X G a25, f26, _, F26, b26, PySem.W.mg_of X G a26, f27, _, F27, b27, PySem.W.mg_of X G a27, f28, _, F28, b28, PySem.W.mg_of X G a28, fa, _, F29, PySem.W.mg_of X G a29, f30, _, F30, b30, f31, _, F31, b31, f32, _, F32, b32, f33, _, F33, b33, f34, _, F34, b34, f35, _, F35, b35, f36, _, F36, b36, f37, _, F37, b37, f38, _, F38, b38, f39, _, F39, b39, f40, _, F40, b40, f41, _, F41, b41, f42, _, F42, b42, f43, _, F43, b43, f44, _, F44, b44, f45, _, F45, b45, f46, _, F46, b46, f47, _, F47, b47, f48, _, F48, b48, C_LiveDiscs, PySem.W.mg_of X G g_LiveDiscs, ⟨pg_LiveDiscs, hd_LiveDiscs, po_LiveDiscs, sa_LiveDiscs⟩, ⟨mk_LiveDiscs, a35, i35, kc_LiveDiscs⟩, x_LiveDiscs_disc, x_LiveDiscs_states, x_LiveDiscs_log, P36, ⟨a36, e36, t36, _, r36⟩, P37, ⟨a37, e37, t37, _, r37⟩, P38, ⟨a38, e38, t38, _, r38⟩, P39, ⟨a39, e39, t39, _, r39⟩, P40, ⟨a40, e40, t40, _, r40⟩, ⟨a41, i41, k41⟩, ⟨a42, i42, k42⟩, ⟨a43, i43, k43⟩, ⟨a44, i44, k44⟩, ⟨a45, i45, k45⟩, ⟨a46, i46, k46⟩, ⟨a47, i47, k47⟩, ⟨a48, i48, k48⟩, ne_LiveDiscs, ob_LiveDiscs, ha_LiveDiscs, hn_LiveDiscs, ht_LiveDiscs, kitOne_self _ _, C_DiscError, PySem.W.mg_of X G g_DiscError, errC_of hg_DiscError hk_DiscError hs_DiscError hd_DiscError ha_DiscError hn_E ht_E hm_DiscError kp_DiscError, x_DiscError, C_InvalidNumber, PySem.W.mg_of X G g_InvalidNumber, errC_of hg_InvalidNumber hk_InvalidNumber hs_InvalidNumber hd_InvalidNumber ha_InvalidNumber hn_E ht_E hm_InvalidNumber kp_InvalidNumber, x_InvalidNumber, C_InvalidTurn, PySem.W.mg_of X G g_InvalidTurn, errC_of hg_InvalidTurn hk_InvalidTurn hs_InvalidTurn hd_InvalidTurn ha_InvalidTurn hn_E ht_E hm_InvalidTurn kp_InvalidTurn, x_InvalidTurn, C_InvalidSlot, PySem.W.mg_of X G g_InvalidSlot, errC_of hg_InvalidSlot hk_InvalidSlot hs_InvalidSlot hd_InvalidSlot ha_InvalidSlot hn_E ht_E hm_InvalidSlot kp_InvalidSlot, x_InvalidSlot, C_Impossible, PySem.W.mg_of X G g_Impossible, errC_of hg_Impossible hk_Impossible hs_Impossible hd_Impossible ha_Impossible hn_E ht_E hm_Impossible kp_Impossible, x_Impossible, C_NothingToUndo, PySem.W.mg_of X G g_NothingToUndo, errC_of hg_NothingToUndo hk_NothingToUndo hs_NothingToUndo hd_NothingToUndo ha_NothingToUndo hn_E ht_E hm_NothingToUndo kp_NothingToUndo, x_NothingToUndo, C_InvalidCommand, PySem.W.mg_of X G g_InvalidCommand, errC_of hg_InvalidCommand hk_InvalidCommand hs_InvalidCommand hd_InvalidCommand ha_InvalidCommand hn_E ht_E hm_InvalidCommand kp_InvalidCommand, x_InvalidCommand, C_InvalidDisc, PySem.W.mg_of X G g_InvalidDisc, errC_of hg_InvalidDisc hk_InvalidDisc hs_InvalidDisc hd_InvalidDisc ha_InvalidDisc hn_E ht_E hm_InvalidDisc kp_InvalidDisc, oex_of ox_InvalidDisc sa_InvalidDisc hs_InvalidDisc ty_InvalidDisc kp_InvalidDisc, a30, beq_iff_eq.mp i30, nf_InvalidDisc_index, C_InvalidRow, PySem.W.mg_of X G g_InvalidRow, errC_of hg_InvalidRow hk_InvalidRow hs_InvalidRow hd_InvalidRow ha_InvalidRow hn_E ht_E hm_InvalidRow kp_InvalidRow, oex_of ox_InvalidRow sa_InvalidRow hs_InvalidRow ty_InvalidRow kp_InvalidRow, a31, beq_iff_eq.mp i31, nf_InvalidRow_index, C_InvalidLights, PySem.W.mg_of X G g_InvalidLights, errC_of hg_InvalidLights hk_InvalidLights hs_InvalidLights hd_InvalidLights ha_InvalidLights hn_E ht_E hm_InvalidLights kp_InvalidLights, oex_of ox_InvalidLights sa_InvalidLights hs_InvalidLights ty_InvalidLights kp_InvalidLights, a32, beq_iff_eq.mp i32, nf_InvalidLights_index, C_InvalidLooks, PySem.W.mg_of X G g_InvalidLooks, errC_of hg_InvalidLooks hk_InvalidLooks hs_InvalidLooks hd_InvalidLooks ha_InvalidLooks hn_E ht_E hm_InvalidLooks kp_InvalidLooks, oex_of ox_InvalidLooks sa_InvalidLooks hs_InvalidLooks ty_InvalidLooks kp_InvalidLooks, a33, beq_iff_eq.mp i33, nf_InvalidLooks_index, C_InvalidSyntax, PySem.W.mg_of X G g_InvalidSyntax, errC_of hg_InvalidSyntax hk_InvalidSyntax hs_InvalidSyntax hd_InvalidSyntax ha_InvalidSyntax hn_E ht_E hm_InvalidSyntax kp_InvalidSyntax, oex_of ox_InvalidSyntax sa_InvalidSyntax hs_InvalidSyntax ty_InvalidSyntax kp_InvalidSyntax, a34, beq_iff_eq.mp i34, nf_InvalidSyntax_word, ⟨rd_E, ga_E⟩, vi_E, ks_DiscError, kb_DiscError, kv_DiscError, PySem.W.exm_ref hs_DiscError hd_DiscError tb_E su_DiscError, ks_InvalidNumber, kb_InvalidNumber, kv_InvalidNumber, PySem.W.exm_ref hs_DiscError hd_DiscError tb_E su_InvalidNumber, ks_InvalidTurn, kb_InvalidTurn, kv_InvalidTurn, PySem.W.exm_ref hs_DiscError hd_DiscError tb_E su_InvalidTurn, ks_InvalidSlot, kb_InvalidSlot, kv_InvalidSlot, PySem.W.exm_ref hs_DiscError hd_DiscError tb_E su_InvalidSlot, ks_Impossible, kb_Impossible, kv_Impossible, PySem.W.exm_ref hs_DiscError hd_DiscError tb_E su_Impossible, ks_NothingToUndo, kb_NothingToUndo, kv_NothingToUndo, PySem.W.exm_ref hs_DiscError hd_DiscError tb_E su_NothingToUndo, ks_InvalidCommand, kb_InvalidCommand, kv_InvalidCommand, PySem.W.exm_ref hs_DiscError hd_DiscError tb_E su_InvalidCommand, ks_InvalidDisc, kb_InvalidDisc, kv_InvalidDisc, PySem.W.exm_ref hs_DiscError hd_DiscError tb_E su_InvalidDisc, ks_InvalidRow, kb_InvalidRow, kv_InvalidRow, PySem.W.exm_ref hs_DiscError hd_DiscError tb_E su_InvalidRow, ks_InvalidLights, kb_InvalidLights, kv_InvalidLights, PySem.W.exm_ref hs_DiscError hd_DiscError tb_E su_InvalidLights, ks_InvalidLooks, kb_InvalidLooks, kv_InvalidLooks, PySem.W.exm_ref hs_DiscError hd_DiscError tb_E su_InvalidLooks, ks_InvalidSyntax, kb_InvalidSyntax, kv_InvalidSyntax, PySem.W.exm_ref hs_DiscError hd_DiscError tb_E su_InvalidSyntax, t_MOST_SLOTS, PySem.W.mg_of X G m_MOST_SLOTS, t_MOST_LIGHT, PySem.W.mg_of X G m_MOST_LIGHT, PySem.W.mg_none_of X G z_ValueError, PySem.W.mg_none_of X G z_abs, PySem.W.mg_none_of X G z_bool, PySem.W.mg_none_of X G z_enumerate, PySem.W.mg_none_of X G z_int, PySem.W.mg_none_of X G z_isinstance, PySem.W.mg_none_of X G z_len, PySem.W.mg_none_of X G z_list, PySem.W.mg_none_of X G z_max, PySem.W.mg_none_of X G z_min, PySem.W.mg_none_of X G z_property, PySem.W.mg_none_of X G z_range, PySem.W.mg_none_of X G z_repr, PySem.W.mg_none_of X G z_sum, PySem.W.mg_none_of X G z_zip⟩⟩
end Sd
open PySem PySem.W PyProof.Rows
set_option maxRecDepth 100000 in
set_option maxHeartbeats 0 in
theorem PySem.Challenge.cw_slitdiscs_k46_errors_of_live_discs_holds : PySem.Challenge.rw_slitdiscs_k46_errors_of_live_discs.Holds := by
  w_on; o_law; k_head; (case hw => w_witness2)
  k_fill
  refine Sd.gwalk (l := PySem.Challenge.rw_slitdiscs_k46_errors_of_live_discs) (n := 63) (k := 12) (x := "script") (sp := Sd.spLaw) rfl (by decide) rfl ⟨rfl, by decide, by decide⟩ (fun w h Y => PySem.W.kIn_of Y) ?F (fun _ _ a ns hl hS => ⟨a, ns, rfl, hS, hl, fun _ => rfl⟩)
  case F =>
    intro w mg fa h KX G hmg
    refine' Sd.all_mk KX G hmg ?g_LiveDiscs ?pg_LiveDiscs ?hd_LiveDiscs ?po_LiveDiscs ?sa_LiveDiscs ?mk_LiveDiscs ?kc_LiveDiscs ?ne_LiveDiscs ?ob_LiveDiscs ?ha_LiveDiscs ?hn_LiveDiscs ?ht_LiveDiscs ?x_LiveDiscs_disc ?x_LiveDiscs_states ?x_LiveDiscs_log ?g_DiscError ?kp_DiscError ?hg_DiscError ?hk_DiscError ?hs_DiscError ?hd_DiscError ?ha_DiscError ?hm_DiscError ?x_DiscError ?g_InvalidNumber ?kp_InvalidNumber ?hg_InvalidNumber ?hk_InvalidNumber ?hs_InvalidNumber ?hd_InvalidNumber ?ha_InvalidNumber ?hm_InvalidNumber ?x_InvalidNumber ?g_InvalidTurn ?kp_InvalidTurn ?hg_InvalidTurn ?hk_InvalidTurn ?hs_InvalidTurn ?hd_InvalidTurn ?ha_InvalidTurn ?hm_InvalidTurn ?x_InvalidTurn ?g_InvalidSlot ?kp_InvalidSlot ?hg_InvalidSlot ?hk_InvalidSlot ?hs_InvalidSlot ?hd_InvalidSlot ?ha_InvalidSlot ?hm_InvalidSlot ?x_InvalidSlot ?g_Impossible ?kp_Impossible ?hg_Impossible ?hk_Impossible ?hs_Impossible ?hd_Impossible ?ha_Impossible ?hm_Impossible ?x_Impossible ?g_NothingToUndo ?kp_NothingToUndo ?hg_NothingToUndo ?hk_NothingToUndo ?hs_NothingToUndo ?hd_NothingToUndo ?ha_NothingToUndo ?hm_NothingToUndo ?x_NothingToUndo ?g_InvalidCommand ?kp_InvalidCommand ?hg_InvalidCommand ?hk_InvalidCommand ?hs_InvalidCommand ?hd_InvalidCommand ?ha_InvalidCommand ?hm_InvalidCommand ?x_InvalidCommand ?g_InvalidDisc ?kp_InvalidDisc ?hg_InvalidDisc ?hk_InvalidDisc ?hs_InvalidDisc ?hd_InvalidDisc ?ha_InvalidDisc ?hm_InvalidDisc ?ox_InvalidDisc ?sa_InvalidDisc ?ty_InvalidDisc ?nf_InvalidDisc_index ?g_InvalidRow ?kp_InvalidRow ?hg_InvalidRow ?hk_InvalidRow ?hs_InvalidRow ?hd_InvalidRow ?ha_InvalidRow ?hm_InvalidRow ?ox_InvalidRow ?sa_InvalidRow ?ty_InvalidRow ?nf_InvalidRow_index ?g_InvalidLights ?kp_InvalidLights ?hg_InvalidLights ?hk_InvalidLights ?hs_InvalidLights ?hd_InvalidLights ?ha_InvalidLights ?hm_InvalidLights ?ox_InvalidLights ?sa_InvalidLights ?ty_InvalidLights ?nf_InvalidLights_index ?g_InvalidLooks ?kp_InvalidLooks ?hg_InvalidLooks ?hk_InvalidLooks ?hs_InvalidLooks ?hd_InvalidLooks ?ha_InvalidLooks ?hm_InvalidLooks ?ox_InvalidLooks ?sa_InvalidLooks ?ty_InvalidLooks ?nf_InvalidLooks_index ?g_InvalidSyntax ?kp_InvalidSyntax ?hg_InvalidSyntax ?hk_InvalidSyntax ?hs_InvalidSyntax ?hd_InvalidSyntax ?ha_InvalidSyntax ?hm_InvalidSyntax ?ox_InvalidSyntax ?sa_InvalidSyntax ?ty_InvalidSyntax ?nf_InvalidSyntax_word ?hn_E ?ht_E ?rd_E ?ga_E ?vi_E ?ks_DiscError ?kb_DiscError ?kv_DiscError ?su_DiscError ?ks_InvalidNumber ?kb_InvalidNumber ?kv_InvalidNumber ?su_InvalidNumber ?ks_InvalidTurn ?kb_InvalidTurn ?kv_InvalidTurn ?su_InvalidTurn ?ks_InvalidSlot ?kb_InvalidSlot ?kv_InvalidSlot ?su_InvalidSlot ?ks_Impossible ?kb_Impossible ?kv_Impossible ?su_Impossible ?ks_NothingToUndo ?kb_NothingToUndo ?kv_NothingToUndo ?su_NothingToUndo ?ks_InvalidCommand ?kb_InvalidCommand ?kv_InvalidCommand ?su_InvalidCommand ?ks_InvalidDisc ?kb_InvalidDisc ?kv_InvalidDisc ?su_InvalidDisc ?ks_InvalidRow ?kb_InvalidRow ?kv_InvalidRow ?su_InvalidRow ?ks_InvalidLights ?kb_InvalidLights ?kv_InvalidLights ?su_InvalidLights ?ks_InvalidLooks ?kb_InvalidLooks ?kv_InvalidLooks ?su_InvalidLooks ?ks_InvalidSyntax ?kb_InvalidSyntax ?kv_InvalidSyntax ?su_InvalidSyntax ?tb_E ?a0 ?l0 ?c0 ?k0 ?a1 ?l1 ?c1 ?k1 ?a2 ?l2 ?c2 ?k2 ?a3 ?l3 ?c3 ?k3 ?a4 ?l4 ?c4 ?k4 ?a5 ?l5 ?c5 ?k5 ?a6 ?l6 ?c6 ?k6 ?a7 ?l7 ?c7 ?k7 ?a8 ?l8 ?c8 ?k8 ?a9 ?l9 ?c9 ?k9 ?a10 ?l10 ?c10 ?k10 ?a11 ?l11 ?c11 ?k11 ?a12 ?l12 ?c12 ?k12 ?a13 ?l13 ?c13 ?k13 ?a14 ?l14 ?c14 ?k14 ?a15 ?l15 ?c15 ?k15 ?a16 ?l16 ?c16 ?k16 ?a17 ?l17 ?c17 ?k17 ?a18 ?l18 ?c18 ?k18 ?a19 ?l19 ?c19 ?k19 ?a20 ?l20 ?c20 ?k20 ?a21 ?l21 ?c21 ?k21 ?a22 ?l22 ?c22 ?k22 ?a23 ?l23 ?c23 ?k23 ?a24 ?l24 ?c24 ?k24 ?a25 ?l25 ?c25 ?k25 ?a26 ?l26 ?c26 ?k26 ?a27 ?l27 ?c27 ?k27 ?a28 ?l28 ?c28 ?k28 ?a29 ?l29 ?c29 ?k29 ?a30 ?i30 ?l30 ?c30 ?k30 ?a31 ?i31 ?l31 ?c31 ?k31 ?a32 ?i32 ?l32 ?c32 ?k32 ?a33 ?i33 ?l33 ?c33 ?k33 ?a34 ?i34 ?l34 ?c34 ?k34 ?a35 ?i35 ?l35 ?c35 ?k35 ?a36 ?e36 ?t36 ?r36 ?l36 ?c36 ?k36 ?a37 ?e37 ?t37 ?r37 ?l37 ?c37 ?k37 ?a38 ?e38 ?t38 ?r38 ?l38 ?c38 ?k38 ?a39 ?e39 ?t39 ?r39 ?l39 ?c39 ?k39 ?a40 ?e40 ?t40 ?r40 ?l40 ?c40 ?k40 ?a41 ?i41 ?l41 ?c41 ?k41 ?a42 ?i42 ?l42 ?c42 ?k42 ?a43 ?i43 ?l43 ?c43 ?k43 ?a44 ?i44 ?l44 ?c44 ?k44 ?a45 ?i45 ?l45 ?c45 ?k45 ?a46 ?i46 ?l46 ?c46 ?k46 ?a47 ?i47 ?l47 ?c47 ?k47 ?a48 ?i48 ?l48 ?c48 ?k48 ?m_MOST_SLOTS ?m_MOST_LIGHT ?z_ValueError ?z_abs ?z_bool ?z_enumerate ?z_int ?z_isinstance ?z_len ?z_list ?z_max ?z_min ?z_property ?z_range ?z_repr ?z_sum ?z_zip
    (case g_LiveDiscs => k_is)
    (case pg_LiveDiscs => k_is)
    (case hd_LiveDiscs => k_is)
    (case po_LiveDiscs => k_is)
    (case sa_LiveDiscs => k_is)
    (case mk_LiveDiscs => k_is)
    (case kc_LiveDiscs => k_is)
    (case ne_LiveDiscs => k_is)
    (case ob_LiveDiscs => k_is)
    (case ha_LiveDiscs => k_is)
    (case hn_LiveDiscs => k_is)
    (case ht_LiveDiscs => k_is)
    (case x_LiveDiscs_disc => k_is)
    (case x_LiveDiscs_states => k_is)
    (case x_LiveDiscs_log => k_is)
    (case g_DiscError => k_is)
    (case kp_DiscError => k_is)
    (case hg_DiscError => k_is)
    (case hk_DiscError => k_is)
    (case hs_DiscError => k_is)
    (case hd_DiscError => k_is)
    (case ha_DiscError => k_is)
    (case hm_DiscError => k_is)
    (case x_DiscError => k_exc)
    (case g_InvalidNumber => k_is)
    (case kp_InvalidNumber => k_is)
    (case hg_InvalidNumber => k_is)
    (case hk_InvalidNumber => k_is)
    (case hs_InvalidNumber => k_is)
    (case hd_InvalidNumber => k_is)
    (case ha_InvalidNumber => k_is)
    (case hm_InvalidNumber => k_is)
    (case x_InvalidNumber => k_exc)
    (case g_InvalidTurn => k_is)
    (case kp_InvalidTurn => k_is)
    (case hg_InvalidTurn => k_is)
    (case hk_InvalidTurn => k_is)
    (case hs_InvalidTurn => k_is)
    (case hd_InvalidTurn => k_is)
    (case ha_InvalidTurn => k_is)
    (case hm_InvalidTurn => k_is)
    (case x_InvalidTurn => k_exc)
    (case g_InvalidSlot => k_is)
    (case kp_InvalidSlot => k_is)
    (case hg_InvalidSlot => k_is)
    (case hk_InvalidSlot => k_is)
    (case hs_InvalidSlot => k_is)
    (case hd_InvalidSlot => k_is)
    (case ha_InvalidSlot => k_is)
    (case hm_InvalidSlot => k_is)
    (case x_InvalidSlot => k_exc)
    (case g_Impossible => k_is)
    (case kp_Impossible => k_is)
    (case hg_Impossible => k_is)
    (case hk_Impossible => k_is)
    (case hs_Impossible => k_is)
    (case hd_Impossible => k_is)
    (case ha_Impossible => k_is)
    (case hm_Impossible => k_is)
    (case x_Impossible => k_exc)
    (case g_NothingToUndo => k_is)
    (case kp_NothingToUndo => k_is)
    (case hg_NothingToUndo => k_is)
    (case hk_NothingToUndo => k_is)
    (case hs_NothingToUndo => k_is)
    (case hd_NothingToUndo => k_is)
    (case ha_NothingToUndo => k_is)
    (case hm_NothingToUndo => k_is)
    (case x_NothingToUndo => k_exc)
    (case g_InvalidCommand => k_is)
    (case kp_InvalidCommand => k_is)
    (case hg_InvalidCommand => k_is)
    (case hk_InvalidCommand => k_is)
    (case hs_InvalidCommand => k_is)
    (case hd_InvalidCommand => k_is)
    (case ha_InvalidCommand => k_is)
    (case hm_InvalidCommand => k_is)
    (case x_InvalidCommand => k_exc)
    (case g_InvalidDisc => k_is)
    (case kp_InvalidDisc => k_is)
    (case hg_InvalidDisc => k_is)
    (case hk_InvalidDisc => k_is)
    (case hs_InvalidDisc => k_is)
    (case hd_InvalidDisc => k_is)
    (case ha_InvalidDisc => k_is)
    (case hm_InvalidDisc => k_is)
    (case ox_InvalidDisc => kernel_rfl)
    (case sa_InvalidDisc => k_is)
    (case ty_InvalidDisc => k_is)
    (case nf_InvalidDisc_index => k_is)
    (case g_InvalidRow => k_is)
    (case kp_InvalidRow => k_is)
    (case hg_InvalidRow => k_is)
    (case hk_InvalidRow => k_is)
    (case hs_InvalidRow => k_is)
    (case hd_InvalidRow => k_is)
    (case ha_InvalidRow => k_is)
    (case hm_InvalidRow => k_is)
    (case ox_InvalidRow => kernel_rfl)
    (case sa_InvalidRow => k_is)
    (case ty_InvalidRow => k_is)
    (case nf_InvalidRow_index => k_is)
    (case g_InvalidLights => k_is)
    (case kp_InvalidLights => k_is)
    (case hg_InvalidLights => k_is)
    (case hk_InvalidLights => k_is)
    (case hs_InvalidLights => k_is)
    (case hd_InvalidLights => k_is)
    (case ha_InvalidLights => k_is)
    (case hm_InvalidLights => k_is)
    (case ox_InvalidLights => kernel_rfl)
    (case sa_InvalidLights => k_is)
    (case ty_InvalidLights => k_is)
    (case nf_InvalidLights_index => k_is)
    (case g_InvalidLooks => k_is)
    (case kp_InvalidLooks => k_is)
    (case hg_InvalidLooks => k_is)
    (case hk_InvalidLooks => k_is)
    (case hs_InvalidLooks => k_is)
    (case hd_InvalidLooks => k_is)
    (case ha_InvalidLooks => k_is)
    (case hm_InvalidLooks => k_is)
    (case ox_InvalidLooks => kernel_rfl)
    (case sa_InvalidLooks => k_is)
    (case ty_InvalidLooks => k_is)
    (case nf_InvalidLooks_index => k_is)
    (case g_InvalidSyntax => k_is)
    (case kp_InvalidSyntax => k_is)
    (case hg_InvalidSyntax => k_is)
    (case hk_InvalidSyntax => k_is)
    (case hs_InvalidSyntax => k_is)
    (case hd_InvalidSyntax => k_is)
    (case ha_InvalidSyntax => k_is)
    (case hm_InvalidSyntax => k_is)
    (case ox_InvalidSyntax => kernel_rfl)
    (case sa_InvalidSyntax => k_is)
    (case ty_InvalidSyntax => k_is)
    (case nf_InvalidSyntax_word => k_is)
    (case hn_E => k_is)
    (case ht_E => k_is)
    (case rd_E => k_is)
    (case ga_E => k_is)
    (case vi_E => k_is)
    (case ks_DiscError => unfold Sd.Kits; kernel_rfl)
    (case kb_DiscError => first | k_is | rfl)
    (case kv_DiscError => first | k_is | rfl)
    (case su_DiscError => k_is)
    (case ks_InvalidNumber => unfold Sd.Kits; kernel_rfl)
    (case kb_InvalidNumber => first | k_is | rfl)
    (case kv_InvalidNumber => first | k_is | rfl)
    (case su_InvalidNumber => k_is)
    (case ks_InvalidTurn => unfold Sd.Kits; kernel_rfl)
    (case kb_InvalidTurn => first | k_is | rfl)
    (case kv_InvalidTurn => first | k_is | rfl)
    (case su_InvalidTurn => k_is)
    (case ks_InvalidSlot => unfold Sd.Kits; kernel_rfl)
    (case kb_InvalidSlot => first | k_is | rfl)
    (case kv_InvalidSlot => first | k_is | rfl)
    (case su_InvalidSlot => k_is)
    (case ks_Impossible => unfold Sd.Kits; kernel_rfl)
    (case kb_Impossible => first | k_is | rfl)
    (case kv_Impossible => first | k_is | rfl)
    (case su_Impossible => k_is)
    (case ks_NothingToUndo => unfold Sd.Kits; kernel_rfl)
    (case kb_NothingToUndo => first | k_is | rfl)
    (case kv_NothingToUndo => first | k_is | rfl)
    (case su_NothingToUndo => k_is)
    (case ks_InvalidCommand => unfold Sd.Kits; kernel_rfl)
    (case kb_InvalidCommand => first | k_is | rfl)
    (case kv_InvalidCommand => first | k_is | rfl)
    (case su_InvalidCommand => k_is)
    (case ks_InvalidDisc => unfold Sd.Kits; kernel_rfl)
    (case kb_InvalidDisc => first | k_is | rfl)
    (case kv_InvalidDisc => first | k_is | rfl)
    (case su_InvalidDisc => k_is)
    (case ks_InvalidRow => unfold Sd.Kits; kernel_rfl)
    (case kb_InvalidRow => first | k_is | rfl)
    (case kv_InvalidRow => first | k_is | rfl)
    (case su_InvalidRow => k_is)
    (case ks_InvalidLights => unfold Sd.Kits; kernel_rfl)
    (case kb_InvalidLights => first | k_is | rfl)
    (case kv_InvalidLights => first | k_is | rfl)
    (case su_InvalidLights => k_is)
    (case ks_InvalidLooks => unfold Sd.Kits; kernel_rfl)
    (case kb_InvalidLooks => first | k_is | rfl)
    (case kv_InvalidLooks => first | k_is | rfl)
    (case su_InvalidLooks => k_is)
    (case ks_InvalidSyntax => unfold Sd.Kits; kernel_rfl)
    (case kb_InvalidSyntax => first | k_is | rfl)
    (case kv_InvalidSyntax => first | k_is | rfl)
    (case su_InvalidSyntax => k_is)
    (case tb_E => k_is)
    (case a0 => k_is)
    (case l0 => k_is)
    (case c0 => k_is)
    (case k0 => k_is)
    (case a1 => k_is)
    (case l1 => k_is)
    (case c1 => k_is)
    (case k1 => k_is)
    (case a2 => k_is)
    (case l2 => k_is)
    (case c2 => k_is)
    (case k2 => k_is)
    (case a3 => k_is)
    (case l3 => k_is)
    (case c3 => k_is)
    (case k3 => k_is)
    (case a4 => k_is)
    (case l4 => k_is)
    (case c4 => k_is)
    (case k4 => k_is)
    (case a5 => k_is)
    (case l5 => k_is)
    (case c5 => k_is)
    (case k5 => k_is)
    (case a6 => k_is)
    (case l6 => k_is)
    (case c6 => k_is)
    (case k6 => k_is)
    (case a7 => k_is)
    (case l7 => k_is)
    (case c7 => k_is)
    (case k7 => k_is)
    (case a8 => k_is)
    (case l8 => k_is)
    (case c8 => k_is)
    (case k8 => k_is)
    (case a9 => k_is)
    (case l9 => k_is)
    (case c9 => k_is)
    (case k9 => k_is)
    (case a10 => k_is)
    (case l10 => k_is)
    (case c10 => k_is)
    (case k10 => k_is)
    (case a11 => k_is)
    (case l11 => k_is)
    (case c11 => k_is)
    (case k11 => k_is)
    (case a12 => k_is)
    (case l12 => k_is)
    (case c12 => k_is)
    (case k12 => k_is)
    (case a13 => k_is)
    (case l13 => k_is)
    (case c13 => k_is)
    (case k13 => k_is)
    (case a14 => k_is)
    (case l14 => k_is)
    (case c14 => k_is)
    (case k14 => k_is)
    (case a15 => k_is)
    (case l15 => k_is)
    (case c15 => k_is)
    (case k15 => k_is)
    (case a16 => k_is)
    (case l16 => k_is)
    (case c16 => k_is)
    (case k16 => k_is)
    (case a17 => k_is)
    (case l17 => k_is)
    (case c17 => k_is)
    (case k17 => k_is)
    (case a18 => k_is)
    (case l18 => k_is)
    (case c18 => k_is)
    (case k18 => k_is)
    (case a19 => k_is)
    (case l19 => k_is)
    (case c19 => k_is)
    (case k19 => k_is)
    (case a20 => k_is)
    (case l20 => k_is)
    (case c20 => k_is)
    (case k20 => k_is)
    (case a21 => k_is)
    (case l21 => k_is)
    (case c21 => k_is)
    (case k21 => k_is)
    (case a22 => k_is)
    (case l22 => k_is)
    (case c22 => k_is)
    (case k22 => k_is)
    (case a23 => k_is)
    (case l23 => k_is)
    (case c23 => k_is)
    (case k23 => k_is)
    (case a24 => k_is)
    (case l24 => k_is)
    (case c24 => k_is)
    (case k24 => k_is)
    (case a25 => k_is)
    (case l25 => k_is)
    (case c25 => k_is)
    (case k25 => k_is)
    (case a26 => k_is)
    (case l26 => k_is)
    (case c26 => k_is)
    (case k26 => k_is)
    (case a27 => k_is)
    (case l27 => k_is)
    (case c27 => k_is)
    (case k27 => k_is)
    (case a28 => k_is)
    (case l28 => k_is)
    (case c28 => k_is)
    (case k28 => k_is)
    (case a29 => k_is)
    (case l29 => k_is)
    (case c29 => k_is)
    (case k29 => k_is)
    (case a30 => k_is)
    (case i30 => k_is)
    (case l30 => k_is)
    (case c30 => k_is)
    (case k30 => k_is)
    (case a31 => k_is)
    (case i31 => k_is)
    (case l31 => k_is)
    (case c31 => k_is)
    (case k31 => k_is)
    (case a32 => k_is)
    (case i32 => k_is)
    (case l32 => k_is)
    (case c32 => k_is)
    (case k32 => k_is)
    (case a33 => k_is)
    (case i33 => k_is)
    (case l33 => k_is)
    (case c33 => k_is)
    (case k33 => k_is)
    (case a34 => k_is)
    (case i34 => k_is)
    (case l34 => k_is)
    (case c34 => k_is)
    (case k34 => k_is)
    (case a35 => k_is)
    (case i35 => k_is)
    (case l35 => k_is)
    (case c35 => k_is)
    (case k35 => k_is)
    (case a36 => k_is)
    (case e36 => k_is)
    (case t36 => k_is)
    (case r36 => k_is)
    (case l36 => k_is)
    (case c36 => k_is)
    (case k36 => k_is)
    (case a37 => k_is)
    (case e37 => k_is)
    (case t37 => k_is)
    (case r37 => k_is)
    (case l37 => k_is)
    (case c37 => k_is)
    (case k37 => k_is)
    (case a38 => k_is)
    (case e38 => k_is)
    (case t38 => k_is)
    (case r38 => k_is)
    (case l38 => k_is)
    (case c38 => k_is)
    (case k38 => k_is)
    (case a39 => k_is)
    (case e39 => k_is)
    (case t39 => k_is)
    (case r39 => k_is)
    (case l39 => k_is)
    (case c39 => k_is)
    (case k39 => k_is)
    (case a40 => k_is)
    (case e40 => k_is)
    (case t40 => k_is)
    (case r40 => k_is)
    (case l40 => k_is)
    (case c40 => k_is)
    (case k40 => k_is)
    (case a41 => k_is)
    (case i41 => k_is)
    (case l41 => k_is)
    (case c41 => k_is)
    (case k41 => k_is)
    (case a42 => k_is)
    (case i42 => k_is)
    (case l42 => k_is)
    (case c42 => k_is)
    (case k42 => k_is)
    (case a43 => k_is)
    (case i43 => k_is)
    (case l43 => k_is)
    (case c43 => k_is)
    (case k43 => k_is)
    (case a44 => k_is)
    (case i44 => k_is)
    (case l44 => k_is)
    (case c44 => k_is)
    (case k44 => k_is)
    (case a45 => k_is)
    (case i45 => k_is)
    (case l45 => k_is)
    (case c45 => k_is)
    (case k45 => k_is)
    (case a46 => k_is)
    (case i46 => k_is)
    (case l46 => k_is)
    (case c46 => k_is)
    (case k46 => k_is)
    (case a47 => k_is)
    (case i47 => k_is)
    (case l47 => k_is)
    (case c47 => k_is)
    (case k47 => k_is)
    (case a48 => k_is)
    (case i48 => k_is)
    (case l48 => k_is)
    (case c48 => k_is)
    (case k48 => k_is)
    (case m_MOST_SLOTS => k_is)
    (case m_MOST_LIGHT => k_is)
    (case z_ValueError => k_is)
    (case z_abs => k_is)
    (case z_bool => k_is)
    (case z_enumerate => k_is)
    (case z_int => k_is)
    (case z_isinstance => k_is)
    (case z_len => k_is)
    (case z_list => k_is)
    (case z_max => k_is)
    (case z_min => k_is)
    (case z_property => k_is)
    (case z_range => k_is)
    (case z_repr => k_is)
    (case z_sum => k_is)
    (case z_zip => k_is)
