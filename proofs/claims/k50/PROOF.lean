import PyProof.Rows.All
import Wide.All
import OpenK.AllK
import Wide.FinOn
import HandS.Comp
import HandS.Ends
import HandS.Iter
import HandS.Words
import HandS.WordsList
import HandS.Walk
import HandS.IsInst
import HandS.Wide
import PyProof.ReprRoads
import PyProof.ReprLen
import KE.DataMinMax
import HandS.Deep
import HandS.Walk
import HandS.DictComp
import HandS.Iter
import HandS.WordsDict
import HandS.More
import HandS.Style
import HandS.Conv
import HandS.Text
import HandS.StrMore
import HandS.FStr
import HandS.IterVal
import PyProof.StrBlock2
import HandS.SetFor
import HandS.TupSets
import HandS.Strs
import KE.GoesEnum
import HandS.RaiseMore
import KE.KEqSeq
import HandS.WideBits
import HandS.ExcInit
import HandS.ExcIs
import HandS.ExcField
import HandS.ExcValue
import HandS.ClsMeth
import HandS.MakeKwOnly
import KE.KExcIs
import HandS.Hot
import HandS.HotCalls
import HandS.ExcInitHot
import HandS.WordsExc
import HandS.ExcCtx
import HandS.TryOnly
import PySem.Challenge.RW_slitdiscs_k50_errors_of_texts
set_option Elab.async false
set_option linter.all false
set_option maxRecDepth 100000
set_option maxHeartbeats 4000000
/-! Own layer over HandS: defs that run where no repr is under way (FnG), repr of data, powers of great ints, calls by keywords alone. -/
namespace Sd
open PySem PySem.Spec PyProof.Rows L2

/-! ### a def called where no repr is under way -/
structure FnG (P : Program) (w : World) (K : PySem.W.Frag) (mg : Str → Option Value) (base : Heap) (C : CXT) (k : Nat) (f : Addr) (fd : FuncData) (ps : List Str) (sp : Sp) : Prop where
  cnt : ∀ {vs H Q E}, sp vs H Q E → vs.length = ps.length
  go : ∀ (A : Around) (out : List Env) (s : Shared) (H : Hp) (ar : Args) (us : List Value) (vs : List V) (Q : VK) (E : XK), A.guards = some [] → Room k A →
    Env0 P w K mg base A out s H → BindsTo s fd ar (ps.zip us) → Vals vs us → sp vs H Q E →
    codeAny (model P w) A (.call (.ref f) ar) (CR C out P w H s Q E) s

section
variable {P : Program} {w : World} {K : PySem.W.Frag} {mg : Str → Option Value} {base : Heap} {C : CXT}
theorem gfn_of {k : Nat} {f : Addr} {nm ql : Str} {pms : Arguments} {bd : List Stmt} {sc : Scope} {v1 v2 v3 v4 cd v5 oc : Value} {an od : Option Addr}
    {osl : Array (Option Value)} {N ps : List Str} {sp : Sp}
    (lk : K.lookup f = some ⟨oc, od, .func (PySem.W.fnOf nm ql pms bd sc v1 v2 v3 v4 an cd v5), osl⟩)
    (hc : PySem.W.codeIn K cd ql = true) (S : FnScope N ps sc)
    (len : ∀ vs H Q E, sp vs H Q E → vs.length = ps.length)
    (hb : ∀ (A : Around) (out : List Env) (s : Shared) (H : Hp) (vs : List V) (Q : VK) (E : XK), A.guards = some [] →
      Room k (A.deeper (envOfC ql sc s.heap.objs.size f cd)) → sp vs H Q E →
      ∃ t, PSs (cxOf C P w K mg base N ql sc f cd A out s H E) bd t ∧ t { nx := fun _ H' => Q .non H', rt := Q } (start N vs) H) :
    FnG P w K mg base C (k + 1) f (PySem.W.fnOf nm ql pms bd sc v1 v2 v3 v4 an cd v5) ps sp := by
  refine ⟨fun h => len _ _ _ _ h, fun A out s H ar us vs Q E hg hr e0 hbd r hsp => ?_⟩
  have n1 := len _ _ _ _ hsp
  have kx : K.In s.heap := e0.mod.kin.keeps fun b o e => (e0.bs b o e).1
  have li : s.heap.NoLimit := e0.mod.nolimit.keeps fun b o e => (e0.bs b o e).1
  refine codeAny_call_function hr.depth (kx _ _ lk) rfl S.co S.gen rfl (PySem.W.codeRec_of kx hc) (hbd _ _ _ _ ?_)
  refine wpAny_newFunctionEnv_cells S.kind (fun ⟨n, v⟩ hy => ?_) fun env he s1 x => ?_
  · rcases S.par n (List.of_mem_zip hy).1 with q | q
    · exact .inl q
    · exact .inr ⟨q, PySem.W.cellsFrom_some _ _ _ (.inl q)⟩
  subst he
  refine ⟨li.keeps x.toInCall.keep, codeAny_func ?_⟩
  obtain ⟨t, ht, hq⟩ := hb A out s H vs Q E hg (hr.deeper _) hsp
  have I0 := inv_start (CX := C) (E := E) S hr.hd e0 n1 r x
  refine wpAny_mono (ht.run [] s1 (start N vs) H _ I0 hq) (fun fl s' hs => ?_) fun e s' hs => hs
  cases fl with
  | next =>
    obtain ⟨σ', H', J, q⟩ := hs
    exact ⟨.non, H', J.os, J.bare, J.base, J.hok, rfl, q⟩
  | ret u =>
    obtain ⟨v, σ', H', J, rv, q⟩ := hs
    exact ⟨v, H', J.os, J.bare, J.base, J.hok, rv, q⟩
  | brk => exact hs.elim fun _ ⟨_, _, q⟩ => False.elim q
  | cont => exact hs.elim fun _ ⟨_, _, q⟩ => False.elim q

/-- as Fun.ok, where no repr is under way -/
theorem okG {x ql : Str} {st : Stmt} {f : Addr} {fd : FuncData} {N ps : List Str} {k : Nat} {sp : Sp} (F : Fun K x ql st f fd) (S : FnScope N ps (defScope st))
    (len : ∀ vs H Q E, sp vs H Q E → vs.length = ps.length)
    (hb : ∀ (cd : Value) (A : Around) (out : List Env) (s : Shared) (H : Hp) (vs : List V) (Q : VK) (E : XK), A.guards = some [] →
      Room k (A.deeper (envOfC ql (defScope st) s.heap.objs.size f cd)) → sp vs H Q E →
      ∃ t, PSs (cxOf CX0 P w K mg base N ql (defScope st) f cd A out s H E).nox (defBody st) t ∧ t { nx := fun _ H' => Q .non H', rt := Q } (start N vs) H) :
    FnG P w K mg base CX0 (k + 1) f fd ps sp := by
  obtain ⟨oc, od, v2, v3, v4, an, cd, v5, osl, rfl, lk, hc⟩ := F.ex
  refine gfn_of lk hc S len fun A out s H vs Q E hg hr hsp => ?_
  obtain ⟨t, h, q⟩ := hb cd A out s H vs Q E hg hr hsp
  exact ⟨t, h.nox, q⟩
end

section
variable {X : Cx} {C : CXT} {k : Nat} {f : Addr} {fd : FuncData} {ps ks : List Str} {sp : Sp} {dvs : List V} {ds : List Value} {E : XK} {x : Str} {p pos : Pos} {e : Expr} {es : List Expr} {kws : List Keyword} {t tk : TA}
theorem endG {pins : List (Addr × Obj)} {σ : L2.St} {H : Hp} {s s' : Shared} {Q : VK} {r : Result} (hx : Passes C X E) (I : Inv X pins σ H s) (h : CR C X.stack X.prog X.w H s Q E r s') :
    (match r with | .ok (.ret u) => EP X pins σ Q u s' | .ok _ => False | .error e => X.xe e s') := by
  cases r with
  | error e => exact hx pins σ H s e s' I h
  | ok fl =>
    cases fl with
    | ret u => exact I.after h
    | next => exact h
    | brk => exact h
    | cont => exact h
theorem goG {pins : List (Addr × Obj)} {σ : L2.St} {H : Hp} {s : Shared} {Q : VK} {us : List Value} {vs : List V} (F : FnG X.prog X.w X.K X.mg X.base C k f fd ps sp) (hA : X.A.guards = some []) (hr : Room k X.A)
    (hb : Binds X.K fd ps ds) (hd : Vals dvs ds) (hx : Passes C X E) (I : Inv X pins σ H s) (r : Vals vs us) (h : sp (vs ++ dvs) H Q E) :
    wpAny (model X.prog X.w) X.A (call (.ref f) us) (EP X pins σ Q) X.xe s := by
  have r2 := r.append hd
  have n2 : (us ++ ds).length = ps.length := r2.length.symm.trans (F.cnt h)
  refine wpAny_call (codeAny_mono (F.go X.A X.stack s H ⟨us, []⟩ _ _ Q E hA hr I.env0 (hb s us I.kIn n2) r2 h) fun r s' hq => ?_)
  have z := endG hx I hq
  cases r with
  | error e => exact z
  | ok fl => cases fl <;> exact z
/-- f(e, ..) where no repr is under way -/
theorem pe_callG (F : FnG X.prog X.w X.K X.mg X.base C k f fd ps sp) (hA : X.A.guards = some []) (hr : Room k X.A) (hg : Gl X x) (hm : X.mg x = some (.ref f)) (hk : PySem.W.keepIn X.K (.ref f) = true)
    (hb : Binds X.K fd ps ds) (hd : Vals dvs ds) (hx : Passes C X E) (ha : PA X (e :: es) t) (hdb : (x == ("__debug__" : Str)) = false := by decide)
    (he : starEach (e :: es) X.env = (false, eval e X.env) :: starEach es X.env := by rfl) (hpl : (backTo pos (starEach es X.env)).any (·.1) = false := by rfl) :
    PE X (.Call (.Name x p) (e :: es) [] pos) (tCall sp dvs E t) := by
  refine ⟨fun pins s σ H Q I h => wpAny_Call_Name_kw (ld_glob I hg hm ?_ hdb)⟩
  refine PySem.W.callWith_K (h₀ := X.base) I.ok.mod.kin hk (thn (ha.run pos pins s σ H _ I h) fun us s1 z => ?_) he hpl
  obtain ⟨vs, H1, I1, r, q⟩ := z
  exact ⟨I1.kIn, goG F hA hr hb hd hx I1 r q⟩
/-- f(k = v, ..): keywords alone -/
def tCallW (sp : Sp) (gV : List V → List V) (E : XK) (tk : TA) : TE := fun σ H Q => tk σ H fun zs H2 => sp (gV zs) H2 Q E
variable {g : List Value → List Value → List Value} {gV : List V → List V → List V}
theorem pe_callW (F : FnOk X.prog X.w X.K X.mg X.base C k f fd ps sp) (hr : Room k X.A) (hg : Gl X x) (hm : X.mg x = some (.ref f)) (hk : PySem.W.keepIn X.K (.ref f) = true) (hb : KBinds X.K fd ps ks g gV) (hx : Passes C X E)
    (hkw : PK X kws tk) (hall : (backToKw pos (keywordEach kws X.env)).all (·.1.isSome) = true := by rfl) (hks : (backToKw pos (keywordEach kws X.env)).filterMap (·.1) = ks := by rfl)
    (hdb : (x == ("__debug__" : Str)) = false := by decide)
    (hpl : ((backTo pos (starEach [] X.env)).any (·.1) || (backToKw pos (keywordEach kws X.env)).any (·.1.isNone)) = false := by rfl) :
    PE X (.Call (.Name x p) [] kws pos) (tCallW sp (gV []) E tk) := by
  refine ⟨fun pins s σ H Q I h => wpAny_Call_Name_kw (ld_glob I hg hm ?_ hdb)⟩
  refine PySem.W.callWith_KW0 (h₀ := X.base) I.ok.mod.kin hk hall (thn (hkw.run pos pins s σ H _ I h) fun ws s2 z => ?_) hpl
  obtain ⟨zs, H2, I2, rz, q2⟩ := z
  refine ⟨I2.kIn, ?_⟩
  rw [hks]
  exact run_fnk F hr hb hx I2 .nil rz q2
end

/-! ### the law's call -/
theorem glaw {P : Program} {w : World} {K : PySem.W.Frag} {mg mb : Str → Option Value} {k : Nat} {fa a : Addr} {fd : FuncData} {x : Str} {sp : Sp} {s1 : Shared} {vs : List Value} {ns : List Int}
    (kx : K.In s1.heap) (hn : s1.heap.Ns mainGlobals mg) (hb : s1.heap.Ns builtinsNs mb) (hbb : ∀ x : Str, x ≠ "__name__" → mb x = bootBuiltins x) (hlim : s1.heap.NoLimit) (hgs : s1.gens = #[])
    (ha : s1.heap.get? a = some { cls := .type "list", data := .seq vs.toArray }) (hi : IntsAre vs ns) (hl : ns.length ≤ sizeLine) (hr : Room k callerA)
    (F : ∀ base : Heap, K.In base → base.Ns mainGlobals mg → FnG P w K mg base CX0 k fa fd [x] sp) (hbind : ∀ (s : Shared) (u : Value), BindsTo s fd ⟨[u], []⟩ [(x, u)])
    (hsp : ∀ H : Hp, SqL K H a (ns.map V.int) → sp [.ref a] H (fun v _ => v = .bl true) E0) :
    codeAny (model P w) callerA (.call (.ref fa) ⟨[.ref a], []⟩) (fun r s' => r = .ok (.ret (.bool true)) ∧ OldK s1.heap s'.heap ∧ s'.os = s1.os ∧ AllBare s'.gens) s1 := by
  have rv := vals_ints hi
  have nv := hi.length
  -- the abstract heap: the script, locked, unless the module itself holds it
  have main : ∀ H : Hp, (∀ b, H b = none ∨ (b = a ∧ H b = some (.frz { cls := .type "list", data := .seq vs.toArray } (.lst (ns.map V.int))))) → (H a ≠ none → K.lookup a = none) →
      SqL K H a (ns.map V.int) → HOk P w H s1.heap →
      codeAny (model P w) callerA (.call (.ref fa) ⟨[.ref a], []⟩) (fun r s' => r = .ok (.ret (.bool true)) ∧ OldK s1.heap s'.heap ∧ s'.os = s1.os ∧ AllBare s'.gens) s1 := by
    intro H hO hK hS hok
    have out : ∀ {b : Addr} {o : Obj}, s1.heap.get? b = some o → (b = a → H b = none) → (hidT s1.heap H).get? b = some o := fun {b o} e n => hidT_get e (by
      rcases hO b with z | ⟨z, _⟩
      · exact z
      · exact n z)
    have dct : ∀ {b : Addr} {m : Str → Option Value}, s1.heap.Ns b m → (hidT s1.heap H).Ns b m := fun {b m} ⟨o, es, ep, e, d, r⟩ => ⟨o, es, ep, out e (fun z => by
      subst z
      rw [ha] at e
      cases e
      cases (show Data.seq vs.toArray _ = Data.dict es ep from d)), d, r⟩
    have kb : K.In (hidT s1.heap H) := fun b o e => out (kx b o e) fun z => by
      subst z
      cases q : H b with
      | none => rfl
      | some u =>
        rw [hK (by rw [q]; exact fun z => nomatch z)] at e
        cases e
    have md : Mod K mg (hidT s1.heap H) := ⟨kb, dct hn, ⟨mb, dct hb, hbb⟩, let ⟨mc, h1, h2⟩ := hlim; ⟨mc, dct h1, h2⟩⟩
    have en : Env0 P w K mg (hidT s1.heap H) callerA [] s1 H := ⟨rfl, md, fun b o e => of_hidT e, Nat.le_of_eq (hidT_size _ _), trivial, fun b z => (List.not_mem_nil z).elim, hok, .of_eq hgs⟩
    refine codeAny_mono ((F _ kb (dct hn)).go callerA [] s1 H ⟨[.ref a], []⟩ [.ref a] [.ref a] _ _ rfl hr en (hbind s1 (.ref a)) (.cons rfl .nil) (hsp H hS)) fun r s' h => ?_
    cases r with
    | error e => exact False.elim h
    | ok fl =>
      cases fl with
      | next => exact False.elim h
      | brk => exact False.elim h
      | cont => exact False.elim h
      | ret u =>
        obtain ⟨v, H', os, br, un, ok', r', q⟩ := h
        cases (show v = .bl true from q)
        cases (show u = Value.bool true from r')
        refine ⟨rfl, OldK.of_keep fun b o e => ?_, os, br⟩
        rcases hO b with z | ⟨_, z⟩
        · exact un.keep b o e z (fun z => (List.not_mem_nil z).elim) (fun z => (List.not_mem_nil z).elim)
        · have e1 := (hok b _ z).1
          have e2 := (ok' b _ (un.frzs b _ _ z)).1
          rw [e] at e1
          cases e1
          exact e2
  cases hk : K.lookup a with
  | some o =>
    have e := kx a o hk
    rw [ha] at e
    cases e
    refine main (fun _ => none) (fun _ => .inl rfl) (fun z => absurd rfl z) (.inr ⟨_, vs.toArray, _, hk, rfl, rfl, rfl, ?_, ?_⟩) fun b u z => nomatch (show (none : Option HO) = some u from z)
    · rw [List.size_toArray, nv]
      exact hl
    · simpa using rv
  | none =>
    refine main (fun b => if b = a then some (.frz { cls := .type "list", data := .seq vs.toArray } (.lst (ns.map V.int))) else none) (fun b => ?_) (fun _ => hk) (.inl (.inr ⟨{ cls := .type "list", data := .seq vs.toArray }, if_pos rfl⟩)) (fun b u z => ?_)
    · by_cases q : b = a
      · exact .inr ⟨q, if_pos q⟩
      · exact .inl (if_neg q)
    · by_cases q : b = a
      · have z2 := (if_pos q).symm.trans z
        cases z2
        subst q
        exact ⟨ha, by rw [List.length_map]; exact hl, vs, _, rv, ha⟩
      · have z2 := (if_neg q).symm.trans z
        cases z2
theorem gwalk {l : PySem.W.OpenLaw} {n k : Nat} {q : Program} {lo : List Str} {XP : (Str → Option Value) → Heap → Prop} {YP : World → Heap → Prop} {d : DefRec} {K : Params → PySem.W.Frag} {sp : PySem.W.Frag → Sp} {x : Str}
    (hn : l.most = some n) (hn2 : n ≤ sizeLine) (hdf : d.params.defaults = []) (hr : Room k callerA) (hY : ∀ (w : World) (h : Heap), YP w h → (K w.params).In h)
    (F : ∀ (w : World) (mg : Str → Option Value) (fa : Addr) (h : Heap), (K w.params).In h → h.Ns mainGlobals mg → mg d.name = some (.ref fa) →
      ∃ fd : FuncData, (∀ (s : Shared) (u : Value), BindsTo s fd ⟨[u], []⟩ [(x, u)]) ∧
        ∀ base : Heap, (K w.params).In base → base.Ns mainGlobals mg → FnG l.prog w (K w.params) mg base CX0 k fa fd [x] (sp (K w.params)))
    (hsp : ∀ (K : PySem.W.Frag) (H : Hp) (a : Addr) (ns : List Int), ns.length ≤ n → SqL K H a (ns.map V.int) → sp K [.ref a] H (fun v _ => v = .bl true) E0) :
    PySem.W.WalkO q lo XP YP l.row.toRowW d [] (fun f vs => PySem.call f vs) := by
  refine Att.attach_call hn hdf fun w s₀ s₁ mg mb fa o pm cd doc a vs ns G Y ho hd hcd hmg hobj hints hlen hg => ?_
  have kx := hY w _ Y
  obtain ⟨fd, hb, hF⟩ := F w mg fa _ kx G.T.g hmg
  exact glaw kx G.T.g G.T.b G.T.builtins G.T.nolimit hg hobj hints (Nat.le_trans hlen hn2) hr hF hb fun H hS => hsp (K w.params) H a ns hlen hS

/-! ### repr of data -/
def rRepr (K : PySem.W.Frag) : List V → Hp → VK → Prop := fun xs H Q => ∃ (a : Addr) (d : PyData), xs = [.ref a] ∧ Dp K H (.ref a) d ∧ d.showable = true ∧ d.hasDict = false ∧ d.depth ≤ 32 ∧ d.shown.length ≤ sizeLine ∧ Q (.str d.shown) H
theorem call_repr {X : Cx} (hA : X.A.guards = some []) {k : Nat} (hr : Room k X.A) : CallR X (.builtin "repr") (rRepr X.K) := by
  intro pins s σ H xs us Q I r h
  obtain ⟨a, d, rfl, hd, h1, h2, h3, h4, q⟩ := h
  cases r with
  | cons r1 r2 =>
    cases r2
    cases r1
    obtain ⟨as, rd⟩ := Dp.reads I d _ _ hd rfl
    have hu := hr.units
    refine repr_of_reads' rd h1 (fun z => by rw [h2] at z; cases z) hA (by omega) (fun _ _ e => e) (fun h' u tk kp => ?_) h4
    exact ⟨.str d.shown, H, I.kept (t' := tk) kp, ⟨u, rfl⟩, q⟩

/-- repr of any data -/
def rReprV (K : PySem.W.Frag) : List V → Hp → VK → Prop := fun xs H Q => ∃ (x : V) (d : PyData), xs = [x] ∧ Dp K H x d ∧ d.showable = true ∧ d.hasDict = false ∧ d.depth ≤ 32 ∧ d.shown.length ≤ sizeLine ∧ Q (.str d.shown) H
theorem reprV {X : Cx} {K : PySem.W.Frag} (hK : X.K = K) (hA : X.A.guards = some []) {k : Nat} (hr : Room k X.A) : CallR X (.builtin "repr") (rReprV K) := by
  subst hK
  intro pins s σ H xs us Q I r h
  obtain ⟨x, d, rfl, hd, h1, h2, h3, h4, q⟩ := h
  have ref : ∀ a : Addr, x = .ref a → wpAny (model X.prog X.w) X.A (call (.builtin "repr") us) (EP X pins σ Q) X.xe s := fun a e => by
    subst e
    exact call_repr hA hr pins s σ H _ us Q I r ⟨a, d, rfl, hd, h1, h2, h3, h4, q⟩
  cases hd with
  | lst _ _ => exact ref _ rfl
  | tup _ _ => exact ref _ rfl
  | non =>
    cases r with
    | cons r1 r2 =>
      cases r2
      cases r1
      exact PySem.P.repr_of_none ⟨.str (PyData.shown .none), H, I.tok _, ⟨_, rfl⟩, q⟩
  | bl b =>
    cases r with
    | cons r1 r2 =>
      cases r2
      cases r1
      cases b with
      | true => exact PySem.P.repr_of_bool ⟨.str (PyData.shown (.bool true)), H, I.tok _, ⟨_, rfl⟩, q⟩
      | false => exact PySem.P.repr_of_bool ⟨.str (PyData.shown (.bool false)), H, I.tok _, ⟨_, rfl⟩, q⟩
  | int i =>
    cases r with
    | cons r1 r2 =>
      cases r2
      obtain ⟨t, rfl⟩ := r1
      have z : i.natAbs.log2 < 1920 := by
        simp only [PyData.showable] at h1
        exact of_decide_eq_true h1
      exact PySem.P.repr_of_int z ⟨.str (PyData.shown (.int i)), H, I.tok _, ⟨_, rfl⟩, q⟩
  | str y =>
    cases r with
    | cons r1 r2 =>
      cases r2
      obtain ⟨t, rfl⟩ := r1
      exact PySem.P.repr_of_str ⟨.str (PyData.shown (.str y)), H, I.tok _, ⟨_, rfl⟩, q⟩ h4

/-! ### a statement, then the rest by a word between them -/
def tMid (t u : TS) : TS := fun D σ H => ∃ M : L2.St → Hp → Prop, t { D with nx := M } σ H ∧ ∀ σ' H', M σ' H' → u D σ' H'
theorem pss_mid {X : Cx} {st : Stmt} {rs : List Stmt} {t u : TS} (h1 : PS X st t) (h2 : PSs X rs u) : PSs X (st :: rs) (tMid t u) :=
  ⟨fun pins s σ H D I ⟨M, hm, hu⟩ => wpAny_execs_cons (thn (h1.run pins s σ H { D with nx := M } I hm) fun f s1 q => by
    cases f with
    | next => exact q.elim fun σ' ⟨H', I', z⟩ => h2.run pins s1 σ' H' D I' (hu σ' H' z)
    | ret v => exact q
    | brk => exact q
    | cont => exact q)⟩

/-! ### rules with the written part named (for blocks of comprehensions) -/
theorem ixL {X : Cx} {K : PySem.W.Frag} (h : X.K = K) : IxR X (rIxL K) := h ▸ ix_list
theorem slL {X : Cx} {K : PySem.W.Frag} (h : X.K = K) : SlR X (rSlL K) := h ▸ sl_list
def rLenL (K : PySem.W.Frag) : List V → Hp → VK → Prop := fun xs H Q => ∃ (p : Addr) (ys : List V), xs = [.ref p] ∧ (SqL K H p ys ∨ SqT K H p ys) ∧ Q (.int ys.length) H
theorem lenL {X : Cx} {K : PySem.W.Frag} (h : X.K = K) : CallR X (.builtin "len") (rLenL K) := h ▸ call_len_seq
theorem sumL {X : Cx} {K : PySem.W.Frag} (h : X.K = K) (hc : X.calm = true) : CallR X (.builtin "sum") (rSum K) := h ▸ cr_sum hc
theorem maxL {X : Cx} {K : PySem.W.Frag} (h : X.K = K) (hc : X.calm = true) : CallR X (.builtin "max") (rMax K) := h ▸ cr_max hc
theorem minL {X : Cx} {K : PySem.W.Frag} (h : X.K = K) (hc : X.calm = true) : CallR X (.builtin "min") (rMin K) := h ▸ cr_min hc
theorem isiL {X : Cx} {K : PySem.W.Frag} (h : X.K = K) : CallR X (.builtin "isinstance") (rIsi K) := h ▸ call_isi
theorem reprL {X : Cx} {K : PySem.W.Frag} (h : X.K = K) (hA : X.A.guards = some []) {k : Nat} (hr : Room k X.A) : CallR X (.builtin "repr") (rRepr K) := h ▸ call_repr hA hr
theorem pg_tupL {X : Cx} {K : PySem.W.Frag} {es : List Expr} {j : Nat} {pos : Pos} {t : TGs} {n : Nat} (h : X.K = K) (hc : X.calm = true) (hs : PGs X es t)
    (hn : (assignEach es X.env).length = n := by rfl) (hst : (assignEach es X.env).findIdx? (·.1) = none := by rfl) : PG X (.Tuple es j pos) (gTup K n t) := h ▸ pg_tup hc hs hn hst
theorem enumL {X : Cx} {K : PySem.W.Frag} {elts : List Expr} {kk : Nat} {tpos p pos : Pos} {e : Expr} {ta : TA} (h : X.K = K) (hg : Gl X "enumerate") (hm : X.mg "enumerate" = none) (ha : PA X [e] ta)
    (hs : starEach [e] X.env = [(false, eval e X.env)] := by rfl) : PI X (.Tuple elts kk tpos) (.Call (.Name "enumerate" p) [e] [] pos) (iEnum K ta) := h ▸ pi_enum hg hm ha hs
theorem zipL {X : Cx} {K : PySem.W.Frag} {elts : List Expr} {kk : Nat} {tpos p pos : Pos} {e e2 : Expr} {ta : TA} (h : X.K = K) (hg : Gl X "zip") (hm : X.mg "zip" = none) (ha : PA X [e, e2] ta)
    (hs : starEach [e, e2] X.env = (false, eval e X.env) :: starEach [e2] X.env := by rfl) (hpl : (backTo pos (starEach [e2] X.env)).any (·.1) = false := by rfl) :
    PI X (.Tuple elts kk tpos) (.Call (.Name "zip" p) [e, e2] [] pos) (iZip K ta) := h ▸ pi_zip hg hm ha hs hpl
theorem pi_tupL {X : Cx} {K : PySem.W.Frag} {tg l : Expr} {tl : TE} (h : X.K = K) (hl : PE X l tl) : PI X tg l (iTup K tl) := h ▸ pi_tup hl
theorem pi_listL {X : Cx} {K : PySem.W.Frag} {tg l : Expr} {tl : TE} (h : X.K = K) (hl : PE X l tl) : PI X tg l (iList K tl) := h ▸ pi_list hl
def rListL (K : PySem.W.Frag) : List V → Hp → VK → Prop := fun xs H Q => ∃ (p : Addr) (ys : List V), xs = [.ref p] ∧ (SqL K H p ys ∨ SqT K H p ys) ∧ ∀ l, H l = none → Q (.ref l) (upd H l (.lst ys))
theorem listL {X : Cx} {K : PySem.W.Frag} (h : X.K = K) : CallR X (.type "list") (rListL K) := h ▸ call_list_of
theorem eqD {X : Cx} {K : PySem.W.Frag} (h : X.K = K) {k : Nat} (hr : Room k X.A) : OpR X (compareOp .Eq) (rEqD K) := h ▸ op_eqD hr.units
theorem neD {X : Cx} {K : PySem.W.Frag} (h : X.K = K) {k : Nat} (hr : Room k X.A) : OpR X (compareOp .NotEq) (rNeD K) := h ▸ op_neD hr.units

/-! ### a power of a great int, the exponent small -/
def CPow3 (i j : Int) : Prop := j = 3 ∧ 0 ≤ i ∧ i.natAbs < 2 ^ 200
theorem op_pow3 {X : Cx} : OpR X (binaryOp .Pow) (rI CPow3 fun i j => .int (i ^ j.toNat)) := opI fun i j t u s Q E hc q => by
  obtain ⟨rfl, h0, h1⟩ := hc
  by_cases e : (i == 0 || i == 1) = true
  · refine PySem.AutoIntOps.pow_1 (by decide) (by decide) e ?_
    have e2 : i ^ (3 : Int).toNat = i := by
      rcases (Bool.or_eq_true _ _).mp e with z | z
      · rw [eq_of_beq z]; rfl
      · rw [eq_of_beq z]; rfl
    rw [e2] at q
    exact q
  · refine PySem.AutoIntOps.pow_4 (by decide) (by decide) e ?_ ?_ q
    · intro z
      have := eq_of_beq z
      omega
    · intro z
      unfold Builtin.Int.intTooBig at z
      have z3 := of_decide_eq_true z
      have b : Builtin.Int.intBits i ≤ 201 := by
        unfold Builtin.Int.intBits
        have y := PySem.Flt.log2_lt_of (show 0 < 200 by decide) h1
        split <;> omega
      have e : bitsLine = 134217728 := by decide
      rw [e] at z3
      omega
end Sd

namespace Sd
open PySem PySem.Spec PyProof.Rows L2

/-! ### heaps -/
/-- all but T is as it was -/
def But (T : Addr) (H H' : Hp) : Prop := ∀ b o, H b = some o → b ≠ T → H' b = some o
theorem But.refl (T : Addr) (H : Hp) : But T H H := fun _ _ h _ => h
theorem But.trans {T : Addr} {H H1 H2 : Hp} (a : But T H H1) (b : But T H1 H2) : But T H H2 := fun c o h n => b c o (a c o h n) n
theorem But.of {T : Addr} {H H' : Hp} (s : Same H H') : But T H H' := fun b o h _ => s b o h
theorem But.lst {T : Addr} {H H' : Hp} {a : Addr} {o : HO} (s : But T H H') (h : H a = some o) (n : a ≠ T) : H' a = some o := s a o h n
theorem new_same {H : Hp} {p : Addr} {o : HO} (h : H p = none) : Same H (upd H p o) := fun b x e => by
  rw [upd_ne (ne_of_none e h)]
  exact e
theorem upd_but {H : Hp} {T : Addr} {o : HO} : But T H (upd H T o) := fun b x e n => by
  rw [upd_ne n]
  exact e
theorem free_but {T : Addr} {H H' : Hp} {p : Addr} {o : HO} (s : But T H H') (hT : H T = some o) (h : H' p = none) (hT' : H' T ≠ none) : H p = none := by
  cases q : H p with
  | none => rfl
  | some u =>
    by_cases e : p = T
    · subst e
      exact absurd h hT'
    · rw [s p u q e] at h
      cases h
/-- the law's tank -/
def Tank (H : Hp) (T : Addr) (c : Int) : Prop := ∃ x y z : Int, H T = some (.lst [.int x, .int y, .int z]) ∧ 0 ≤ x ∧ 0 ≤ y ∧ y < 2 ^ 100 ∧ 0 ≤ z ∧ z ≤ c
theorem Tank.some {H : Hp} {T : Addr} {c : Int} (h : Tank H T c) : ∃ o, H T = some o := let ⟨_, _, _, e, _⟩ := h; ⟨_, e⟩
theorem Tank.same {H H' : Hp} {T : Addr} {c : Int} (h : Tank H T c) (s : Same H H') : Tank H' T c := let ⟨x, y, z, e, r⟩ := h; ⟨x, y, z, s _ _ e, r⟩
theorem Tank.ne {H : Hp} {T p : Addr} {c : Int} (h : Tank H T c) (n : H p = none) : p ≠ T := fun e => by
  obtain ⟨o, q⟩ := h.some
  rw [e, q] at n
  cases n
theorem Tank.up {H : Hp} {T p : Addr} {c : Int} {o : HO} (h : Tank H T c) (n : H p = none) : Tank (upd H p o) T c := h.same (new_same n)
theorem Tank.mono {H : Hp} {T : Addr} {c d : Int} (h : Tank H T c) (l : c ≤ d) : Tank H T d := let ⟨x, y, z, e, a, b, r, f, g⟩ := h; ⟨x, y, z, e, a, b, r, f, by omega⟩

/-! ### lists of ints -/
theorem tyx_list {K : PySem.W.Frag} {H : Hp} {a : Addr} {xs : List V} (h : SqL K H a xs) : TyX K H (.ref a) (.type "list") := by
  rcases h with (h | ⟨o, h⟩) | ⟨o, its, n, hk, hc, _⟩
  · exact .base (.lst h)
  · exact .base (.frz h)
  · exact .kList hk hc
theorem kit_int_int {K : PySem.W.Frag} : PySem.W.kitOne K (.type "int") (.type "int") = some true := kit_ty (by decide +kernel)
theorem kit_int_bool {K : PySem.W.Frag} : PySem.W.kitOne K (.type "int") (.type "bool") = some false := kit_ty (by decide +kernel)
theorem kit_list_list {K : PySem.W.Frag} : PySem.W.kitOne K (.type "list") (.type "list") = some true := kit_ty (by decide +kernel)
/-- a rim: from 1 to 40 numbers from 0 to 10 ** 30 -/
structure Rim (ns : List Int) : Prop where
  pos : 1 ≤ ns.length
  le : ns.length ≤ 40
  all : ∀ n ∈ ns, 0 ≤ n ∧ n ≤ 1000000000000000000000000000000
theorem sz40 {n : Nat} (h : n ≤ 100000) : n < sizeLine := Nat.lt_of_le_of_lt h (by decide)
theorem sz40' {n : Nat} (h : n ≤ 100000) : n ≤ sizeLine := Nat.le_of_lt (sz40 h)
theorem int_at {ns : List Int} {i : Nat} {x : V} (h : (ns.map V.int)[i]? = some x) : ∃ n, ns[i]? = some n ∧ x = .int n := by
  rw [List.getElem?_map] at h
  cases e : ns[i]? with
  | none =>
    rw [e] at h
    cases h
  | some n =>
    rw [e] at h
    exact ⟨n, rfl, (Option.some.inj h).symm⟩
theorem at_int {ns : List Int} {i : Nat} {n : Int} (h : ns[i]? = some n) : (ns.map V.int)[i]? = some (.int n) := by
  rw [List.getElem?_map, h]
  rfl
/-- xs[i] at an int that lies within -/
theorem at_in {ns : List Int} {i : Int} (h0 : 0 ≤ i) (h1 : i < ns.length) : ∃ n, ns[i.toNat]? = some n ∧ atI (ns.map V.int) i = some (.int n) := by
  have h2 : i.toNat < ns.length := by omega
  obtain ⟨j, rfl⟩ : ∃ j : Nat, i = (j : Int) := ⟨i.toNat, by omega⟩
  have h3 : j < ns.length := by omega
  exact ⟨ns[j], List.getElem?_eq_getElem h3, atI_nat (at_int (List.getElem?_eq_getElem h3))⟩
theorem ixN_in {n : Nat} {i : Int} (h0 : 0 ≤ i) (h1 : i < n) : ixN n i = some i.toNat := by
  unfold ixN
  rw [if_pos h0, if_pos h1]

/-! ### turning, mirroring -/
/-- what stands at slot j behind a turn by t -/
def rot (ns : List Int) (t : Int) : List Int := (List.range ns.length).map fun (j : Nat) => ns.getD ((((j : Int) - t) % (ns.length : Int)).toNat) 0
def mir (ns : List Int) : List Int := (List.range ns.length).map fun (j : Nat) => ns.getD (((-(j : Int)) % (ns.length : Int)).toNat) 0
theorem rot_len (ns : List Int) (t : Int) : (rot ns t).length = ns.length := by
  unfold rot
  rw [List.length_map, List.length_range]
theorem mir_len (ns : List Int) : (mir ns).length = ns.length := by
  unfold mir
  rw [List.length_map, List.length_range]
theorem rot_at {ns : List Int} {t : Int} {j : Nat} (h : j < ns.length) : (rot ns t)[j]? = some (ns.getD ((((j : Int) - t) % (ns.length : Int)).toNat) 0) := by
  unfold rot
  rw [List.getElem?_map, List.getElem?_range h]
  rfl
theorem mir_at {ns : List Int} {j : Nat} (h : j < ns.length) : (mir ns)[j]? = some (ns.getD (((-(j : Int)) % (ns.length : Int)).toNat) 0) := by
  unfold mir
  rw [List.getElem?_map, List.getElem?_range h]
  rfl
theorem mod_in {i : Int} {n : Nat} (h : 0 < n) : 0 ≤ i % (n : Int) ∧ i % (n : Int) < n := ⟨Int.emod_nonneg _ (by omega), Int.emod_lt_of_pos _ (by omega)⟩
theorem getD_at {ns : List Int} {j : Nat} {n : Int} (h : ns[j]? = some n) : ns.getD j 0 = n := by
  rw [List.getD_eq_getElem?_getD, h]
  rfl
theorem at_getD {ns : List Int} {j : Nat} (h : j < ns.length) : ns[j]? = some (ns.getD j 0) := by
  rw [List.getD_eq_getElem?_getD, List.getElem?_eq_getElem h]
  rfl
theorem rot_all {ns : List Int} {t : Int} {P : Int → Prop} (h : ∀ n ∈ ns, P n) : ∀ n ∈ rot ns t, P n := fun n hn => by
  unfold rot at hn
  obtain ⟨j, hj, rfl⟩ := List.mem_map.mp hn
  have hj := List.mem_range.mp hj
  have hm := mod_in (i := (j : Int) - t) (show 0 < ns.length by omega)
  exact h _ (List.mem_of_getElem? (at_getD (show (((j : Int) - t) % (ns.length : Int)).toNat < ns.length by omega)))
theorem mir_all {ns : List Int} {P : Int → Prop} (h : ∀ n ∈ ns, P n) : ∀ n ∈ mir ns, P n := fun n hn => by
  unfold mir at hn
  obtain ⟨j, hj, rfl⟩ := List.mem_map.mp hn
  have hj := List.mem_range.mp hj
  have hm := mod_in (i := -(j : Int)) (show 0 < ns.length by omega)
  exact h _ (List.mem_of_getElem? (at_getD (show ((-(j : Int)) % (ns.length : Int)).toNat < ns.length by omega)))
theorem Rim.rot {ns : List Int} (h : Rim ns) (t : Int) : Rim (rot ns t) := ⟨by rw [rot_len]; exact h.pos, by rw [rot_len]; exact h.le, rot_all h.all⟩
theorem Rim.mir {ns : List Int} (h : Rim ns) : Rim (mir ns) := ⟨by rw [mir_len]; exact h.pos, by rw [mir_len]; exact h.le, mir_all h.all⟩
/-- filling slot by slot: found[(i + t) % n] = ns[i] for i below k leaves rot where it was filled -/
theorem rot_back {ns : List Int} {t : Int} {i : Nat} (hi : i < ns.length) : (rot ns t)[((((i : Int) + t) % (ns.length : Int)).toNat)]? = ns[i]? := by
  have hm := mod_in (i := (i : Int) + t) (show 0 < ns.length by omega)
  rw [rot_at (by omega), at_getD hi]
  have e : ((((((i : Int) + t) % (ns.length : Int)).toNat : Nat) : Int) - t) % (ns.length : Int) = (i : Int) := by
    rw [Int.toNat_of_nonneg hm.1, Int.emod_sub_emod]
    rw [show (i : Int) + t - t = (i : Int) by omega]
    exact Int.emod_eq_of_lt (by omega) (by omega)
  rw [e, Int.toNat_natCast]
theorem mir_back {ns : List Int} {i : Nat} (hi : i < ns.length) : (mir ns)[((((0 : Int) - (i : Int)) % (ns.length : Int)).toNat)]? = ns[i]? := by
  have hm := mod_in (i := (0 : Int) - (i : Int)) (show 0 < ns.length by omega)
  rw [mir_at (by omega), at_getD hi]
  have e : (-((((((0 : Int) - (i : Int)) % (ns.length : Int)).toNat : Nat) : Int))) % (ns.length : Int) = (i : Int) := by
    rw [Int.toNat_of_nonneg hm.1]
    rw [show -(((0 : Int) - (i : Int)) % (ns.length : Int)) = 0 - ((0 : Int) - (i : Int)) % (ns.length : Int) by omega, Int.sub_emod_emod]
    rw [show (0 : Int) - (0 - (i : Int)) = (i : Int) by omega]
    exact Int.emod_eq_of_lt (by omega) (by omega)
  rw [e, Int.toNat_natCast]
/-- filled at the places f 0, f 1 .. f (k - 1) as res is -/
def Filled (f : Nat → Nat) (res ms : List Int) (k : Nat) : Prop := ms.length = res.length ∧ ∀ p, (∃ j, j < k ∧ f j = p) → ms[p]? = res[p]?
theorem Filled.step {f : Nat → Nat} {res ms : List Int} {k : Nat} {v : Int} (h : Filled f res ms k) (e : res[f k]? = some v) : Filled f res (ms.set (f k) v) (k + 1) := by
  refine ⟨by rw [List.length_set]; exact h.1, fun p ⟨j, hj, hp⟩ => ?_⟩
  have hk : f k < ms.length := by
    rw [h.1]
    exact (List.getElem?_eq_some_iff.mp e).1
  by_cases q : f k = p
  · subst q
    rw [List.getElem?_set_self hk, e]
  · rw [List.getElem?_set_ne q]
    refine h.2 p ⟨j, ?_, hp⟩
    rcases Nat.lt_or_ge j k with z | z
    · exact z
    · have : j = k := by omega
      subst this
      exact absurd hp q
theorem Filled.done {f : Nat → Nat} {res ms : List Int} {n : Nat} (h : Filled f res ms n) (on : ∀ p, p < res.length → ∃ j, j < n ∧ f j = p) : ms = res := by
  refine List.ext_getElem? fun p => ?_
  by_cases q : p < res.length
  · exact h.2 p (on p q)
  · rw [List.getElem?_eq_none (by rw [h.1]; omega), List.getElem?_eq_none (by omega)]
theorem rot_on {ns : List Int} {t : Int} {p : Nat} (hp : p < ns.length) : ∃ j, j < ns.length ∧ (((j : Int) + t) % (ns.length : Int)).toNat = p := by
  have hm := mod_in (i := (p : Int) - t) (show 0 < ns.length by omega)
  refine ⟨(((p : Int) - t) % (ns.length : Int)).toNat, by omega, ?_⟩
  have e : ((((((p : Int) - t) % (ns.length : Int)).toNat : Nat) : Int) + t) % (ns.length : Int) = (p : Int) := by
    rw [Int.toNat_of_nonneg hm.1, Int.emod_add_emod]
    rw [show (p : Int) - t + t = (p : Int) by omega]
    exact Int.emod_eq_of_lt (by omega) (by omega)
  rw [e, Int.toNat_natCast]
theorem mir_on {ns : List Int} {p : Nat} (hp : p < ns.length) : ∃ j, j < ns.length ∧ (((0 : Int) - (j : Int)) % (ns.length : Int)).toNat = p := by
  have hm := mod_in (i := (0 : Int) - (p : Int)) (show 0 < ns.length by omega)
  refine ⟨(((0 : Int) - (p : Int)) % (ns.length : Int)).toNat, by omega, ?_⟩
  have e : ((0 : Int) - (((((0 : Int) - (p : Int)) % (ns.length : Int)).toNat : Nat) : Int)) % (ns.length : Int) = (p : Int) := by
    rw [Int.toNat_of_nonneg hm.1, Int.sub_emod_emod]
    rw [show (0 : Int) - (0 - (p : Int)) = (p : Int) by omega]
    exact Int.emod_eq_of_lt (by omega) (by omega)
  rw [e, Int.toNat_natCast]
theorem map_set {ns : List Int} {j : Nat} {v : Int} : (ns.map V.int).set j (.int v) = (ns.set j v).map V.int := by
  rw [List.map_set]
theorem take_next {l : List Int} {i : Nat} {v : Int} (h : l[i]? = some v) : (l.take i).map V.int ++ [.int v] = (l.take (i + 1)).map V.int := by
  rw [List.take_add_one, h, List.map_append]
  rfl
theorem take_all {l : List Int} {n : Nat} (h : l.length ≤ n) : l.take n = l := List.take_of_length_le h
theorem rep_one (v : Int) : ∀ k : Nat, (List.replicate k [V.int v]).flatten = (List.replicate k v).map V.int
  | 0 => rfl
  | k + 1 => by
    rw [List.replicate_succ, List.replicate_succ, List.flatten_cons, List.map_cons, rep_one v k]
    rfl
theorem rep_map (ns : List Int) : ∀ k : Nat, (List.replicate k (ns.map V.int)).flatten = ((List.replicate k ns).flatten).map V.int
  | 0 => rfl
  | k + 1 => by
    rw [List.replicate_succ, List.replicate_succ, List.flatten_cons, List.flatten_cons, List.map_append, rep_map ns k]
theorem rep_len (ns : List Int) : ∀ k : Nat, ((List.replicate k ns).flatten).length = k * ns.length
  | 0 => by simp
  | k + 1 => by
    rw [List.replicate_succ, List.flatten_cons, List.length_append, rep_len ns k, Nat.succ_mul, Nat.add_comm]
theorem rep_mem {ns : List Int} {k : Nat} {x : Int} (h : x ∈ (List.replicate k ns).flatten) : x ∈ ns := by
  obtain ⟨l, hl, hx⟩ := List.mem_flatten.mp h
  rw [(List.mem_replicate.mp hl).2] at hx
  exact hx
theorem cut_take (ns : List Int) (s : Int) (h0 : 0 ≤ s) : cutV (ns.map V.int) none (some s) = (ns.take s.toNat).map V.int := by
  obtain ⟨k, rfl⟩ : ∃ k : Nat, s = (k : Int) := ⟨s.toNat, by omega⟩
  unfold cutV
  rw [HT.sIx_none, HT.sIx_nat, Int.toNat_natCast, List.drop_zero, Nat.sub_zero, List.map_take]
  rcases Nat.le_total k (ns.map V.int).length with z | z
  · rw [Nat.min_eq_left z]
  · rw [Nat.min_eq_right z, List.take_of_length_le (Nat.le_refl _), List.take_of_length_le z]

/-! ### data: lists of ints, for repr and == -/
def dI (ns : List Int) : PyData := .list (ns.map PyData.int)
theorem dpAll_ints {K : PySem.W.Frag} {H : Hp} : ∀ ns : List Int, DpAll K H (ns.map V.int) (ns.map PyData.int)
  | [] => .nil
  | n :: ns => .cons (.int n) (dpAll_ints ns)
theorem dp_ints {K : PySem.W.Frag} {H : Hp} {a : Addr} {ns : List Int} (h : SqL K H a (ns.map V.int)) : Dp K H (.ref a) (dI ns) := .lst h (dpAll_ints ns)
/-- what repr and == ask of data -/
structure RP (d : PyData) : Prop where
  sh : d.showable = true
  nd : d.hasDict = false
  cl : d.canLay0 = true
  dp : d.depth ≤ 32
theorem RP.shaped {d : PyData} (h : RP d) : SeqAt.shaped d = true := by
  have := h.dp
  exact Bool.and_eq_true_iff.mpr ⟨h.cl, decide_eq_true (by omega)⟩
theorem RP.refl {d : PyData} (h : RP d) : PyData.eqv d d = true := SeqAt.eqv_refl d h.cl
theorem rp_int {i : Int} (h : i.natAbs < 2 ^ 1000) : RP (.int i) := ⟨by simp only [PyData.showable]; exact decide_eq_true (Nat.lt_trans (PySem.Flt.log2_lt_of (by decide) h) (by decide)), by simp only [PyData.hasDict], by simp only [PyData.canLay0], by simp only [PyData.depth]; omega⟩
/-- all of a list: depth one less -/
structure RPs (k : Nat) (ds : List PyData) : Prop where
  sh : PyData.showableAll ds = true
  nd : PyData.hasDictAll ds = false
  cl : PyData.canLayAll0 ds = true
  dp : PyData.depthAll ds ≤ k
theorem RPs.nil {k : Nat} : RPs k [] := ⟨by simp only [PyData.showableAll], by simp only [PyData.hasDictAll], by simp only [PyData.canLayAll0], by simp only [PyData.depthAll]; omega⟩
theorem RPs.cons {k : Nat} {d : PyData} {ds : List PyData} (h : RP d) (hk : d.depth ≤ k) (hs : RPs k ds) : RPs k (d :: ds) := by
  refine ⟨?_, ?_, ?_, ?_⟩
  · simp only [PyData.showableAll, h.sh, hs.sh, Bool.and_self]
  · simp only [PyData.hasDictAll, h.nd, hs.nd, Bool.or_self]
  · simp only [PyData.canLayAll0, h.cl, hs.cl, Bool.and_self]
  · simp only [PyData.depthAll]
    have := hs.dp
    omega
theorem RPs.list {k : Nat} {ds : List PyData} (h : RPs k ds) (hk : k ≤ 31) : RP (.list ds) ∧ (PyData.list ds).depth ≤ k + 1 := by
  have hd : (PyData.list ds).depth ≤ k + 1 := by
    simp only [PyData.depth]
    have := h.dp
    omega
  refine ⟨⟨?_, ?_, ?_, by omega⟩, hd⟩
  · simp only [PyData.showable, h.sh]
  · simp only [PyData.hasDict, h.nd]
  · simp only [PyData.canLay0, h.cl]
theorem rps_ints : ∀ {ns : List Int}, (∀ n ∈ ns, n.natAbs < 2 ^ 1000) → RPs 0 (ns.map PyData.int)
  | [], _ => RPs.nil
  | n :: ns, h => RPs.cons (rp_int (h n List.mem_cons_self)) (by simp only [PyData.depth]; omega) (rps_ints fun x hx => h x (List.mem_cons_of_mem _ hx))
theorem rp_ints {ns : List Int} (h : ∀ n ∈ ns, n.natAbs < 2 ^ 1000) : RP (dI ns) := ((rps_ints h).list (by omega)).1
theorem dp_ints_depth {ns : List Int} (h : ∀ n ∈ ns, n.natAbs < 2 ^ 1000) : (dI ns).depth ≤ 1 := ((rps_ints h).list (by omega)).2
theorem sum_bound {B : Nat} : ∀ {l : List Nat}, (∀ x ∈ l, x ≤ B) → l.sum ≤ B * l.length
  | [], _ => Nat.zero_le _
  | x :: l, h => by
    have h1 := h x List.mem_cons_self
    have h2 := sum_bound (B := B) (l := l) fun y hy => h y (List.mem_cons_of_mem _ hy)
    rw [List.sum_cons, List.length_cons, Nat.mul_succ]
    omega
theorem shownAll_map (ds : List PyData) : PyData.shownAll ds = ds.map PyData.shown := by
  induction ds with
  | nil => rfl
  | cons d ds ih =>
    simp only [PyData.shownAll, List.map_cons, ih]
/-- how long a list's text is at most, by its items' -/
theorem shown_list {B : Nat} {ds : List PyData} (h : ∀ d ∈ ds, d.shown.length ≤ B) : (PyData.list ds).shown.length ≤ (B + 2) * ds.length + 3 := by
  simp only [PyData.shown]
  have h1 := listText_len_le (PyData.shownAll ds)
  have h2 : ((PyData.shownAll ds).map (·.length)).sum ≤ B * ds.length := by
    rw [shownAll_map, List.map_map]
    have := sum_bound (B := B) (l := ds.map ((fun x => x.length) ∘ PyData.shown)) fun x hx => by
      obtain ⟨d, hd, rfl⟩ := List.mem_map.mp hx
      exact h d hd
    rw [List.length_map] at this
    exact this
  have h3 : (PyData.shownAll ds).length = ds.length := by rw [shownAll_map, List.length_map]
  rw [h3] at h1
  rw [Nat.add_mul]
  omega
theorem shown_int {i : Int} (h : i.natAbs < 2 ^ 1000) : (PyData.int i).shown.length ≤ 1001 := by
  simp only [PyData.shown]
  rw [PySem.ofString_length]
  exact int_text_length_le (by decide) (PySem.Flt.log2_lt_of (by decide) h)
theorem shown_ints {ns : List Int} (h : ∀ n ∈ ns, n.natAbs < 2 ^ 1000) : (dI ns).shown.length ≤ 1003 * ns.length + 3 := by
  have := shown_list (B := 1001) (ds := ns.map PyData.int) fun d hd => by
    obtain ⟨n, hn, rfl⟩ := List.mem_map.mp hd
    exact shown_int (h n hn)
  rw [List.length_map] at this
  exact this
theorem small_abs {n : Int} (h0 : 0 ≤ n) (h1 : n ≤ 1000000000000000000000000000000) : n.natAbs < 2 ^ 1000 := Nat.lt_of_le_of_lt (m := 1000000000000000000000000000000) (by omega) (by decide +kernel)
theorem Rim.abs {ns : List Int} (h : Rim ns) : ∀ n ∈ ns, n.natAbs < 2 ^ 1000 := fun n hn => small_abs (h.all n hn).1 (h.all n hn).2
theorem Rim.rp {ns : List Int} (h : Rim ns) : RP (dI ns) := rp_ints h.abs
theorem Rim.fits {ns : List Int} (h : Rim ns) : (dI ns).shown.length ≤ sizeLine := by
  have := shown_ints h.abs
  have := h.le
  exact sz40' (by omega)
/-- an object that was not there is written -/
theorem same_over {H H4 : Hp} {l : Addr} {o : HO} (s : Same H H4) (n : H l = none) : Same H (upd H4 l o) := fun b x e => by
  rw [upd_ne (ne_of_none e n)]
  exact s b x e
/-- turned back -/
theorem rot_rot {ns : List Int} {t : Int} : rot (rot ns t) (0 - t) = ns := by
  refine List.ext_getElem? fun j => ?_
  by_cases h : j < ns.length
  · rw [rot_at (by rw [rot_len]; exact h), rot_len]
    have hm := mod_in (i := (j : Int) - (0 - t)) (show 0 < ns.length by omega)
    have e := rot_back (t := t) h
    rw [show (j : Int) - (0 - t) = (j : Int) + t by omega]
    rw [show (j : Int) - (0 - t) = (j : Int) + t by omega] at hm
    rw [← e, ← at_getD (by rw [rot_len]; omega)]
  · rw [List.getElem?_eq_none (by rw [rot_len, rot_len]; omega), List.getElem?_eq_none (by omega)]
theorem mir_mir {ns : List Int} : mir (mir ns) = ns := by
  refine List.ext_getElem? fun j => ?_
  by_cases h : j < ns.length
  · rw [mir_at (by rw [mir_len]; exact h), mir_len]
    have hm := mod_in (i := (0 : Int) - (j : Int)) (show 0 < ns.length by omega)
    have e := mir_back h
    rw [show -(j : Int) = (0 : Int) - (j : Int) by omega]
    rw [← e, ← at_getD (by rw [mir_len]; omega)]
  · rw [List.getElem?_eq_none (by rw [mir_len, mir_len]; omega), List.getElem?_eq_none (by omega)]
end Sd

namespace Sd
open PySem PySem.Spec PyProof.Rows L2

/-! ### lights -/
def Ab (k : Nat) (ns : List Int) : Prop := ∀ n ∈ ns, n.natAbs < 2 ^ k
theorem pow_up {a b : Nat} (h : a ≤ b) : (2 : Nat) ^ a ≤ 2 ^ b := Nat.pow_le_pow_right (by decide) h
theorem Ab.mono {k j : Nat} {ns : List Int} (h : Ab k ns) (l : k ≤ j) : Ab j ns := fun n hn => Nat.lt_of_lt_of_le (h n hn) (pow_up l)
theorem Rim.ab {ns : List Int} (h : Rim ns) : Ab 100 ns := fun n hn => by
  have := h.all n hn
  exact Nat.lt_of_le_of_lt (m := 1000000000000000000000000000000) (by omega) (by decide +kernel)
theorem Ab.rot {k : Nat} {ns : List Int} (h : Ab k ns) (t : Int) : Ab k (rot ns t) := rot_all h
theorem Ab.at {k : Nat} {ns : List Int} (h : Ab k ns) {i : Nat} {n : Int} (e : ns[i]? = some n) : n.natAbs < 2 ^ k := h n (List.mem_of_getElem? e)
def prods (ns ms : List Int) : List Int := List.zipWith (· * ·) ns ms
theorem prods_len (ns ms : List Int) : (prods ns ms).length = min ns.length ms.length := List.length_zipWith
theorem prods_at {ns ms : List Int} {i : Nat} {x y : Int} (h1 : ns[i]? = some x) (h2 : ms[i]? = some y) : (prods ns ms)[i]? = some (x * y) := by
  unfold prods
  rw [List.getElem?_zipWith, h1, h2]
theorem prods_ab {a b : Nat} : ∀ {ns ms : List Int}, Ab a ns → Ab b ms → Ab (a + b) (prods ns ms)
  | [], _, _, _ => fun n hn => by
    simp only [prods, List.zipWith_nil_left] at hn
    exact (List.not_mem_nil hn).elim
  | _ :: _, [], _, _ => fun n hn => by
    simp only [prods, List.zipWith_nil_right] at hn
    exact (List.not_mem_nil hn).elim
  | x :: ns, y :: ms, h1, h2 => fun n hn => by
    have hn : n ∈ x * y :: prods ns ms := hn
    rcases List.mem_cons.mp hn with e | e
    · subst e
      exact wide_lt (h1 x List.mem_cons_self) (h2 y List.mem_cons_self)
    · exact prods_ab (fun z hz => h1 z (List.mem_cons_of_mem _ hz)) (fun z hz => h2 z (List.mem_cons_of_mem _ hz)) n e
theorem sum_ab {k : Nat} : ∀ {ns : List Int}, Ab k ns → ns.sum.natAbs ≤ ns.length * 2 ^ k
  | [], _ => Nat.zero_le _
  | x :: ns, h => by
    have h1 := h x List.mem_cons_self
    have h2 := sum_ab (k := k) (ns := ns) fun z hz => h z (List.mem_cons_of_mem _ hz)
    rw [List.sum_cons, List.length_cons, Nat.succ_mul]
    have := Int.natAbs_add_le x ns.sum
    omega
theorem sum_lt {k : Nat} {ns : List Int} (h : Ab k ns) (hl : ns.length < 1024) : ns.sum.natAbs < 2 ^ (k + 10) := by
  have h1 := sum_ab h
  rw [Nat.pow_add]
  refine Nat.lt_of_le_of_lt h1 ?_
  rw [Nat.mul_comm]
  exact Nat.mul_lt_mul_of_pos_left hl (Nat.two_pow_pos k)
/-- the light at a turn -/
def lightV (ns ms : List Int) (t : Int) : Int := (prods ns (rot ms t)).sum
def lightsV (ns ms : List Int) : List Int := (List.range ns.length).map fun (i : Nat) => lightV ns ms (i : Int)
theorem lightsV_len (ns ms : List Int) : (lightsV ns ms).length = ns.length := by
  unfold lightsV
  rw [List.length_map, List.length_range]
theorem lightsV_at {ns ms : List Int} {i : Nat} (h : i < ns.length) : (lightsV ns ms)[i]? = some (lightV ns ms (i : Int)) := by
  unfold lightsV
  rw [List.getElem?_map, List.getElem?_range h]
  rfl
theorem lightV_lt {a b : Nat} {ns ms : List Int} (h1 : Ab a ns) (h2 : Ab b ms) (hl : ns.length < 1024) (t : Int) : (lightV ns ms t).natAbs < 2 ^ (a + b + 10) := by
  refine sum_lt (prods_ab h1 (h2.rot t)) ?_
  rw [prods_len]
  omega
theorem lightsV_ab {a b : Nat} {ns ms : List Int} (h1 : Ab a ns) (h2 : Ab b ms) (hl : ns.length < 1024) : Ab (a + b + 10) (lightsV ns ms) := fun n hn => by
  unfold lightsV at hn
  obtain ⟨i, _, rfl⟩ := List.mem_map.mp hn
  exact lightV_lt h1 h2 hl i
theorem rot_mod (ms : List Int) (t : Int) : rot ms (t % (ms.length : Int)) = rot ms t := by
  unfold rot
  refine List.map_congr_left fun j _ => ?_
  rw [Int.sub_emod_emod]
theorem lightV_mod {ns ms : List Int} (t : Int) : lightV ns ms (t % (ms.length : Int)) = lightV ns ms t := by
  unfold lightV
  rw [rot_mod]
/-- lights[t % n], whatever the turn -/
theorem lights_any {ns ms : List Int} (t : Int) (hl : ns.length = ms.length) (h1 : 1 ≤ ns.length) : atI ((lightsV ns ms).map V.int) (t % (ns.length : Int)) = some (.int (lightV ns ms t)) := by
  have hm := mod_in (i := t) (show 0 < ns.length by omega)
  obtain ⟨n, hn, hat⟩ := at_in (ns := lightsV ns ms) hm.1 (by rw [lightsV_len]; exact hm.2)
  rw [lightsV_at (by omega), Int.toNat_of_nonneg hm.1, hl, lightV_mod] at hn
  rw [hat, ← Option.some.inj hn]
/-! ### the greatest, the places of some -/
theorem max_ex : ∀ {ns : List Int}, 1 ≤ ns.length → ∃ m, m ∈ ns ∧ ∀ y ∈ ns, y ≤ m
  | [], h => absurd h (by decide)
  | [x], _ => ⟨x, List.mem_cons_self, fun y hy => by rw [List.mem_singleton.mp hy]; exact Int.le_refl _⟩
  | x :: z :: ns, _ => by
    obtain ⟨m, hm, hg⟩ := max_ex (ns := z :: ns) (by simp)
    by_cases h : x ≤ m
    · refine ⟨m, List.mem_cons_of_mem _ hm, fun y hy => ?_⟩
      rcases List.mem_cons.mp hy with e | e
      · rw [e]
        exact h
      · exact hg y e
    · refine ⟨x, List.mem_cons_self, fun y hy => ?_⟩
      rcases List.mem_cons.mp hy with e | e
      · rw [e]
        exact Int.le_refl _
      · have := hg y e
        omega
theorem max_one {ns : List Int} {m m' : Int} (h1 : m ∈ ns) (h2 : ∀ y ∈ ns, y ≤ m) (h3 : m' ∈ ns) (h4 : ∀ y ∈ ns, y ≤ m') : m = m' := Int.le_antisymm (h4 _ h1) (h2 _ h3)
/-- the places below k of the items for which p holds -/
def places (p : Int → Bool) (ns : List Int) (k : Nat) : List Int := ((List.range k).filter fun i => p (ns.getD i 0)).map fun (i : Nat) => (i : Int)
theorem places_len (p : Int → Bool) (ns : List Int) (k : Nat) : (places p ns k).length ≤ k := by
  unfold places
  rw [List.length_map]
  refine Nat.le_trans (List.length_filter_le _ _) ?_
  rw [List.length_range]
  exact Nat.le_refl _
theorem places_yes {p : Int → Bool} {ns : List Int} {k : Nat} {n : Int} (h : ns[k]? = some n) (hp : p n = true) : places p ns (k + 1) = places p ns k ++ [(k : Int)] := by
  unfold places
  rw [List.range_succ, List.filter_append, List.map_append]
  have : ([k].filter fun i => p (ns.getD i 0)) = [k] := by
    rw [List.filter_cons, getD_at h, if_pos hp]
    rfl
  rw [this]
  rfl
theorem places_no {p : Int → Bool} {ns : List Int} {k : Nat} {n : Int} (h : ns[k]? = some n) (hp : ¬ p n = true) : places p ns (k + 1) = places p ns k := by
  unfold places
  rw [List.range_succ, List.filter_append, List.map_append]
  have : ([k].filter fun i => p (ns.getD i 0)) = [] := by
    rw [List.filter_cons, getD_at h, if_neg hp]
    rfl
  rw [this]
  simp
theorem places_ab (p : Int → Bool) (ns : List Int) {k : Nat} (h : k < 1000) : Ab 100 (places p ns k) := fun n hn => by
  unfold places at hn
  obtain ⟨i, hi, rfl⟩ := List.mem_map.mp hn
  have := List.mem_range.mp (List.mem_filter.mp hi).1
  exact Nat.lt_of_lt_of_le (m := 1000) (by omega) (by decide)
theorem Ab.rp {k : Nat} {ns : List Int} (h : Ab k ns) (hk : k ≤ 1000) : RP (dI ns) := rp_ints (h.mono hk)
theorem Ab.fits {k : Nat} {ns : List Int} (h : Ab k ns) (hk : k ≤ 1000) (hl : ns.length ≤ 2000) : (dI ns).shown.length ≤ 2100000 := by
  have := shown_ints (h.mono hk)
  omega
theorem fit_le {n : Nat} (h : n ≤ 16000000) : n ≤ sizeLine := Nat.le_trans h (by decide)
/-- some lists of ints, in a list -/
def dL (ls : List (List Int)) : PyData := .list (ls.map dI)
theorem rps_lists {k : Nat} (hk : k ≤ 1000) : ∀ {ls : List (List Int)}, (∀ l ∈ ls, Ab k l) → RPs 1 (ls.map dI)
  | [], _ => RPs.nil
  | l :: ls, h => RPs.cons ((h l List.mem_cons_self).rp hk) (dp_ints_depth ((h l List.mem_cons_self).mono hk)) (rps_lists hk fun x hx => h x (List.mem_cons_of_mem _ hx))
theorem rp_lists {k : Nat} (hk : k ≤ 1000) {ls : List (List Int)} (h : ∀ l ∈ ls, Ab k l) : RP (dL ls) := ((rps_lists hk h).list (by omega)).1
theorem fits_lists {k : Nat} (hk : k ≤ 1000) {ls : List (List Int)} (h : ∀ l ∈ ls, Ab k l) (hl : ∀ l ∈ ls, l.length ≤ 1000) (hn : ls.length ≤ 7) : (dL ls).shown.length ≤ sizeLine := by
  have h1 := shown_list (B := 2100000) (ds := ls.map dI) fun d hd => by
    obtain ⟨l, hm, rfl⟩ := List.mem_map.mp hd
    exact (h l hm).fits hk (by have := hl l hm; omega)
  rw [List.length_map] at h1
  refine fit_le (Nat.le_trans h1 ?_)
  omega
theorem all2 {P : List Int → Prop} {a b : List Int} (h1 : P a) (h2 : P b) : ∀ l ∈ [a, b], P l := fun l hl => by
  simp only [List.mem_cons, List.not_mem_nil, or_false] at hl
  rcases hl with rfl | rfl <;> assumption
theorem all3 {P : List Int → Prop} {a b c : List Int} (h1 : P a) (h2 : P b) (h3 : P c) : ∀ l ∈ [a, b, c], P l := fun l hl => by
  simp only [List.mem_cons, List.not_mem_nil, or_false] at hl
  rcases hl with rfl | rfl | rfl <;> assumption
end Sd

namespace Sd
open PySem PySem.Spec PyProof.Rows L2

/-! ### by steps -/
def stepsV (ns ms : List Int) (f st : Int) (k : Nat) : List Int := (List.range k).map fun (i : Nat) => lightV ns ms (f + st * (i : Int))
theorem stepsV_len (ns ms : List Int) (f st : Int) (k : Nat) : (stepsV ns ms f st k).length = k := by
  unfold stepsV
  rw [List.length_map, List.length_range]
theorem stepsV_at {ns ms : List Int} {f st : Int} {k i : Nat} (h : i < k) : (stepsV ns ms f st k)[i]? = some (lightV ns ms (f + st * (i : Int))) := by
  unfold stepsV
  rw [List.getElem?_map, List.getElem?_range h]
  rfl
/-- the first of them, None if there is none -/
def headV : List Int → V
  | [] => .non
  | x :: _ => .int x
def headD : List Int → PyData
  | [] => .none
  | x :: _ => .int x
theorem places_more (p : Int → Bool) (ns : List Int) (i : Nat) : ∀ d : Nat, ∃ r, places p ns (i + d) = places p ns i ++ r
  | 0 => ⟨[], by simp⟩
  | d + 1 => by
    obtain ⟨r, e⟩ := places_more p ns i d
    refine ⟨r ++ ([i + d].filter fun j => p (ns.getD j 0)).map fun (j : Nat) => (j : Int), ?_⟩
    rw [← List.append_assoc, ← e]
    unfold places
    rw [show i + (d + 1) = (i + d) + 1 from rfl, List.range_succ, List.filter_append, List.map_append]
theorem places_head {p : Int → Bool} {ns : List Int} {i k : Nat} {x : Int} (hx : ns[i]? = some x) (hp : p x = true) (hno : places p ns i = []) (hk : i < k) : headV (places p ns k) = .int i := by
  obtain ⟨r, e⟩ := places_more p ns (i + 1) (k - (i + 1))
  rw [show i + 1 + (k - (i + 1)) = k by omega, places_yes hx hp, hno] at e
  rw [e]
  rfl
theorem places_none {p : Int → Bool} {ns : List Int} {k : Nat} : places p ns k = [] ↔ ∀ i, i < k → ¬ p (ns.getD i 0) = true := by
  unfold places
  rw [List.map_eq_nil_iff, List.filter_eq_nil_iff]
  exact ⟨fun h i hi => h i (List.mem_range.mpr hi), fun h i hi => h i (List.mem_range.mp hi)⟩
theorem places_congr {p : Int → Bool} {ns ms : List Int} {k : Nat} (h : ∀ i, i < k → ns.getD i 0 = ms.getD i 0) : places p ns k = places p ms k := by
  unfold places
  refine congrArg _ (List.filter_congr fun i hi => ?_)
  rw [h i (List.mem_range.mp hi)]
theorem stepsV_getD {ns ms : List Int} {f st : Int} {k i : Nat} (h : i < k) : (stepsV ns ms f st k).getD i 0 = lightV ns ms (f + st * (i : Int)) := getD_at (stepsV_at h)
/-- twice around tells nothing more -/
theorem twice {p : Int → Bool} {ns ms : List Int} {f st : Int} (hl : ns.length = ms.length) : headV (places p (stepsV ns ms f st (2 * ns.length)) (2 * ns.length)) = headV (places p (stepsV ns ms f st ns.length) ns.length) := by
  have e1 : places p (stepsV ns ms f st (2 * ns.length)) ns.length = places p (stepsV ns ms f st ns.length) ns.length :=
    places_congr fun i hi => by rw [stepsV_getD (by omega), stepsV_getD hi]
  obtain ⟨r, e2⟩ := places_more p (stepsV ns ms f st (2 * ns.length)) ns.length ns.length
  rw [show ns.length + ns.length = 2 * ns.length by omega, e1] at e2
  cases e3 : places p (stepsV ns ms f st ns.length) ns.length with
  | cons x xs =>
    rw [e2, e3]
    rfl
  | nil =>
    have h0 := places_none.mp e3
    have h1 : places p (stepsV ns ms f st (2 * ns.length)) (2 * ns.length) = [] := places_none.mpr fun i hi => by
      by_cases hn : i < ns.length
      · have := h0 i hn
        rw [stepsV_getD hn] at this
        rw [stepsV_getD hi]
        exact this
      · have := h0 (i - ns.length) (by omega)
        rw [stepsV_getD (by omega)] at this
        rw [stepsV_getD hi]
        have e4 : lightV ns ms (f + st * (i : Int)) = lightV ns ms (f + st * ((i - ns.length : Nat) : Int)) := by
          rw [← lightV_mod (f + st * (i : Int)), ← lightV_mod (f + st * ((i - ns.length : Nat) : Int)), ← hl]
          have e5 : f + st * (i : Int) = (f + st * ((i - ns.length : Nat) : Int)) + (ns.length : Int) * st := by
            have e6 : (i : Int) = ((i - ns.length : Nat) : Int) + (ns.length : Int) := by omega
            rw [e6, Int.mul_add, Int.mul_comm (ns.length : Int) st]
            have e7 : ((((i - ns.length : Nat) : Int) + (ns.length : Int)) : Int) = (i : Int) := e6.symm
            omega
          rw [e5, Int.add_mul_emod_self_left]
        rw [e4]
        exact this
    rw [h1]
theorem dp_head {K : PySem.W.Frag} {H : Hp} : ∀ l : List Int, Dp K H (headV l) (headD l)
  | [] => .non
  | x :: _ => .int x
theorem rp_head : ∀ {l : List Int}, Ab 100 l → RP (headD l)
  | [], _ => ⟨rfl, rfl, rfl, by decide⟩
  | x :: _, h => rp_int (Nat.lt_of_lt_of_le (h x List.mem_cons_self) (pow_up (by decide)))
theorem fits_head : ∀ {l : List Int}, Ab 100 l → (headD l).shown.length ≤ sizeLine
  | [], _ => by decide +kernel
  | x :: _, h => fit_le (Nat.le_trans (shown_int (Nat.lt_of_lt_of_le (h x List.mem_cons_self) (pow_up (by decide)))) (by decide))
end Sd

namespace Sd
open PySem PySem.Spec PyProof.Rows L2

/-! ### far sums -/
def farV (ns ms : List Int) (f st N : Int) : Int := N / (ns.length : Int) * (stepsV ns ms f st ns.length).sum + ((stepsV ns ms f st ns.length).take (N % (ns.length : Int)).toNat).sum
theorem stepsV_take {ns ms : List Int} {f st : Int} {k r : Nat} (h : r ≤ k) : (stepsV ns ms f st k).take r = stepsV ns ms f st r := by
  unfold stepsV
  rw [← List.map_take, List.take_range, Nat.min_eq_left h]
theorem stepsV_next (ns ms : List Int) (f st : Int) (k : Nat) : (stepsV ns ms f st (k + 1)).sum = (stepsV ns ms f st k).sum + lightV ns ms (f + st * (k : Int)) := by
  unfold stepsV
  rw [List.range_succ, List.map_append, List.sum_append]
  simp
theorem stepsV_add (ns ms : List Int) (f st : Int) (a : Nat) : ∀ b : Nat, (stepsV ns ms f st (a + b)).sum = (stepsV ns ms f st a).sum + (stepsV ns ms (f + st * (a : Int)) st b).sum
  | 0 => by
    show (stepsV ns ms f st a).sum = (stepsV ns ms f st a).sum + 0
    omega
  | b + 1 => by
    rw [show a + (b + 1) = (a + b) + 1 from rfl, stepsV_next, stepsV_next, stepsV_add ns ms f st a b]
    rw [show f + st * (((a + b : Nat)) : Int) = f + st * (a : Int) + st * (b : Int) by rw [Int.natCast_add, Int.mul_add]; omega]
    omega
theorem lightV_congr {ns ms : List Int} {t u : Int} (h : t % (ms.length : Int) = u % (ms.length : Int)) : lightV ns ms t = lightV ns ms u := by
  rw [← lightV_mod t, h, lightV_mod]
theorem stepsV_mod (ns ms : List Int) (f st : Int) (k : Nat) : stepsV ns ms (f % (ms.length : Int)) st k = stepsV ns ms f st k := by
  unfold stepsV
  refine List.map_congr_left fun i _ => lightV_congr ?_
  rw [Int.emod_add_emod]
theorem stepsV_round {ns ms : List Int} (hl : ns.length = ms.length) (f st : Int) (k : Nat) : stepsV ns ms (f + st * (ns.length : Int)) st k = stepsV ns ms f st k := by
  unfold stepsV
  refine List.map_congr_left fun i _ => lightV_congr ?_
  rw [hl, show f + st * (ms.length : Int) + st * (i : Int) = f + st * (i : Int) + st * (ms.length : Int) by omega, Int.add_mul_emod_self_right]
theorem stepsV_rounds {ns ms : List Int} (hl : ns.length = ms.length) (f st : Int) (r : Nat) : ∀ q : Nat, (stepsV ns ms f st (q * ns.length + r)).sum = (q : Int) * (stepsV ns ms f st ns.length).sum + (stepsV ns ms f st r).sum
  | 0 => by simp
  | q + 1 => by
    rw [show (q + 1) * ns.length + r = ns.length + (q * ns.length + r) by rw [Nat.succ_mul]; omega, stepsV_add, stepsV_round hl, stepsV_rounds hl f st r q]
    rw [Int.natCast_succ, Int.add_mul]
    omega
theorem far_eq {ns ms : List Int} (hl : ns.length = ms.length) (h1 : 1 ≤ ns.length) (f st : Int) {N : Int} (h0 : 0 ≤ N) : farV ns ms f st N = (stepsV ns ms f st N.toNat).sum := by
  have hm := mod_in (i := N) (show 0 < ns.length by omega)
  have hq : 0 ≤ N / (ns.length : Int) := Int.ediv_nonneg h0 (by omega)
  have e : N.toNat = (N / (ns.length : Int)).toNat * ns.length + (N % (ns.length : Int)).toNat := by
    have e1 := Int.mul_ediv_add_emod N (ns.length : Int)
    have e2 : (((N / (ns.length : Int)).toNat * ns.length + (N % (ns.length : Int)).toNat : Nat) : Int) = N := by
      rw [Int.natCast_add, Int.natCast_mul, Int.toNat_of_nonneg hq, Int.toNat_of_nonneg hm.1, Int.mul_comm]
      exact e1
    omega
  rw [e, stepsV_rounds hl, Int.toNat_of_nonneg hq]
  unfold farV
  rw [stepsV_take (by omega)]
theorem far_parts {ns ms : List Int} (hl : ns.length = ms.length) (h1 : 1 ≤ ns.length) (f st : Int) {N M : Int} (h0 : 0 ≤ M) (hM : M ≤ N) : farV ns ms f st M + farV ns ms ((f + M * st) % (ns.length : Int)) st (N - M) = farV ns ms f st N := by
  rw [far_eq hl h1 f st h0, far_eq hl h1 _ st (show 0 ≤ N - M by omega), far_eq hl h1 f st (show 0 ≤ N by omega)]
  rw [show N.toNat = M.toNat + (N - M).toNat by omega, stepsV_add, hl, stepsV_mod, Int.toNat_of_nonneg h0, Int.mul_comm st M]
theorem stepsV_ab {a b : Nat} {ns ms : List Int} (h1 : Ab a ns) (h2 : Ab b ms) (hl : ns.length < 1024) (f st : Int) (k : Nat) : Ab (a + b + 10) (stepsV ns ms f st k) := fun n hn => by
  unfold stepsV at hn
  obtain ⟨i, _, rfl⟩ := List.mem_map.mp hn
  exact lightV_lt h1 h2 hl _
theorem steps_sum_lt {ns ms : List Int} (h1 : Ab 100 ns) (h2 : Ab 100 ms) (hl : ns.length < 1024) (f st : Int) (k : Nat) (hk : k < 1024) : (stepsV ns ms f st k).sum.natAbs < 2 ^ 220 :=
  sum_lt (stepsV_ab h1 h2 hl f st k) (by rw [stepsV_len]; exact hk)
theorem far_lt {ns ms : List Int} (h1 : Ab 100 ns) (h2 : Ab 100 ms) (hl : ns.length < 1024) (hp : 1 ≤ ns.length) (f st : Int) {N : Int} (h0 : 0 ≤ N) (hN : N.natAbs < 2 ^ 200) : (farV ns ms f st N).natAbs < 2 ^ 430 := by
  have hm := mod_in (i := N) (show 0 < ns.length by omega)
  have hq : 0 ≤ N / (ns.length : Int) := Int.ediv_nonneg h0 (by omega)
  have hqn : N / (ns.length : Int) ≤ N := Int.ediv_le_self _ h0
  have a1 : (N / (ns.length : Int)).natAbs < 2 ^ 200 := by omega
  have a2 := steps_sum_lt h1 h2 hl f st ns.length hl
  have a3 := wide_lt a1 a2
  unfold farV
  rw [stepsV_take (by omega)]
  have a4 := steps_sum_lt h1 h2 hl f st (N % (ns.length : Int)).toNat (by omega)
  have a5 := Int.natAbs_add_le (N / (ns.length : Int) * (stepsV ns ms f st ns.length).sum) (stepsV ns ms f st (N % (ns.length : Int)).toNat).sum
  have p1 : (2 : Nat) ^ 420 + 2 ^ 220 ≤ 2 ^ 430 := by decide +kernel
  have a3' : (N / (ns.length : Int) * (stepsV ns ms f st ns.length).sum).natAbs < 2 ^ 420 := a3
  exact Nat.lt_of_le_of_lt a5 (Nat.lt_of_lt_of_le (Nat.add_lt_add a3' a4) p1)
end Sd

namespace Sd
open PySem PySem.Spec PyProof.Rows L2

/-! ### lists of ints by their order -/
def LtI (a b : List Int) : Bool := PySem.W.dataLt (dI a) (dI b)
theorem ltI_irr (a : List Int) : LtI a a = false := lex_irrefl _
theorem ltI_trans {a b c : List Int} (h : LtI a b = true) (k : LtI b c = true) : LtI a c = true := lex_trans _ _ _ h k
theorem toks_int (x : Int) : PySem.W.keyToks (.int x) = [.inl x] := by rw [PySem.W.keyToks]
theorem toks_inj : ∀ {a b : List Int}, PySem.W.keyToksAll (a.map PyData.int) = PySem.W.keyToksAll (b.map PyData.int) → a = b
  | [], [], _ => rfl
  | [], y :: b, h => by
    rw [List.map_nil, List.map_cons, PySem.W.toks_all_cons, PySem.W.keyToksAll] at h
    have := (List.cons.inj h).1
    cases this
  | x :: a, [], h => by
    rw [List.map_nil, List.map_cons, PySem.W.toks_all_cons, PySem.W.keyToksAll] at h
    have := (List.cons.inj h).1
    cases this
  | x :: a, y :: b, h => by
    rw [List.map_cons, List.map_cons, PySem.W.toks_all_cons, PySem.W.toks_all_cons, toks_int, toks_int] at h
    have h2 := (List.cons.inj h).2
    have h3 := (List.cons.inj h2).1
    have h4 := (List.cons.inj h2).2
    cases h3
    rw [toks_inj h4]
theorem ltI_total {a b : List Int} (h : LtI a b = false) (k : LtI b a = false) : a = b := by
  have e := lex_total _ _ h k
  unfold dI at e
  rw [PySem.W.keyToks, PySem.W.keyToks] at e
  exact toks_inj e
/-- the least of some lists -/
def LeastI (S : List (List Int)) (m : List Int) : Prop := m ∈ S ∧ ∀ y ∈ S, LtI y m = false
theorem least_one {S : List (List Int)} {m m' : List Int} (h : LeastI S m) (k : LeastI S m') : m = m' := ltI_total (k.2 _ h.1) (h.2 _ k.1)
theorem least_set {S S' : List (List Int)} {m : List Int} (h : LeastI S m) (e : ∀ x, x ∈ S ↔ x ∈ S') : LeastI S' m := ⟨(e _).mp h.1, fun y hy => h.2 y ((e _).mpr hy)⟩
theorem least_le {S : List (List Int)} {m y : List Int} (h : LeastI S m) (hy : y ∈ S) : m = y ∨ LtI m y = true := by
  cases q : LtI m y with
  | true => exact .inr rfl
  | false => exact .inl (ltI_total q (h.2 _ hy))
theorem least_app {S S' : List (List Int)} {a b : List Int} (h : LeastI S a) (k : LeastI S' b) : LeastI (S ++ S') (if LtI b a then b else a) := by
  cases q : LtI b a with
  | true =>
    refine ⟨List.mem_append_right _ k.1, fun y hy => ?_⟩
    rcases List.mem_append.mp hy with hy | hy
    · cases z : LtI y b with
      | false => exact z
      | true =>
        have := ltI_trans z q
        rw [h.2 _ hy] at this
        cases this
    · exact k.2 _ hy
  | false =>
    refine ⟨List.mem_append_left _ h.1, fun y hy => ?_⟩
    rcases List.mem_append.mp hy with hy | hy
    · exact h.2 _ hy
    · cases z : LtI y a with
      | false => exact z
      | true =>
        exfalso
        rcases least_le k hy with e | e
        · rw [e, z] at q
          cases q
        · rw [ltI_trans e z] at q
          cases q
theorem minD_least (x : List Int) (xs : List (List Int)) : ∃ m, PySem.W.minD (dI x) (xs.map dI) = dI m ∧ LeastI (x :: xs) m := by
  have key : ∀ (xs done : List (List Int)) (x : List Int), LeastI done x → ∃ m, PySem.W.minD (dI x) (xs.map dI) = dI m ∧ LeastI (done ++ xs) m := by
    intro xs
    induction xs with
    | nil =>
      intro done x h
      exact ⟨x, rfl, by rw [List.append_nil]; exact h⟩
    | cons y r ih =>
      intro done x h
      have h2 : LeastI (done ++ [y]) (if LtI y x then y else x) := least_app h ⟨List.mem_singleton.mpr rfl, fun z hz => by rw [List.mem_singleton.mp hz]; exact ltI_irr _⟩
      obtain ⟨m, e, hm⟩ := ih _ _ h2
      refine ⟨m, ?_, by rw [List.append_assoc] at hm; exact hm⟩
      rw [← e]
      unfold PySem.W.minD
      rw [List.map_cons, List.foldl_cons]
      have e2 : (if PySem.W.dataLt (dI y) (dI x) then dI y else dI x) = dI (if LtI y x then y else x) := by
        show (if LtI y x = true then dI y else dI x) = dI (if LtI y x then y else x)
        cases LtI y x <;> rfl
      rw [e2]
  exact key xs [x] x ⟨List.mem_singleton.mpr rfl, fun z hz => by rw [List.mem_singleton.mp hz]; exact ltI_irr _⟩

theorem dI_inj {a b : List Int} (h : dI a = dI b) : a = b := by
  unfold dI at h
  have h2 := PyData.list.inj h
  have : ∀ {a b : List Int}, a.map PyData.int = b.map PyData.int → a = b := by
    intro a
    induction a with
    | nil => intro b h; cases b with
      | nil => rfl
      | cons _ _ => cases h
    | cons x a ih => intro b h; cases b with
      | nil => cases h
      | cons y b =>
        rw [List.map_cons, List.map_cons] at h
        have := PyData.int.inj (List.cons.inj h).1
        rw [this, ih (List.cons.inj h).2]
  exact this h2
theorem alike_ints : ∀ a b : List Int, PySem.W.alikeAll (a.map PyData.int) (b.map PyData.int) = true
  | [], _ => by rw [List.map_nil, PySem.W.alikeAll]
  | _ :: _, [] => by rw [List.map_nil, List.map_cons, PySem.W.alikeAll]
  | x :: a, y :: b => by
    rw [List.map_cons, List.map_cons, PySem.W.alikeAll, alike_ints a b, PySem.W.alike]
    rfl
theorem alike_dI (a b : List Int) : PySem.W.alike (dI a) (dI b) = true := by
  unfold dI
  rw [PySem.W.alike]
  exact alike_ints a b
theorem alikeAll_dI (S : List (List Int)) : PySem.W.AlikeAll (S.map dI) := by
  refine ⟨fun x hx y hy => ?_, fun x hx e => ?_⟩
  · obtain ⟨a, _, rfl⟩ := List.mem_map.mp hx
    obtain ⟨b, _, rfl⟩ := List.mem_map.mp hy
    exact alike_dI a b
  · obtain ⟨a, _, rfl⟩ := List.mem_map.mp hx
    unfold dI at e
    cases e
theorem depthAll_ints : ∀ a : List Int, PyData.depthAll (a.map PyData.int) = 0
  | [] => rfl
  | x :: a => by
    show max (PyData.depth (.int x)) (PyData.depthAll (a.map PyData.int)) = 0
    rw [depthAll_ints a]
    simp only [PyData.depth, Nat.max_self]
theorem depth_dI (a : List Int) : (dI a).depth ≤ 1 := by
  unfold dI
  simp only [PyData.depth]
  rw [depthAll_ints]
  exact Nat.le_refl _
theorem depthAll_dI : ∀ S : List (List Int), PyData.depthAll (S.map dI) ≤ 1
  | [] => by show (0 : Nat) ≤ 1; omega
  | a :: S => by
    show max (dI a).depth (PyData.depthAll (S.map dI)) ≤ 1
    have h1 := depth_dI a
    have h2 := depthAll_dI S
    omega

theorem readsAll_kp {h h' : Heap} (k : ∀ c o, h.get? c = some o → h'.get? c = some o) : ∀ {us : List Value} {ds : List PyData} {as : List Addr}, PySem.ReadsAll h us ds as → PySem.ReadsAll h' us ds as
  | _, _, _, .nil => .nil
  | _, _, _, .cons r rs => .cons (PySem.W.reads_keeps k r) (readsAll_kp k rs)
theorem readsAll_ix {h : Heap} : ∀ {us : List Value} {ds : List PyData} {as : List Addr} {i : Nat} {u : Value}, PySem.ReadsAll h us ds as → us[i]? = some u → ∃ d bs, ds[i]? = some d ∧ PySem.Reads h u d bs
  | _, _, _, _, _, .nil, e => by simp at e
  | _, _, _, 0, _, .cons r _, e => by
    have e := Option.some.inj (show some _ = some _ from e)
    subst e
    exact ⟨_, _, rfl, r⟩
  | _, _, _, i + 1, _, .cons _ rs, e => by
    obtain ⟨d, bs, h1, h2⟩ := readsAll_ix (i := i) rs (by simpa using e)
    exact ⟨d, bs, by simpa using h1, h2⟩
theorem vals_ix : ∀ {vs : List V} {us : List Value} {i : Nat} {u : Value}, Vals vs us → us[i]? = some u → ∃ v, vs[i]? = some v ∧ RelV v u
  | _, _, _, _, .nil, e => by simp at e
  | _, _, 0, _, .cons r _, e => by
    have e := Option.some.inj (show some _ = some _ from e)
    subst e
    exact ⟨_, rfl, r⟩
  | _, _, i + 1, _, .cons _ rs, e => by
    obtain ⟨d, h1, h2⟩ := vals_ix (i := i) rs (by simpa using e)
    exact ⟨d, by simpa using h1, h2⟩

/-! ### min(S), S a list of lists of ints -/
def rMinI (K : PySem.W.Frag) : List V → Hp → VK → Prop := fun vs H Q => ∃ (a : Addr) (xs : List V) (S : List (List Int)), vs = [V.ref a] ∧ SqL K H a xs ∧ DpAll K H xs (S.map dI) ∧ 0 < S.length ∧
  ∀ (i : Nat) (v : V) (m : List Int), xs[i]? = some v → S[i]? = some m → LeastI S m → Q v H
theorem cr_minI {X : Cx} {K : PySem.W.Frag} (hK : X.K = K) (hc : X.calm = true) {k : Nat} (hr : Room k X.A) : CallR X (.builtin "min") (rMinI K) := by
  subst hK
  intro pins s σ H vs us Q I r h
  obtain ⟨a, xs, S, rfl, hs, hd, hne, q⟩ := h
  obtain ⟨its, rv, hl, _⟩ := I.list hs
  rw [Vals.ref1 r]
  obtain ⟨as, hR⟩ := Dp.readsAll I _ _ _ hd rv
  cases S with
  | nil => exact absurd hne (Nat.lt_irrefl 0)
  | cons x S =>
    have hu := hr.units
    have hd1 := depthAll_dI (x :: S)
    refine PySem.W.min_list_data (x := dI x) (xs := S.map dI) (as := as) (I.ok.hd hc) hl.isList hR (alikeAll_dI (x :: S)) ?_ fun i v h' tk bs hv hR' kp => ?_
    · have e : PyData.depthAll (dI x :: S.map dI) ≤ 1 := hd1
      omega
    · obtain ⟨m, em, hm⟩ := minD_least x S
      have hv' : its[i]? = some v := by simpa using hv
      obtain ⟨d, cs, hd2, hR2⟩ := readsAll_ix hR hv'
      obtain ⟨y, hy, ry⟩ := vals_ix rv hv'
      obtain ⟨n, hn, e⟩ : ∃ n, (x :: S)[i]? = some n ∧ d = dI n := by
        rw [List.getElem?_map] at hd2
        cases z : (x :: S)[i]? with
        | none =>
          rw [z] at hd2
          cases hd2
        | some n =>
          rw [z] at hd2
          exact ⟨n, rfl, (Option.some.inj hd2).symm⟩
      subst e
      rw [em] at hR'
      have e2 := PySem.W.alike_unique _ _ v _ _ (alike_dI n m) (PySem.W.reads_keeps kp hR2) hR'
      have e3 := dI_inj e2
      subst e3
      exact ⟨y, H, I.kept kp, ry, q i y n hy hn hm⟩
/-! ### min(a, b) of two values, compared where a heap stands -/
section
variable {prog : Program} {w : World} {A : Around} {E : Value → Shared → Prop} {s : Shared}
theorem min_pair {a b : Value} {x y : PyData} {as : List Addr} {Q : Value → Shared → Prop} (hh : A.handled = none) (hR : PySem.ReadsAll s.heap [a, b] [x, y] as) (ha : PySem.W.AlikeAll [x, y]) (hu : A.units + 1 + PyData.depthAll [x, y] < cLine)
    (h : ∀ h' tk, (∀ c o, s.heap.get? c = some o → h'.get? c = some o) → Q (if PySem.W.dataLt y x then b else a) { s with heap := h', toks := tk }) : wpAny (model prog w) A (call (.builtin "min") [a, b]) Q E s := by
  have nm : (toString "min" ++ toString ".loop" : String) = "min.loop" := by decide
  have hT : (s.heap.push { cls := .type "tuple", data := .seq #[a, b] }).IsTuple s.heap.objs.size #[a, b] := ⟨_, Heap.get?_push_size _ rfl, rfl, 0, rfl⟩
  have kp0 : ∀ c o, s.heap.get? c = some o → (s.heap.push { cls := .type "tuple", data := .seq #[a, b] }).get? c = some o := fun c o e => Heap.get?_push_of_some _ e
  have hR2 : PySem.ReadsAll (s.heap.push { cls := .type "tuple", data := .seq #[a, b] }) (#[a, b] : Array Value).toList [x, y] as := readsAll_kp kp0 hR
  refine call_function_tree F.kind_min F.plain_min F.entry_min (F.args_min2 _ _) ?_
  show wpAny _ A.in1 (Builtin.Builtins.bindParams _ _ _ _ >>= _) _ _ s
  refine wpAny_bind (wpAny_of_eq (show Builtin.Builtins.bindParams "min" ["key", "default"] 0 ⟨[], []⟩ = pure [none, none] from rfl) (show wpAny _ A.in1 (newTuple [a, b] >>= _) _ _ s from wpAny_bind (wpAny_newObj_type (wpAny_bind ?_))))
  refine PySem.W.iter_tupleW (A := A.in1) (s := { s with heap := s.heap.push { cls := .type "tuple", data := .seq #[a, b] } }) hh hT fun s₂ e W st hfp hw hk => ?_
  have hS : s₂.heap.objs.size ∉ _ := fun hm => Nat.lt_irrefl _ (hfp _ hm)
  refine wpAny_bind (wpAny_newObj_type ?_)
  rw [nm]
  refine wpAny_pure ⟨plainId_quiet F.plain_min_loop _, codeAny_min_loop_firstH W (s.heap.push { cls := .type "tuple", data := .seq #[a, b] }) hw (fun i j => PySem.W.dataLt ([x, y].getD i .none) ([x, y].getD j .none)) ?_ s₂.heap.objs.size hS (fresh_in hk) _ (show 0 < 2 by decide) (fun c o e => Heap.get?_push_of_some _ (hk c o e)) (W.frame 0 s₂ _ s₂.toks st (Nat.le_refl _) fun c _ o e => Heap.get?_push_of_some _ e) (Heap.get?_push_size _ rfl) fun v s' hP hm => ?_⟩
  · exact PySem.W.cmpIn_lt (A := A.in1) (s := { s with heap := s.heap.push { cls := .type "tuple", data := .seq #[a, b] } }) hR2 ha hu
  · obtain ⟨h', tk, rfl, hk'⟩ := PySem.W.moved_old e rfl (Moved.drop_new (tk := s₂.toks) hm (Nat.le_refl _))
    have q := h h' tk fun c o e => hk' c o (kp0 c o e)
    have ev : v = if PySem.W.dataLt y x then b else a := by
      cases z : PySem.W.dataLt y x with
      | true =>
        have e1 : argBest (fun i j => PySem.W.dataLt ([x, y].getD i .none) ([x, y].getD j .none)) 1 = 1 := if_pos z
        rw [show (#[a, b] : Array Value).size - 1 = 1 from rfl, e1] at hP
        exact (Option.some.inj hP).symm
      | false =>
        have e1 : argBest (fun i j => PySem.W.dataLt ([x, y].getD i .none) ([x, y].getD j .none)) 1 = 0 := if_neg (fun c => by
          have c : PySem.W.dataLt y x = true := c
          rw [z] at c
          cases c)
        rw [show (#[a, b] : Array Value).size - 1 = 1 from rfl, e1] at hP
        exact (Option.some.inj hP).symm
    rw [ev]
    exact q
end
/-- min(a, b) of two lists of ints -/
def rMin2 (K : PySem.W.Frag) : List V → Hp → VK → Prop := fun vs H Q => ∃ (x y : V) (a b : List Int), vs = [x, y] ∧ Dp K H x (dI a) ∧ Dp K H y (dI b) ∧ Q (if LtI b a then y else x) H
theorem cr_min2 {X : Cx} {K : PySem.W.Frag} (hK : X.K = K) (hc : X.calm = true) {k : Nat} (hr : Room k X.A) : CallR X (.builtin "min") (rMin2 K) := by
  subst hK
  intro pins s σ H vs us Q I r h
  obtain ⟨x, y, a, b, rfl, hx, hy, q⟩ := h
  obtain ⟨as, hR⟩ := Dp.readsAll I _ _ _ (.cons hx (.cons hy .nil)) r
  cases r with
  | cons r1 r2 =>
    cases r2 with
    | cons r2 r3 =>
      cases r3
      have hu := hr.units
      have hd1 := depthAll_dI [a, b]
      refine min_pair (I.ok.hd hc) hR (alikeAll_dI [a, b]) ?_ fun h' tk kp => ?_
      · have e : PyData.depthAll [dI a, dI b] ≤ 1 := hd1
        omega
      · have q : Q (if PySem.W.dataLt (dI b) (dI a) then y else x) H := q
        cases z : PySem.W.dataLt (dI b) (dI a) with
        | true =>
          rw [z] at q
          exact ⟨y, H, I.kept kp, r2, q⟩
        | false =>
          rw [z] at q
          exact ⟨x, H, I.kept kp, r1, q⟩
end Sd

namespace Sd
open PySem PySem.Spec PyProof.Rows L2

/-! ### turns, and all that are like -/
theorem ext_getD {a b : List Int} (hl : a.length = b.length) (h : ∀ j, j < a.length → a.getD j 0 = b.getD j 0) : a = b := by
  refine List.ext_getElem? fun j => ?_
  by_cases q : j < a.length
  · rw [at_getD q, at_getD (by omega), h j q]
  · rw [List.getElem?_eq_none (by omega), List.getElem?_eq_none (by omega)]
theorem rot_get {ns : List Int} {t : Int} {j : Nat} (h : j < ns.length) : (rot ns t).getD j 0 = ns.getD ((((j : Int) - t) % (ns.length : Int)).toNat) 0 := getD_at (rot_at h)
theorem mir_get {ns : List Int} {j : Nat} (h : j < ns.length) : (mir ns).getD j 0 = ns.getD (((-(j : Int)) % (ns.length : Int)).toNat) 0 := getD_at (mir_at h)
theorem rot_add (ns : List Int) (s t : Int) : rot (rot ns s) t = rot ns (s + t) := by
  refine ext_getD (by simp only [rot_len]) fun j hj => ?_
  simp only [rot_len] at hj
  have hm := mod_in (i := (j : Int) - t) (show 0 < ns.length by omega)
  rw [rot_get (by rw [rot_len]; exact hj), rot_len, rot_get (by omega), rot_get hj]
  rw [Int.toNat_of_nonneg hm.1, Int.emod_sub_emod]
  rw [show (j : Int) - t - s = (j : Int) - (s + t) by omega]
theorem rot_zero (ns : List Int) : rot ns 0 = ns := by
  refine ext_getD (rot_len _ _) fun j hj => ?_
  rw [rot_len] at hj
  rw [rot_get hj, Int.sub_zero, Int.emod_eq_of_lt (by omega) (by omega), Int.toNat_natCast]
theorem rot_full (ns : List Int) : rot ns (ns.length : Int) = ns := by
  rw [← rot_mod, Int.emod_self, rot_zero]
theorem mir_rot (ns : List Int) (t : Int) : mir (rot ns t) = rot (mir ns) (-t) := by
  refine ext_getD (by simp only [rot_len, mir_len]) fun j hj => ?_
  simp only [rot_len, mir_len] at hj
  have hm := mod_in (i := -(j : Int)) (show 0 < ns.length by omega)
  have hm2 := mod_in (i := (j : Int) - -t) (show 0 < ns.length by omega)
  rw [mir_get (by rw [rot_len]; exact hj), rot_len, rot_get (by omega), rot_get (by rw [mir_len]; exact hj), mir_len, mir_get (by omega)]
  rw [Int.toNat_of_nonneg hm.1, Int.toNat_of_nonneg hm2.1, Int.emod_sub_emod]
  have e : (-(((j : Int) - -t) % (ns.length : Int))) % (ns.length : Int) = (-((j : Int) - -t)) % (ns.length : Int) := by
    rw [← Int.zero_sub, ← Int.zero_sub ((j : Int) - -t), Int.sub_emod_emod]
  rw [e, show -((j : Int) - -t) = -(j : Int) - t by omega]
def turnsL (ns : List Int) : List (List Int) := (List.range ns.length).map fun (t : Nat) => rot ns (t : Int)
def bothL (ns : List Int) : List (List Int) := turnsL ns ++ turnsL (mir ns)
theorem turns_len (ns : List Int) : (turnsL ns).length = ns.length := by
  unfold turnsL
  rw [List.length_map, List.length_range]
theorem mem_turns {ns x : List Int} (h : 1 ≤ ns.length) : x ∈ turnsL ns ↔ ∃ t : Int, x = rot ns t := by
  unfold turnsL
  constructor
  · intro hx
    obtain ⟨t, _, rfl⟩ := List.mem_map.mp hx
    exact ⟨_, rfl⟩
  · intro ⟨t, ht⟩
    have hm := mod_in (i := t) (show 0 < ns.length by omega)
    refine List.mem_map.mpr ⟨(t % (ns.length : Int)).toNat, List.mem_range.mpr (by omega), ?_⟩
    rw [Int.toNat_of_nonneg hm.1, rot_mod, ht]
theorem mem_both {ns x : List Int} (h : 1 ≤ ns.length) : x ∈ bothL ns ↔ ∃ t : Int, x = rot ns t ∨ x = rot (mir ns) t := by
  unfold bothL
  rw [List.mem_append, mem_turns h, mem_turns (by rw [mir_len]; exact h)]
  constructor
  · rintro (⟨t, e⟩ | ⟨t, e⟩)
    · exact ⟨t, .inl e⟩
    · exact ⟨t, .inr e⟩
  · rintro ⟨t, e | e⟩
    · exact .inl ⟨t, e⟩
    · exact .inr ⟨t, e⟩
theorem both_len {ns x : List Int} (h : 1 ≤ ns.length) (hx : x ∈ bothL ns) : x.length = ns.length := by
  obtain ⟨t, rfl | rfl⟩ := (mem_both h).mp hx
  · exact rot_len _ _
  · rw [rot_len, mir_len]
theorem both_sub {ns ms x : List Int} (h : 1 ≤ ns.length) (hm : ms ∈ bothL ns) (hx : x ∈ bothL ms) : x ∈ bothL ns := by
  have hl := both_len h hm
  obtain ⟨s, e⟩ := (mem_both (by omega)).mp hx
  obtain ⟨t, rfl | rfl⟩ := (mem_both h).mp hm
  · rcases e with rfl | rfl
    · rw [rot_add]
      exact (mem_both h).mpr ⟨_, .inl rfl⟩
    · rw [mir_rot, rot_add]
      exact (mem_both h).mpr ⟨_, .inr rfl⟩
  · rcases e with rfl | rfl
    · rw [rot_add]
      exact (mem_both h).mpr ⟨_, .inr rfl⟩
    · rw [mir_rot, mir_mir, rot_add]
      exact (mem_both h).mpr ⟨_, .inl rfl⟩
theorem both_symm {ns ms : List Int} (h : 1 ≤ ns.length) (hm : ms ∈ bothL ns) : ns ∈ bothL ms := by
  have hl := both_len h hm
  obtain ⟨t, rfl | rfl⟩ := (mem_both h).mp hm
  · refine (mem_both (by omega)).mpr ⟨-t, .inl ?_⟩
    rw [rot_add, show t + -t = 0 by omega, rot_zero]
  · refine (mem_both (by omega)).mpr ⟨t, .inr ?_⟩
    rw [mir_rot, mir_mir, rot_add, show -t + t = 0 by omega, rot_zero]
theorem like_iff {ns ms m m' : List Int} (h : 1 ≤ ns.length) (h2 : 1 ≤ ms.length) (hm : LeastI (bothL ns) m) (hm' : LeastI (bothL ms) m') : m = m' ↔ ms ∈ bothL ns := by
  constructor
  · rintro rfl
    exact both_sub h hm.1 (both_symm h2 hm'.1)
  · intro e
    refine least_one hm (least_set hm' fun x => ⟨both_sub h e, both_sub h2 (both_symm h e)⟩)
theorem eqv_dI (a b : List Int) : PyData.eqv (dI a) (dI b) = decide (a = b) := by
  by_cases e : a = b
  · subst e
    rw [decide_eq_true rfl]
    exact PySem.W.eqv_refl_alike _ (alike_dI a a)
  · rw [decide_eq_false e]
    cases q : PyData.eqv (dI a) (dI b) with
    | false => rfl
    | true =>
      exfalso
      have z := (PySem.W.toks_eqv (dI a) (dI b) (alike_dI a b)).1 q
      unfold dI at z
      rw [PySem.W.keyToks, PySem.W.keyToks] at z
      exact e (toks_inj z)
theorem any_dI (S : List (List Int)) (m : List Int) : ((S.map dI).any fun z => PyData.eqv z (dI m)) = decide (m ∈ S) := by
  induction S with
  | nil => simp
  | cons a S ih =>
    rw [List.map_cons, List.any_cons, ih, eqv_dI]
    by_cases e : a = m
    · subst e
      simp
    · have e2 : ¬ m = a := fun z => e z.symm
      simp [e, e2]

/-! ### the turns at which one becomes the other -/
def hits (xs ys : List Int) (o : Int) : Nat → List Int
  | 0 => []
  | k + 1 => hits xs ys o k ++ (if rot xs (o + (k : Int)) = ys then [o + (k : Int)] else [])
theorem hits_yes {xs ys : List Int} {o : Int} {k : Nat} (h : rot xs (o + (k : Int)) = ys) : hits xs ys o (k + 1) = hits xs ys o k ++ [o + (k : Int)] := by
  rw [hits, if_pos h]
theorem hits_no {xs ys : List Int} {o : Int} {k : Nat} (h : ¬ rot xs (o + (k : Int)) = ys) : hits xs ys o (k + 1) = hits xs ys o k := by
  rw [hits, if_neg h, List.append_nil]
theorem hits_more (xs ys : List Int) (o : Int) (k : Nat) : ∀ m, ∃ r, hits xs ys o (k + m) = hits xs ys o k ++ r
  | 0 => ⟨[], by rw [List.append_nil]; rfl⟩
  | m + 1 => by
    obtain ⟨r, e⟩ := hits_more xs ys o k m
    refine ⟨r ++ (if rot xs (o + ((k + m : Nat) : Int)) = ys then [o + ((k + m : Nat) : Int)] else []), ?_⟩
    rw [← List.append_assoc, ← e]
    rfl
theorem hits_head {xs ys : List Int} {o : Int} {k n : Nat} (h0 : hits xs ys o k = []) (h : rot xs (o + (k : Int)) = ys) (hk : k < n) : ∃ r, hits xs ys o n = (o + (k : Int)) :: r := by
  obtain ⟨r, e⟩ := hits_more xs ys o (k + 1) (n - (k + 1))
  rw [show k + 1 + (n - (k + 1)) = n by omega, hits_yes h, h0] at e
  exact ⟨r, e⟩
theorem hits_shift (xs ys : List Int) (o : Int) : ∀ k, hits xs ys o k = (hits (rot xs o) ys 0 k).map (o + ·)
  | 0 => rfl
  | k + 1 => by
    have e : rot (rot xs o) (0 + (k : Int)) = rot xs (o + (k : Int)) := by rw [rot_add, show o + (0 + (k : Int)) = o + (k : Int) by omega]
    by_cases q : rot xs (o + (k : Int)) = ys
    · rw [hits_yes q, hits_yes (by rw [e]; exact q), hits_shift xs ys o k, List.map_append]
      simp
    · rw [hits_no q, hits_no (by rw [e]; exact q), hits_shift xs ys o k]
theorem hits_all {xs ys : List Int} {o : Int} : ∀ {k : Nat}, ∀ t ∈ hits xs ys o k, o ≤ t ∧ t < o + (k : Int)
  | 0, t, h => by cases h
  | k + 1, t, h => by
    rw [hits] at h
    rcases List.mem_append.mp h with h | h
    · have := hits_all t h
      omega
    · split at h
      · have := List.mem_singleton.mp h
        omega
      · cases h
theorem hits_len (xs ys : List Int) (o : Int) : ∀ k, (hits xs ys o k).length ≤ k
  | 0 => Nat.le_refl _
  | k + 1 => by
    have := hits_len xs ys o k
    rw [hits, List.length_append]
    split
    · simp only [List.length_singleton]; omega
    · simp only [List.length_nil]; omega
theorem hits_ab {xs ys : List Int} {o : Int} {k : Nat} (h0 : 0 ≤ o) (ho : o ≤ 10) (hk : k ≤ 1000) : Ab 100 (hits xs ys o k) := fun t ht => by
  have := hits_all t ht
  exact Nat.lt_of_lt_of_le (m := 1100) (by omega) (by decide)
/-- the period -/
def perL (ns : List Int) : List Int := hits ns ns 1 ns.length
theorem per_ex {ns : List Int} (h : 1 ≤ ns.length) : ∃ p r, perL ns = p :: r := by
  unfold perL
  cases e : hits ns ns 1 ns.length with
  | cons p r => exact ⟨p, r, rfl⟩
  | nil =>
    exfalso
    obtain ⟨k, hk⟩ : ∃ k, ns.length = k + 1 := ⟨ns.length - 1, by omega⟩
    rw [hk, hits_yes (by rw [show (1 : Int) + (k : Int) = ((k + 1 : Nat) : Int) by omega, ← hk]; exact rot_full ns)] at e
    have := congrArg List.length e
    simp at this

/-! ### rows of new lists -/
inductive Rows (H H' : Hp) : List V → List (List Int) → Prop
  | nil : Rows H H' [] []
  | cons {l : Addr} {m : List Int} {vs : List V} {S : List (List Int)} : H l = none → H' l = some (.lst (m.map V.int)) → Rows H H' vs S → Rows H H' (.ref l :: vs) (m :: S)
theorem Rows.up {H H1 H2 : Hp} {vs : List V} {S : List (List Int)} (h : Rows H H1 vs S) (s : Same H1 H2) : Rows H H2 vs S := by
  induction h with
  | nil => exact .nil
  | cons a b _ ih => exact .cons a (s _ _ b) ih
theorem Rows.down {H0 H H1 : Hp} {vs : List V} {S : List (List Int)} (h : Rows H H1 vs S) (s : Same H0 H) : Rows H0 H1 vs S := by
  induction h with
  | nil => exact .nil
  | cons a b _ ih => exact .cons (s.free a) b ih
theorem Rows.snoc {H H1 : Hp} {vs : List V} {S : List (List Int)} {l : Addr} {m : List Int} (h : Rows H H1 vs S) (a : H l = none) (b : H1 l = some (.lst (m.map V.int))) : Rows H H1 (vs ++ [.ref l]) (S ++ [m]) := by
  induction h with
  | nil => exact .cons a b .nil
  | cons c d _ ih => exact .cons c d ih
theorem Rows.app {H H1 : Hp} {vs ws : List V} {S T : List (List Int)} (h : Rows H H1 vs S) (k : Rows H H1 ws T) : Rows H H1 (vs ++ ws) (S ++ T) := by
  induction h with
  | nil => exact k
  | cons c d _ ih => exact .cons c d ih
theorem Rows.len {H H1 : Hp} {vs : List V} {S : List (List Int)} (h : Rows H H1 vs S) : vs.length = S.length := by
  induction h with
  | nil => rfl
  | cons _ _ _ ih => rw [List.length_cons, List.length_cons, ih]
theorem Rows.dp {K : PySem.W.Frag} {H H1 : Hp} {vs : List V} {S : List (List Int)} (h : Rows H H1 vs S) : DpAll K H1 vs (S.map dI) := by
  induction h with
  | nil => exact .nil
  | cons _ b _ ih => exact .cons (dp_ints (SqL.of b)) ih
theorem Rows.at {H H1 : Hp} {vs : List V} {S : List (List Int)} (h : Rows H H1 vs S) {i : Nat} {v : V} (hv : vs[i]? = some v) : ∃ l m, v = .ref l ∧ S[i]? = some m ∧ H l = none ∧ H1 l = some (.lst (m.map V.int)) := by
  induction h generalizing i with
  | nil => simp at hv
  | cons a b _ ih =>
    cases i with
    | zero =>
      have e := Option.some.inj (show some _ = some _ from hv)
      subst e
      exact ⟨_, _, rfl, rfl, a, b⟩
    | succ i => exact ih (i := i) (by simpa using hv)
theorem take_map_next {f : Nat → List Int} {n i : Nat} (h : i < n) : ((List.range n).map f).take i ++ [f i] = ((List.range n).map f).take (i + 1) := by
  rw [List.take_add_one, List.getElem?_map, List.getElem?_range h]
  rfl
theorem rows_over {H H1 : Hp} {vs : List V} {S : List (List Int)} {D : Addr} {o : HO} (h : Rows H H1 vs S) (k : ∀ l, V.ref l ∈ vs → l ≠ D) : Rows H (upd H1 D o) vs S := by
  induction h with
  | nil => exact .nil
  | cons a b _ ih => exact .cons a (by rw [upd_ne (k _ List.mem_cons_self)]; exact b) (ih fun l hl => k l (List.mem_cons_of_mem _ hl))
theorem Rows.ne {H H1 : Hp} {vs : List V} {S : List (List Int)} {D : Addr} {o : HO} (h : Rows H H1 vs S) (e : H1 D = some (.lst vs)) : ∀ l, V.ref l ∈ vs → l ≠ D := by
  intro l hl z
  subst z
  have : ∀ {ws : List V} {T : List (List Int)}, Rows H H1 ws T → V.ref l ∈ ws → ∃ m : List Int, H1 l = some (.lst (m.map V.int)) := by
    intro ws T h2
    induction h2 with
    | nil => intro z; cases z
    | cons a b _ ih =>
      intro z
      rcases List.mem_cons.mp z with z | z
      · cases z
        exact ⟨_, b⟩
      · exact ih z
  obtain ⟨m, hm⟩ := this h hl
  rw [e] at hm
  have hm : vs = m.map V.int := by
    have := Option.some.inj hm
    injection this
  rw [hm] at hl
  obtain ⟨i, _, z⟩ := List.mem_map.mp hl
  cases z
theorem Rim.of_both {ns m : List Int} (h : Rim ns) (hm : m ∈ bothL ns) : Rim m := by
  obtain ⟨t, rfl | rfl⟩ := (mem_both h.pos).mp hm
  · exact h.rot t
  · exact h.mir.rot t
theorem tank_free {T : Addr} {H H' : Hp} {c d : Int} {p : Addr} (u : But T H H') (k : Tank H T c) (k' : Tank H' T d) (h : H' p = none) : H p = none := by
  obtain ⟨o, e⟩ := k.some
  obtain ⟨o', e'⟩ := k'.some
  exact free_but u e h (by rw [e']; exact fun z => nomatch z)
/-- one of some new lists -/
def OneOf (H H' : Hp) (T : Addr) (n : Nat) (v : V) : Prop := ∃ (l : Addr) (ms : List Int), v = .ref l ∧ H l = none ∧ l ≠ T ∧ H' l = some (.lst (ms.map V.int)) ∧ Rim ms ∧ ms.length = n
theorem OneOf.but {H H1 H2 : Hp} {T : Addr} {n : Nat} {v : V} (h : OneOf H H1 T n v) (u : But T H1 H2) : OneOf H H2 T n v := by
  obtain ⟨l, ms, e, a, b, c, d, f⟩ := h
  exact ⟨l, ms, e, a, b, u _ _ c b, d, f⟩
theorem at_any {xs : List V} {i : Int} (h0 : 0 ≤ i) (h1 : i < xs.length) : ∃ v, v ∈ xs ∧ atI xs i = some v := by
  obtain ⟨j, rfl⟩ : ∃ j : Nat, i = (j : Int) := ⟨i.toNat, by omega⟩
  have h3 : j < xs.length := by omega
  exact ⟨xs[j], List.getElem_mem h3, atI_nat (List.getElem?_eq_getElem h3)⟩
theorem rows_step {H H1 H2 : Hp} {D l : Addr} {vs : List V} {S : List (List Int)} {i : Nat} {m : List Int} (hD : H D = none) (s1 : Same H H1) (hD1 : H1 D = some (.lst vs)) (hr1 : Rows H H1 vs (S.take i)) (s2 : Same H1 H2) (hl : H1 l = none) (hl2 : H2 l = some (.lst (m.map V.int))) (hi : S[i]? = some m) :
    Same H (upd H2 D (.lst (vs ++ [.ref l]))) ∧ Rows H (upd H2 D (.lst (vs ++ [.ref l]))) (vs ++ [.ref l]) (S.take (i + 1)) := by
  refine ⟨same_over (s1.trans s2) hD, ?_⟩
  have nl : l ≠ D := fun e => by
    rw [e, hD1] at hl
    cases hl
  have hr3 := hr1.up s2
  have hr4 := rows_over (o := .lst (vs ++ [.ref l])) hr3 (hr3.ne (o := .lst vs) (s2 _ _ hD1))
  have := hr4.snoc (s1.free hl) (m := m) (by rw [upd_ne nl]; exact hl2)
  rw [List.take_add_one, hi]
  exact this
theorem turns_at {ns : List Int} {i : Nat} (h : i < ns.length) : (turnsL ns)[i]? = some (rot ns (0 + (i : Int))) := by
  unfold turnsL
  rw [List.getElem?_map, List.getElem?_range h, Int.zero_add]
  rfl
theorem rows_fit {H H1 : Hp} {vs : List V} {S : List (List Int)} {i n : Nat} (h : Rows H H1 vs (S.take i)) (hn : S.length = n) (hk : n ≤ 100000) : vs.length < sizeLine := by
  have := h.len
  rw [List.length_take] at this
  exact sz40 (by omega)
/-- the answers, as data -/
def ansD (p hs : List Int) (m m2 : List Int) (x : Bool) : PyData := .list [headD p, headD hs, dI m, dI m2, .bool x]
theorem rp_bl (x : Bool) : RP (.bool x) := ⟨by simp only [PyData.showable], by simp only [PyData.hasDict], by simp only [PyData.canLay0], by simp only [PyData.depth]; omega⟩
theorem depth_head : ∀ l : List Int, (headD l).depth ≤ 1
  | [] => by simp only [headD, PyData.depth]; omega
  | _ :: _ => by simp only [headD, PyData.depth]; omega
theorem shown_head {l : List Int} (h : Ab 100 l) : (headD l).shown.length ≤ 100000 := by
  cases l with
  | nil => decide +kernel
  | cons x r => exact Nat.le_trans (shown_int (Nat.lt_of_lt_of_le (h x List.mem_cons_self) (pow_up (by decide)))) (by decide)
theorem ansD_rp {p hs m m2 : List Int} {x : Bool} (h1 : Ab 100 p) (h2 : Ab 100 hs) (h3 : Rim m) (h4 : Rim m2) : RP (ansD p hs m m2 x) ∧ (ansD p hs m m2 x).shown.length ≤ sizeLine := by
  have d3 := dp_ints_depth h3.abs
  have d4 := dp_ints_depth h4.abs
  refine ⟨((RPs.cons (rp_head h1) (depth_head p) (RPs.cons (rp_head h2) (depth_head hs) (RPs.cons h3.rp d3 (RPs.cons h4.rp d4 (RPs.cons (rp_bl x) (by simp only [PyData.depth]; omega) RPs.nil))))).list (by omega)).1, ?_⟩
  have e := shown_list (B := 100000) (ds := [headD p, headD hs, dI m, dI m2, .bool x]) fun d hd => by
    simp only [List.mem_cons, List.not_mem_nil, or_false] at hd
    rcases hd with rfl | rfl | rfl | rfl | rfl
    · exact shown_head h1
    · exact shown_head h2
    · have := shown_ints h3.abs
      have := h3.le
      omega
    · have := shown_ints h4.abs
      have := h4.le
      omega
    · cases x <;> decide +kernel
  exact fit_le (Nat.le_trans e (by show (100000 + 2) * 5 + 3 ≤ 16000000; decide))
theorem ansD_dp {K : PySem.W.Frag} {H : Hp} {l a b : Addr} {p hs m m2 : List Int} {x : Bool} (h : SqL K H l [headV p, headV hs, .ref a, .ref b, .bl x]) (ha : SqL K H a (m.map V.int)) (hb : SqL K H b (m2.map V.int)) : Dp K H (.ref l) (ansD p hs m m2 x) :=
  .lst h (.cons (dp_head p) (.cons (dp_head hs) (.cons (dp_ints ha) (.cons (dp_ints hb) (.cons (.bl x) .nil)))))
theorem atI_cons {v : V} {vs : List V} : atI (v :: vs) 0 = some v := atI_nat (j := 0) rfl
theorem perL_ab {ns : List Int} (h : ns.length ≤ 40) : Ab 100 (perL ns) := hits_ab (by decide) (by decide) (by omega)
theorem inD {X : Cx} {K : PySem.W.Frag} (h : X.K = K) {k : Nat} (hr : Room k X.A) : OpR X (compareOp .In) (rInD K) := h ▸ op_inD (by have := hr.un; omega)
end Sd

namespace Sd
open PySem PySem.Spec PyProof.Rows L2

/-! ### lights of turned and of mirrored discs -/
def cutAt (l : List Int) (b : Int) : Nat := ((0 - b) % (l.length : Int)).toNat
theorem on_rot {l : List Int} (b : Int) (h : 1 ≤ l.length) : l.drop (cutAt l b) ++ l.take (cutAt l b) = rot l b := by
  have hm := mod_in (i := 0 - b) (show 0 < l.length by omega)
  have hc : ((cutAt l b : Nat) : Int) = (0 - b) % (l.length : Int) := Int.toNat_of_nonneg hm.1
  generalize cutAt l b = c at hc
  have hcl : c < l.length := by omega
  refine ext_getD ?_ fun j hj => ?_
  · rw [List.length_append, List.length_drop, List.length_take, rot_len]
    omega
  · rw [List.length_append, List.length_drop, List.length_take] at hj
    have hj : j < l.length := by omega
    rw [rot_get hj]
    have e : ((j : Int) - b) % (l.length : Int) = ((c : Int) + j) % (l.length : Int) := by
      rw [hc, Int.emod_add_emod]
      exact congrArg (· % (l.length : Int)) (by omega)
    rw [e]
    rw [List.getD_eq_getElem?_getD, List.getD_eq_getElem?_getD]
    by_cases q : j < l.length - c
    · rw [List.getElem?_append_left (by rw [List.length_drop]; exact q), List.getElem?_drop, Int.emod_eq_of_lt (by omega) (by omega)]
      rw [show ((c : Int) + (j : Int)).toNat = c + j by omega]
    · rw [List.getElem?_append_right (by rw [List.length_drop]; omega), List.length_drop, List.getElem?_take_of_lt (by omega)]
      rw [show ((c : Int) + (j : Int)) = ((j - (l.length - c) : Nat) : Int) + (l.length : Int) by omega, Int.add_emod_right, Int.emod_eq_of_lt (by omega) (by omega), Int.toNat_natCast]
theorem sum_rot (l : List Int) (b : Int) : (rot l b).sum = l.sum := by
  by_cases h : 1 ≤ l.length
  · rw [← on_rot b h, List.sum_append, Int.add_comm, ← List.sum_append, List.take_append_drop]
  · have : l = [] := List.length_eq_zero_iff.mp (by omega)
    subst this
    rfl
theorem mir_cut {l : List Int} (h : 1 ≤ l.length) : l.take 1 ++ (l.drop 1).reverse = mir l := by
  refine ext_getD ?_ fun j hj => ?_
  · rw [List.length_append, List.length_reverse, List.length_drop, List.length_take, mir_len]
    omega
  · rw [List.length_append, List.length_reverse, List.length_drop, List.length_take] at hj
    have hj : j < l.length := by omega
    rw [mir_get hj, List.getD_eq_getElem?_getD, List.getD_eq_getElem?_getD]
    by_cases q : j = 0
    · subst q
      rw [List.getElem?_append_left (by rw [List.length_take]; omega), List.getElem?_take_of_lt (by omega)]
      rw [show (-((0 : Nat) : Int)) % (l.length : Int) = 0 by simp]
      rfl
    · rw [List.getElem?_append_right (by rw [List.length_take]; omega), List.length_take, List.getElem?_reverse (by rw [List.length_drop]; omega), List.length_drop, List.getElem?_drop]
      have e : (-(j : Int)) % (l.length : Int) = (l.length : Int) - j := by
        rw [← Int.add_emod_right, Int.emod_eq_of_lt (by omega) (by omega)]
        omega
      rw [e]
      rw [show 1 + (l.length - 1 - 1 - (j - min 1 l.length)) = ((l.length : Int) - (j : Int)).toNat by omega]
theorem sum_mir (l : List Int) : (mir l).sum = l.sum := by
  by_cases h : 1 ≤ l.length
  · rw [← mir_cut h, List.sum_append, List.sum_reverse, ← List.sum_append, List.take_append_drop]
  · have : l = [] := List.length_eq_zero_iff.mp (by omega)
    subst this
    rfl
theorem prods_get {a b : List Int} {j : Nat} (h1 : j < a.length) (h2 : j < b.length) : (prods a b).getD j 0 = a.getD j 0 * b.getD j 0 := getD_at (prods_at (at_getD h1) (at_getD h2))
theorem prods_rot {a b : List Int} (hl : a.length = b.length) (s : Int) : prods (rot a s) (rot b s) = rot (prods a b) s := by
  have lp : (prods a b).length = a.length := by rw [prods_len]; omega
  refine ext_getD (by rw [prods_len, rot_len, rot_len, rot_len, lp]; omega) fun j hj => ?_
  rw [prods_len, rot_len, rot_len] at hj
  have hm := mod_in (i := (j : Int) - s) (show 0 < a.length by omega)
  rw [prods_get (by rw [rot_len]; omega) (by rw [rot_len]; omega), rot_get (by omega), rot_get (by omega), rot_get (by omega), lp, ← hl, prods_get (by omega) (by omega)]
theorem prods_mir {a b : List Int} (hl : a.length = b.length) : prods (mir a) (mir b) = mir (prods a b) := by
  have lp : (prods a b).length = a.length := by rw [prods_len]; omega
  refine ext_getD (by rw [prods_len, mir_len, mir_len, mir_len, lp]; omega) fun j hj => ?_
  rw [prods_len, mir_len, mir_len] at hj
  have hm := mod_in (i := -(j : Int)) (show 0 < a.length by omega)
  rw [prods_get (by rw [mir_len]; omega) (by rw [mir_len]; omega), mir_get (by omega), mir_get (by omega), mir_get (by omega), lp, ← hl, prods_get (by omega) (by omega)]
theorem prods_comm (a b : List Int) : prods a b = prods b a := by
  unfold prods
  exact List.zipWith_comm_of_comm Int.mul_comm
theorem light_rot2 (ns ms : List Int) (b t : Int) : lightV ns (rot ms b) t = lightV ns ms (t + b) := by
  unfold lightV
  rw [rot_add, Int.add_comm]
theorem light_rot1 {ns ms : List Int} (hl : ns.length = ms.length) (b t : Int) : lightV (rot ns b) ms t = lightV ns ms (t - b) := by
  unfold lightV
  rw [show rot ms t = rot (rot ms (t - b)) b by rw [rot_add, show t - b + b = t by omega], prods_rot (by rw [rot_len]; exact hl), sum_rot]
theorem light_mir {ns ms : List Int} (hl : ns.length = ms.length) (t : Int) : lightV (mir ns) (mir ms) t = lightV ns ms (-t) := by
  unfold lightV
  rw [show rot (mir ms) t = mir (rot ms (-t)) by rw [mir_rot, Int.neg_neg], prods_mir (by rw [rot_len]; exact hl), sum_mir]
theorem light_swap {ns ms : List Int} (hl : ns.length = ms.length) (t : Int) : lightV ms ns t = lightV ns ms (-t) := by
  have e := light_rot1 hl t 0
  rw [show (0 : Int) - t = -t by omega] at e
  rw [← e]
  unfold lightV
  rw [rot_zero, prods_comm]
theorem lights_get {ns ms : List Int} {i : Nat} (h : i < ns.length) : (lightsV ns ms).getD i 0 = lightV ns ms (i : Int) := getD_at (lightsV_at h)
theorem lights_getM {ns ms : List Int} (hl : ns.length = ms.length) (h1 : 1 ≤ ns.length) (t : Int) : (lightsV ns ms).getD ((t % (ns.length : Int)).toNat) 0 = lightV ns ms t := by
  have hm := mod_in (i := t) (show 0 < ns.length by omega)
  rw [lights_get (by omega), Int.toNat_of_nonneg hm.1, hl, lightV_mod]
theorem lights_rotG {ns ms as bs : List Int} (hl : ns.length = ms.length) (ha : as.length = ns.length) (b : Int) (h : ∀ t, lightV as bs t = lightV ns ms (t - b)) : lightsV as bs = rot (lightsV ns ms) b := by
  refine ext_getD (by rw [rot_len, lightsV_len, lightsV_len, ha]) fun j hj => ?_
  rw [lightsV_len] at hj
  rw [lights_get hj, rot_get (by rw [lightsV_len]; omega), lightsV_len, lights_getM hl (by omega), h]
theorem lights_mirG {ns ms as bs : List Int} (hl : ns.length = ms.length) (ha : as.length = ns.length) (h : ∀ t, lightV as bs t = lightV ns ms (-t)) : lightsV as bs = mir (lightsV ns ms) := by
  refine ext_getD (by rw [mir_len, lightsV_len, lightsV_len, ha]) fun j hj => ?_
  rw [lightsV_len] at hj
  rw [lights_get hj, mir_get (by rw [lightsV_len]; omega), lightsV_len, lights_getM hl (by omega), h]
theorem lights_rot2 {ns ms : List Int} (hl : ns.length = ms.length) (b : Int) : lightsV ns (rot ms b) = rot (lightsV ns ms) (0 - b) :=
  lights_rotG hl rfl _ fun t => by rw [light_rot2, show t - (0 - b) = t + b by omega]
theorem lights_rot1 {ns ms : List Int} (hl : ns.length = ms.length) (b : Int) : lightsV (rot ns b) ms = rot (lightsV ns ms) b :=
  lights_rotG hl (rot_len _ _) _ fun t => light_rot1 hl b t
theorem lights_both {ns ms : List Int} (hl : ns.length = ms.length) (b : Int) : lightsV (rot ns b) (rot ms b) = lightsV ns ms := by
  have := lights_rotG (as := rot ns b) (bs := rot ms b) hl (rot_len _ _) 0 fun t => by rw [light_rot2, light_rot1 hl, show t + b - b = t - 0 by omega]
  rw [this, rot_zero]
theorem lights_mir {ns ms : List Int} (hl : ns.length = ms.length) : lightsV (mir ns) (mir ms) = mir (lightsV ns ms) := lights_mirG hl (mir_len _) fun t => light_mir hl t
theorem lights_swap {ns ms : List Int} (hl : ns.length = ms.length) : lightsV ms ns = mir (lightsV ns ms) := lights_mirG hl hl.symm fun t => light_swap hl t
theorem steps_rot2 (ns ms : List Int) (b f st : Int) (k : Nat) : stepsV ns (rot ms b) f st k = stepsV ns ms (f + b) st k := by
  unfold stepsV
  refine List.map_congr_left fun i _ => ?_
  rw [light_rot2, show f + st * (i : Int) + b = f + b + st * (i : Int) by omega]
theorem far_rot2 {ns ms : List Int} (hl : ns.length = ms.length) (b f st N : Int) : farV ns (rot ms b) f st N = farV ns ms ((f + b) % (ns.length : Int)) st N := by
  unfold farV
  rw [steps_rot2, hl, stepsV_mod]

/-! ### the period -/
theorem hits_congr {xs ys xs' ys' : List Int} {o : Int} (h : ∀ t, rot xs t = ys ↔ rot xs' t = ys') : ∀ k, hits xs ys o k = hits xs' ys' o k
  | 0 => rfl
  | k + 1 => by
    by_cases q : rot xs (o + (k : Int)) = ys
    · rw [hits_yes q, hits_yes ((h _).mp q), hits_congr h k]
    · rw [hits_no q, hits_no (fun z => q ((h _).mpr z)), hits_congr h k]
theorem hits_first {xs ys : List Int} {o p : Int} {r : List Int} : ∀ {k : Nat}, hits xs ys o k = p :: r → rot xs p = ys ∧ o ≤ p ∧ p < o + (k : Int) ∧ ∀ t, o ≤ t → t < p → ¬ rot xs t = ys
  | 0, h => by cases h
  | k + 1, h => by
    by_cases q : rot xs (o + (k : Int)) = ys
    · rw [hits_yes q] at h
      cases e : hits xs ys o k with
      | nil =>
        rw [e] at h
        have hp := (List.cons.inj h).1
        subst hp
        refine ⟨q, by omega, by omega, fun t h1 h2 z => ?_⟩
        have : ∀ {k : Nat} {t : Int}, o ≤ t → t < o + (k : Int) → rot xs t = ys → hits xs ys o k ≠ [] := by
            intro k
            induction k with
            | zero => intro t a b _; omega
            | succ k ih =>
              intro t a b z e
              by_cases c : t = o + (k : Int)
              · subst c
                rw [hits_yes z] at e
                have := congrArg List.length e
                simp at this
              · refine ih a (by omega) z ?_
                rw [hits] at e
                exact (List.append_eq_nil_iff.mp e).1
        exact this h1 h2 z e
      | cons p' r' =>
        rw [e] at h
        have hp : p' = p := (List.cons.inj h).1
        subst hp
        obtain ⟨a, b, c, d⟩ := hits_first (k := k) e
        exact ⟨a, b, by omega, d⟩
    · rw [hits_no q] at h
      obtain ⟨a, b, c, d⟩ := hits_first (k := k) h
      exact ⟨a, b, by omega, d⟩
theorem hits_ex {xs ys : List Int} {o t : Int} : ∀ {k : Nat}, o ≤ t → t < o + (k : Int) → rot xs t = ys → ∃ p r, hits xs ys o k = p :: r
  | 0, a, b, _ => by omega
  | k + 1, a, b, z => by
    by_cases c : t = o + (k : Int)
    · subst c
      rw [hits_yes z]
      cases hits xs ys o k with
      | nil => exact ⟨_, _, rfl⟩
      | cons p r => exact ⟨_, _, rfl⟩
    · obtain ⟨p, r, e⟩ := hits_ex (k := k) a (by omega) z
      rw [hits, e]
      exact ⟨_, _, rfl⟩
theorem rot_inj {ns : List Int} {s t : Int} (h : rot ns s = rot ns t) : rot ns (s - t) = ns := by
  have e := congrArg (fun l => rot l (0 - t)) h
  simp only [rot_add] at e
  rw [show t + (0 - t) = 0 by omega, rot_zero, show s + (0 - t) = s - t by omega] at e
  exact e
/-- what the period is -/
structure Per (ns : List Int) (p : Int) : Prop where
  fix : rot ns p = ns
  pos : 1 ≤ p
  le : p ≤ ns.length
  low : ∀ t, 1 ≤ t → t < p → ¬ rot ns t = ns
theorem per_of {ns : List Int} {p : Int} {r : List Int} (h : perL ns = p :: r) : Per ns p := by
  unfold perL at h
  obtain ⟨a, b, c, d⟩ := hits_first h
  exact ⟨a, b, by omega, d⟩
theorem Per.mul {ns : List Int} {p : Int} (h : Per ns p) : ∀ q : Nat, rot ns (p * (q : Int)) = ns
  | 0 => by rw [show p * ((0 : Nat) : Int) = 0 by simp, rot_zero]
  | q + 1 => by
    rw [show p * ((q + 1 : Nat) : Int) = p * (q : Int) + p by rw [Int.natCast_succ, Int.mul_add, Int.mul_one], ← rot_add, h.mul q, h.fix]
theorem Per.mulZ {ns : List Int} {p : Int} (h : Per ns p) (q : Int) : rot ns (p * q) = ns := by
  rcases Int.eq_nat_or_neg q with ⟨k, e | e⟩
  · rw [e]
    exact h.mul k
  · have e2 := rot_inj (ns := ns) (s := 0) (t := p * (k : Int)) (by rw [rot_zero, h.mul k])
    rw [show (0 : Int) - p * (k : Int) = p * q by rw [e, Int.mul_neg]; omega] at e2
    exact e2
theorem Per.mod {ns : List Int} {p : Int} (h : Per ns p) (t : Int) : rot ns (t % p) = rot ns t := by
  have e := Int.mul_ediv_add_emod t p
  have e2 : rot (rot ns (p * (t / p))) (t % p) = rot ns t := by rw [rot_add, e]
  rw [h.mulZ] at e2
  exact e2
theorem Per.zero {ns : List Int} {p : Int} (h : Per ns p) {t : Int} (e : rot ns t = ns) : t % p = 0 := by
  have hp := h.pos
  have a := Int.emod_nonneg t (show p ≠ 0 by omega)
  have b := Int.emod_lt_of_pos t (show 0 < p by omega)
  rw [← h.mod] at e
  by_cases c : 1 ≤ t % p
  · exact absurd e (h.low _ c b)
  · omega
theorem Per.dvd {ns : List Int} {p : Int} (h : Per ns p) : (ns.length : Int) % p = 0 := h.zero (rot_full ns)
/-- the least turn from one to the other lies below the period -/
theorem Per.first {ns ms : List Int} {p q : Int} {r : List Int} {k : Nat} (h : Per ns p) (e : hits ns ms 0 k = q :: r) : 0 ≤ q ∧ q < p ∧ rot ns q = ms := by
  obtain ⟨a, b, _, d⟩ := hits_first e
  have hp := h.pos
  have m0 := Int.emod_nonneg q (show p ≠ 0 by omega)
  have m1 := Int.emod_lt_of_pos q (show 0 < p by omega)
  refine ⟨b, ?_, a⟩
  by_cases c : q < p
  · exact c
  · exact absurd (by rw [h.mod]; exact a) (d (q % p) m0 (by omega))
theorem Per.between {ns : List Int} {p q b : Int} {r : List Int} {k : Nat} (h : Per ns p) (e : hits ns (rot ns b) 0 k = q :: r) : q = b % p := by
  obtain ⟨q0, q1, q2⟩ := h.first e
  have z := h.zero (rot_inj q2)
  have e2 : q % p = b % p := Int.emod_eq_emod_iff_emod_sub_eq_zero.mpr z
  rw [Int.emod_eq_of_lt q0 q1] at e2
  exact e2
theorem per_rot {ns : List Int} (b : Int) : perL (rot ns b) = perL ns := by
  unfold perL
  rw [rot_len]
  refine hits_congr (fun t => ?_) _
  rw [rot_add]
  constructor
  · intro h
    have := rot_inj h
    rw [show b + t - b = t by omega] at this
    exact this
  · intro h
    rw [show b + t = t + b by omega, ← rot_add, h]
theorem per_mir {ns : List Int} : perL (mir ns) = perL ns := by
  unfold perL
  rw [mir_len]
  refine hits_congr (fun t => ?_) _
  have key : ∀ {xs : List Int} {t : Int}, rot xs t = xs → rot (mir xs) t = mir xs := fun {xs t} h => by
    have e := congrArg mir h
    rw [mir_rot] at e
    have e2 := rot_inj (ns := mir xs) (s := 0) (t := -t) (by rw [rot_zero, e])
    rw [show (0 : Int) - -t = t by omega] at e2
    exact e2
  constructor
  · intro h
    have := key h
    rw [mir_mir] at this
    exact this
  · exact key

/-! ### sorted lists -/
theorem sorted_eq : ∀ {a b : List Int}, a.Perm b → a.Pairwise (· ≤ ·) → b.Pairwise (· ≤ ·) → a = b
  | [], b, p, _, _ => (List.nil_perm.mp p).symm
  | x :: a, b, p, ha, hb => by
    cases b with
    | nil => exact absurd p.length_eq (by simp)
    | cons y b =>
      have h1 := List.pairwise_cons.mp ha
      have h2 := List.pairwise_cons.mp hb
      have e : x = y := by
        rcases List.mem_cons.mp (p.mem_iff.mp List.mem_cons_self) with e | e
        · exact e
        · rcases List.mem_cons.mp (p.mem_iff.mpr List.mem_cons_self) with e' | e'
          · exact e'.symm
          · have := h1.1 y e'
            have := h2.1 x e
            omega
      subst e
      rw [sorted_eq p.cons_inv h1.2 h2.2]
theorem perm_mem : ∀ {a b : List Int}, a.Nodup → b.Nodup → (∀ x, x ∈ a ↔ x ∈ b) → a.Perm b
  | [], b, _, _, h => by
    cases b with
    | nil => exact .nil
    | cons y b => exact absurd ((h y).mpr List.mem_cons_self) (List.not_mem_nil)
  | x :: a, b, ha, hb, h => by
    have h1 := List.nodup_cons.mp ha
    have hx : x ∈ b := (h x).mp List.mem_cons_self
    have p := List.perm_cons_erase hx
    refine List.Perm.trans (List.Perm.cons x (perm_mem h1.2 (hb.erase x) fun y => ?_)) p.symm
    rw [hb.mem_erase_iff]
    constructor
    · intro hy
      exact ⟨fun e => h1.1 (by rw [← e]; exact hy), (h y).mp (List.mem_cons_of_mem _ hy)⟩
    · rintro ⟨n, hy⟩
      rcases List.mem_cons.mp ((h y).mpr hy) with e | e
      · exact absurd e n
      · exact e
theorem mem_places {p : Int → Bool} {ns : List Int} {k : Nat} {x : Int} : x ∈ places p ns k ↔ ∃ i : Nat, x = (i : Int) ∧ i < k ∧ p (ns.getD i 0) = true := by
  unfold places
  constructor
  · intro h
    obtain ⟨i, hi, rfl⟩ := List.mem_map.mp h
    have := List.mem_filter.mp hi
    exact ⟨i, rfl, List.mem_range.mp this.1, this.2⟩
  · rintro ⟨i, rfl, h1, h2⟩
    exact List.mem_map.mpr ⟨i, List.mem_filter.mpr ⟨List.mem_range.mpr h1, h2⟩, rfl⟩
theorem places_sorted (p : Int → Bool) (ns : List Int) (k : Nat) : (places p ns k).Pairwise (· < ·) := by
  unfold places
  rw [List.pairwise_map]
  refine List.Pairwise.imp (fun {a b} h => by show (a : Int) < (b : Int); omega) (List.Pairwise.filter _ List.pairwise_lt_range)
theorem nodup_lt {l : List Int} (h : l.Pairwise (· < ·)) : l.Nodup := List.Pairwise.imp (fun {a b} h e => by omega) h
/-- the brightest turns of the turned one -/
theorem brights_rot {ns ms : List Int} (hl : ns.length = ms.length) (h1 : 1 ≤ ns.length) (b m : Int) {s : List Int}
    (hp : s.Perm ((places (fun x => decide (x = m)) (lightsV ns ms) ns.length).map fun one => (one - b) % (ns.length : Int))) (hs : s.Pairwise (· ≤ ·)) :
    places (fun x => decide (x = m)) (lightsV ns (rot ms b)) ns.length = s := by
  refine sorted_eq (List.Perm.trans (perm_mem (nodup_lt (places_sorted _ _ _)) ?_ fun x => ?_) hp.symm) (List.Pairwise.imp (fun {a b} h => by omega) (places_sorted _ _ _)) hs
  · rw [List.Nodup, List.pairwise_map]
    refine List.Pairwise.imp_of_mem (fun {x y} hx hy hxy e => ?_) (places_sorted _ _ _)
    obtain ⟨i, rfl, hi, _⟩ := mem_places.mp hx
    obtain ⟨j, rfl, hj, _⟩ := mem_places.mp hy
    have e2 := Int.emod_eq_emod_iff_emod_sub_eq_zero.mp e
    rw [show (i : Int) - b - ((j : Int) - b) = (i : Int) - j by omega] at e2
    have e3 := Int.emod_eq_emod_iff_emod_sub_eq_zero.mpr e2
    rw [Int.emod_eq_of_lt (by omega) (by omega), Int.emod_eq_of_lt (by omega) (by omega)] at e3
    omega
  · rw [mem_places, List.mem_map]
    constructor
    · rintro ⟨i, rfl, hi, hq⟩
      have hm := mod_in (i := (i : Int) + b) (show 0 < ns.length by omega)
      refine ⟨((i : Int) + b) % (ns.length : Int), mem_places.mpr ⟨(((i : Int) + b) % (ns.length : Int)).toNat, by omega, by omega, ?_⟩, ?_⟩
      · rw [lights_getM hl h1]
        rw [lights_get hi, light_rot2] at hq
        exact hq
      · rw [Int.emod_sub_emod, show (i : Int) + b - b = i by omega, Int.emod_eq_of_lt (by omega) (by omega)]
    · rintro ⟨x', hx, rfl⟩
      obtain ⟨i, rfl, hi, hq⟩ := mem_places.mp hx
      have hm := mod_in (i := (i : Int) - b) (show 0 < ns.length by omega)
      refine ⟨(((i : Int) - b) % (ns.length : Int)).toNat, by omega, by omega, ?_⟩
      rw [lights_get (by omega), Int.toNat_of_nonneg hm.1, light_rot2]
      rw [lights_get hi] at hq
      rw [← lightV_mod, ← hl, Int.emod_add_emod, hl, lightV_mod, show (i : Int) - b + b = i by omega]
      exact hq
end Sd

namespace Sd
open PySem PySem.Spec PyProof.Rows L2

/-! ### data of any kind, with empty dicts -/
mutual
inductive Dq (H : Hp) : V → PyData → Prop
  | non : Dq H .non .none
  | bl (b : Bool) : Dq H (.bl b) (.bool b)
  | int (i : Int) : Dq H (.int i) (.int i)
  | str (x : Str) : Dq H (.str x) (.str x)
  | lst {a : Addr} {xs : List V} {ds : List PyData} : H a = some (.lst xs) → DqAll H xs ds → Dq H (.ref a) (.list ds)
  | tup {a : Addr} {xs : List V} {ds : List PyData} : H a = some (.tup xs) → DqAll H xs ds → Dq H (.ref a) (.tuple ds)
  | emp {a : Addr} : H a = some (.dK []) → Dq H (.ref a) (.dict [])
inductive DqAll (H : Hp) : List V → List PyData → Prop
  | nil : DqAll H [] []
  | cons {v : V} {vs : List V} {d : PyData} {ds : List PyData} : Dq H v d → DqAll H vs ds → DqAll H (v :: vs) (d :: ds)
end
mutual
theorem Dq.same {H H' : Hp} (s : Same H H') : ∀ {v : V} {d : PyData}, Dq H v d → Dq H' v d
  | _, _, .non => .non
  | _, _, .bl b => .bl b
  | _, _, .int i => .int i
  | _, _, .str x => .str x
  | _, _, .lst h1 h2 => .lst (s _ _ h1) (DqAll.same s h2)
  | _, _, .tup h1 h2 => .tup (s _ _ h1) (DqAll.same s h2)
  | _, _, .emp h => .emp (s _ _ h)
theorem DqAll.same {H H' : Hp} (s : Same H H') : ∀ {vs : List V} {ds : List PyData}, DqAll H vs ds → DqAll H' vs ds
  | _, _, .nil => .nil
  | _, _, .cons h1 h2 => .cons (Dq.same s h1) (DqAll.same s h2)
end
section
variable {X : Cx} {pins : List (Addr × Obj)} {σ : L2.St} {H : Hp} {s : Shared}
theorem emp_reads (I : Inv X pins σ H s) {a : Addr} (h : H a = some (.dK [])) : Reads s.heap (.ref a) (.dict []) (a :: [] ++ []) ∧ sysModules ∉ (a :: [] ++ [] : List Addr) ∧ s.TypeIs (.ref a) "dict" := by
  obtain ⟨_, hsys, vs, kv, o, es, ep, e, ex, ed, _, pr, _⟩ := (show ObjOk X.prog X.w H s.heap a (.dK []) from I.hok a _ h)
  cases kv
  have he : es.toList = [] := by
    cases hl : es.toList with
    | nil => rfl
    | cons x l =>
      rw [hl] at pr
      cases pr
  refine ⟨.dict e ex.1 ed ?_ ?_, ?_, ⟨o, e, ex.1⟩⟩
  · rw [he]
    exact .nil
  · rw [he]
    exact .nil
  · intro z
    simp only [List.append_nil, List.mem_cons, List.not_mem_nil, or_false] at z
    rw [← z] at hsys
    exact absurd hsys (by decide)
mutual
theorem reprK_q (I : Inv X pins σ H s) : ∀ (d : PyData) (v : V) (u : Value), Dq H v d → RelV v u → d.showable = true → d.shown.length ≤ sizeLine →
    ∃ as bs, Reads s.heap u d as ∧ ReadAtMost s.heap d.depth bs ∧ ReprK X.prog X.w bs s.heap d.depth u d.shown
  | .none, _, u, q, r, hs, hz => by
    cases q
    cases r
    obtain ⟨bs, h1, h2⟩ := ReprK.of_reads (prog := X.prog) (w := X.w) (Reads.none (h := s.heap)) hs (fun z => by simp only [PyData.hasDict] at z; cases z) hz
    exact ⟨_, bs, .none, h1, h2⟩
  | .bool b, _, u, q, r, hs, hz => by
    cases q
    cases r
    obtain ⟨bs, h1, h2⟩ := ReprK.of_reads (prog := X.prog) (w := X.w) (Reads.bool (h := s.heap) b) hs (fun z => by simp only [PyData.hasDict] at z; cases z) hz
    exact ⟨_, bs, .bool b, h1, h2⟩
  | .int i, _, u, q, r, hs, hz => by
    cases q
    obtain ⟨t, rfl⟩ := r
    obtain ⟨bs, h1, h2⟩ := ReprK.of_reads (prog := X.prog) (w := X.w) (Reads.int (h := s.heap) i t) hs (fun z => by simp only [PyData.hasDict] at z; cases z) hz
    exact ⟨_, bs, .int i t, h1, h2⟩
  | .str x, _, u, q, r, hs, hz => by
    cases q
    obtain ⟨t, rfl⟩ := r
    obtain ⟨bs, h1, h2⟩ := ReprK.of_reads (prog := X.prog) (w := X.w) (Reads.str (h := s.heap) x t) hs (fun z => by simp only [PyData.hasDict] at z; cases z) hz
    exact ⟨_, bs, .str x t, h1, h2⟩
  | .dict kvs, _, u, q, r, hs, hz => by
    cases q with
    | emp h =>
      cases r
      obtain ⟨rd, ns, _⟩ := emp_reads I h
      obtain ⟨bs, h1, h2⟩ := ReprK.of_reads (prog := X.prog) (w := X.w) rd hs (fun _ => ns) hz
      exact ⟨_, bs, rd, h1, h2⟩
  | .list ds, _, u, q, r, hs, hz => by
    cases q with
    | lst h hq =>
      cases r
      obtain ⟨_, its, n, rv, e⟩ := (show ObjOk X.prog X.w H s.heap _ (.lst _) from I.hok _ _ h)
      have hz2 : (listText (PyData.shownAll ds)).length ≤ sizeLine := by simpa only [PyData.shown] using hz
      obtain ⟨as, bs, ra, hb, hk⟩ := reprAllK_q I ds _ its hq rv (by simpa [PyData.showable] using hs) fun t ht => Nat.le_trans (listText_mem_le ht) hz2
      have rd : Reads s.heap (.ref _) (.list ds) _ := .list e rfl rfl ra
      have hna := not_mem_of_deeper rd (by simp only [PyData.depth]; omega) hb
      refine ⟨_, _, rd, ReadAtMost.cons rd (by simp only [PyData.depth]; omega) hb, ?_⟩
      simp only [PyData.depth, PyData.shown]
      cases its with
      | nil =>
        cases ra
        simp only [PyData.shownAll, listText_nil]
        exact ReprK.listEmpty e rfl rfl
      | cons y l => exact ReprK.list e rfl rfl hna (by simpa using hk.length_eq) fun i y e => hk.item i y (by simpa using e)
  | .tuple ds, _, u, q, r, hs, hz => by
    cases q with
    | tup h hq =>
      cases r
      obtain ⟨_, its, rv, o, e, hc, n, hd⟩ := (show ObjOk X.prog X.w H s.heap _ (.tup _) from I.hok _ _ h)
      have hz2 : (tupleText (PyData.shownAll ds)).length ≤ sizeLine := by simpa only [PyData.shown] using hz
      obtain ⟨as, bs, ra, hb, hk⟩ := reprAllK_q I ds _ its hq rv (by simpa [PyData.showable] using hs) fun t ht => Nat.le_trans (tupleText_mem_le ht) hz2
      have rd : Reads s.heap (.ref _) (.tuple ds) _ := .tuple e hc hd ra
      have hna := not_mem_of_deeper rd (by simp only [PyData.depth]; omega) hb
      refine ⟨_, _, rd, ReadAtMost.cons rd (by simp only [PyData.depth]; omega) hb, ?_⟩
      simp only [PyData.depth, PyData.shown]
      exact ReprK.tuple e hc hd hna hk
theorem reprAllK_q (I : Inv X pins σ H s) : ∀ (ds : List PyData) (vs : List V) (us : List Value), DqAll H vs ds → Vals vs us → PyData.showableAll ds = true → (∀ t ∈ PyData.shownAll ds, t.length ≤ sizeLine) →
    ∃ as bs, ReadsAll s.heap us ds as ∧ ReadAtMost s.heap (PyData.depthAll ds) bs ∧ ReprAllK X.prog X.w bs s.heap (PyData.depthAll ds) us (PyData.shownAll ds)
  | [], _, us, q, r, _, _ => by
    cases q
    cases r
    exact ⟨[], [], .nil, (fun _ h => nomatch h), by simp only [PyData.shownAll]; exact .nil⟩
  | d :: ds, _, us, q, r, hs, hz => by
    cases q with
    | cons q1 q2 =>
      cases r with
      | cons r1 r2 =>
        have hs2 : d.showable = true ∧ PyData.showableAll ds = true := by simpa [PyData.showableAll] using hs
        obtain ⟨a1, b1, x1, y1, k1⟩ := reprK_q I d _ _ q1 r1 hs2.1 (hz _ (by simp only [PyData.shownAll]; exact List.mem_cons_self))
        obtain ⟨a2, b2, x2, y2, k2⟩ := reprAllK_q I ds _ _ q2 r2 hs2.2 fun t ht => hz t (by simp only [PyData.shownAll]; exact List.mem_cons_of_mem _ ht)
        refine ⟨_, b1 ++ b2, .cons x1 x2, (y1.mono ?_).append (y2.mono ?_), ?_⟩
        · simp only [PyData.depthAll]
          omega
        · simp only [PyData.depthAll]
          omega
        · simp only [PyData.depthAll, PyData.shownAll]
          exact .cons ((k1.more fun b hb => List.mem_append_left _ hb).level_le (by omega)) (k2.more_le (fun b hb => List.mem_append_right _ hb) (by omega))
end
/-- repr of any such thing -/
def rReprQ : List V → Hp → VK → Prop := fun xs H Q => ∃ (x : V) (d : PyData), xs = [x] ∧ Dq H x d ∧ d.showable = true ∧ d.depth ≤ 32 ∧ d.shown.length ≤ sizeLine ∧ Q (.str d.shown) H
theorem reprQ {X : Cx} (hA : X.A.guards = some []) {k : Nat} (hr : Room k X.A) : CallR X (.builtin "repr") rReprQ := by
  intro pins s σ H xs us Q I r h
  obtain ⟨x, d, rfl, hd, h1, h3, h4, q⟩ := h
  have hu := hr.units
  have flat : ∀ {d : PyData}, Dp X.K H x d → d.showable = true → d.hasDict = false → d.depth ≤ 32 → d.shown.length ≤ sizeLine → Q (.str d.shown) H → wpAny (model X.prog X.w) X.A (call (.builtin "repr") us) (EP X pins σ Q) X.xe s := fun a b c e f g =>
    reprV rfl hA hr pins s σ H _ us Q I r ⟨x, _, rfl, a, b, c, e, f, g⟩
  cases hd with
  | non => exact flat .non h1 rfl h3 h4 q
  | bl b => exact flat (.bl b) h1 (by simp only [PyData.hasDict]) h3 h4 q
  | int i => exact flat (.int i) h1 (by simp only [PyData.hasDict]) h3 h4 q
  | str y => exact flat (.str y) h1 (by simp only [PyData.hasDict]) h3 h4 q
  | emp ha =>
    cases r with
    | cons r1 r2 =>
      cases r2
      cases r1
      obtain ⟨rd, ns, _⟩ := emp_reads I ha
      exact repr_of_reads' rd h1 (fun _ => ns) hA (by omega) (fun _ _ e => e) (fun h' u tk kp => ⟨.str (PyData.shown (.dict [])), H, I.kept (t' := tk) kp, ⟨u, rfl⟩, q⟩) h4
  | @lst a xs ds ha hq =>
    cases r with
    | cons r1 r2 =>
      cases r2
      cases r1
      obtain ⟨_, its, n, rv, e⟩ := (show ObjOk X.prog X.w H s.heap a (.lst xs) from I.hok a _ ha)
      have hz2 : (listText (PyData.shownAll ds)).length ≤ sizeLine := by simpa only [PyData.shown] using h4
      obtain ⟨as, bs, ra, hb, hk⟩ := reprAllK_q I ds _ its hq rv (by simpa [PyData.showable] using h1) fun t ht => Nat.le_trans (listText_mem_le ht) hz2
      have rd : Reads s.heap (.ref a) (.list ds) _ := .list e rfl rfl ra
      have hna := not_mem_of_deeper rd (by simp only [PyData.depth]; omega) hb
      have hdp : PyData.depthAll ds + 1 ≤ 32 := by simpa only [PyData.depth] using h3
      simp only [PyData.shown] at q
      refine call_repr_slot (by omega) ⟨_, e, rfl⟩ F.slot_list_repr.toG ?_
      cases its with
      | nil =>
        cases ra
        simp only [PyData.shownAll, listText_nil] at q
        exact call_list_repr_empty ⟨_, e, rfl⟩ e rfl ⟨_, _, rfl, .str "[]", H, I.tok _, ⟨_, rfl⟩, q⟩
      | cons y l =>
        exact call_list_reprK e rfl rfl hna (by simpa using hk.length_eq) (fun i y e => hk.item i y (by simpa using e)) hA (fun b _ => Clear.nil b) (by show X.A.units + 1 + _ < cLine; omega) (fun _ _ e => e)
          (fun h' u tk kp => ⟨_, _, rfl, .str (listText (PyData.shownAll ds)), H, I.kept (t' := tk) kp, ⟨u, rfl⟩, q⟩) hz2
  | @tup a xs ds ha hq =>
    cases r with
    | cons r1 r2 =>
      cases r2
      cases r1
      obtain ⟨_, its, rv, o, e, hc, n, hd⟩ := (show ObjOk X.prog X.w H s.heap a (.tup xs) from I.hok a _ ha)
      have hz2 : (tupleText (PyData.shownAll ds)).length ≤ sizeLine := by simpa only [PyData.shown] using h4
      obtain ⟨as, bs, ra, hb, hk⟩ := reprAllK_q I ds _ its hq rv (by simpa [PyData.showable] using h1) fun t ht => Nat.le_trans (tupleText_mem_le ht) hz2
      have rd : Reads s.heap (.ref a) (.tuple ds) _ := .tuple e hc hd ra
      have hna := not_mem_of_deeper rd (by simp only [PyData.depth]; omega) hb
      have hdp : PyData.depthAll ds + 1 ≤ 32 := by simpa only [PyData.depth] using h3
      simp only [PyData.shown] at q
      refine call_repr_slot (by omega) ⟨_, e, hc⟩ F.slot_tuple_repr ?_
      exact call_tuple_reprK e hc hd hna hk hA (fun b _ => Clear.nil b) (by show X.A.units + 1 + _ < cLine; omega) (fun _ _ e => e)
          (fun h' u tk kp => ⟨_, _, rfl, .str (tupleText (PyData.shownAll ds)), H, I.kept (t' := tk) kp, ⟨u, rfl⟩, q⟩) hz2
end
end Sd

namespace Sd
open PySem PySem.Spec PyProof.Rows L2

/-! ### what isinstance says of data -/
def tyQ : PyData → String
  | .none => "NoneType"
  | .bool _ => "bool"
  | .int _ => "int"
  | .str _ => "str"
  | .list _ => "list"
  | .tuple _ => "tuple"
  | .dict _ => "dict"
def intQ : PyData → Bool
  | .int _ => true
  | .bool _ => true
  | _ => false
def boolQ : PyData → Bool
  | .bool _ => true
  | _ => false
def listQ : PyData → Bool
  | .list _ => true
  | _ => false
theorem kit_intQ {K : PySem.W.Frag} (d : PyData) : PySem.W.kitOne K (.type (tyQ d)) (.type "int") = some (intQ d) := by
  cases d with
  | none => exact kit_ty (show kitB "NoneType" "int" = some false by decide +kernel)
  | bool _ => exact kit_ty (show kitB "bool" "int" = some true by decide +kernel)
  | int _ => exact kit_ty (show kitB "int" "int" = some true by decide +kernel)
  | str _ => exact kit_ty (show kitB "str" "int" = some false by decide +kernel)
  | list _ => exact kit_ty (show kitB "list" "int" = some false by decide +kernel)
  | tuple _ => exact kit_ty (show kitB "tuple" "int" = some false by decide +kernel)
  | dict _ => exact kit_ty (show kitB "dict" "int" = some false by decide +kernel)
theorem kit_boolQ {K : PySem.W.Frag} (d : PyData) : PySem.W.kitOne K (.type (tyQ d)) (.type "bool") = some (boolQ d) := by
  cases d with
  | none => exact kit_ty (show kitB "NoneType" "bool" = some false by decide +kernel)
  | bool _ => exact kit_ty (show kitB "bool" "bool" = some true by decide +kernel)
  | int _ => exact kit_ty (show kitB "int" "bool" = some false by decide +kernel)
  | str _ => exact kit_ty (show kitB "str" "bool" = some false by decide +kernel)
  | list _ => exact kit_ty (show kitB "list" "bool" = some false by decide +kernel)
  | tuple _ => exact kit_ty (show kitB "tuple" "bool" = some false by decide +kernel)
  | dict _ => exact kit_ty (show kitB "dict" "bool" = some false by decide +kernel)
theorem kit_listQ {K : PySem.W.Frag} (d : PyData) : PySem.W.kitOne K (.type (tyQ d)) (.type "list") = some (listQ d) := by
  cases d with
  | none => exact kit_ty (show kitB "NoneType" "list" = some false by decide +kernel)
  | bool _ => exact kit_ty (show kitB "bool" "list" = some false by decide +kernel)
  | int _ => exact kit_ty (show kitB "int" "list" = some false by decide +kernel)
  | str _ => exact kit_ty (show kitB "str" "list" = some false by decide +kernel)
  | list _ => exact kit_ty (show kitB "list" "list" = some true by decide +kernel)
  | tuple _ => exact kit_ty (show kitB "tuple" "list" = some false by decide +kernel)
  | dict _ => exact kit_ty (show kitB "dict" "list" = some false by decide +kernel)
theorem ty_q {K : PySem.W.Frag} {H : Hp} {v : V} {d : PyData} (q : Dq H v d) : TyX K H v (.type (tyQ d)) := by
  cases q with
  | non => exact .base .non
  | bl b => exact .base (.bl b)
  | int i => exact .base (.int i)
  | str x => exact .base (.str x)
  | lst h _ => exact .base (.lst h)
  | tup h _ => exact .base (.tup h)
  | emp h => exact .base (.dK h)
/-- an item that a slot of a disc can have -/
def okS (top : Int) : PyData → Bool
  | .int i => decide (0 ≤ i) && decide (i ≤ top)
  | _ => false
/-- a disc with items up to top -/
def discQ (top : Int) : PyData → Bool
  | .list ds => decide (1 ≤ ds.length) && decide (ds.length ≤ 40) && ds.all (okS top)
  | _ => false
def slotsQ : PyData → Bool
  | .list ds => decide (1 ≤ ds.length) && decide (ds.length ≤ 40)
  | _ => false
theorem DqAll.length {H : Hp} : ∀ {xs : List V} {ds : List PyData}, DqAll H xs ds → xs.length = ds.length
  | _, _, .nil => rfl
  | _, _, .cons _ h => congrArg Nat.succ (DqAll.length h)
theorem DqAll.at {H : Hp} : ∀ {xs : List V} {ds : List PyData} {i : Nat} {x : V}, DqAll H xs ds → xs[i]? = some x → ∃ d, ds[i]? = some d ∧ Dq H x d
  | _, _, _, _, .nil, e => by simp at e
  | _, _, 0, _, .cons h _, e => by
    simp at e
    subst e
    exact ⟨_, rfl, h⟩
  | _, _, i + 1, x, .cons _ h, e => by
    obtain ⟨d, h1, h2⟩ := DqAll.at (i := i) (x := x) h (by simpa using e)
    exact ⟨d, by simpa using h1, h2⟩
theorem DqAll.ints {H : Hp} {top : Int} : ∀ {xs : List V} {ds : List PyData}, DqAll H xs ds → ds.all (okS top) = true → ∃ ns : List Int, xs = ns.map V.int ∧ ns.length = ds.length ∧ ds = ns.map PyData.int ∧ ∀ n ∈ ns, 0 ≤ n ∧ n ≤ top
  | _, _, .nil, _ => ⟨[], rfl, rfl, rfl, fun n hn => (List.not_mem_nil hn).elim⟩
  | _, _, .cons (d := d) h hs, e => by
    rw [List.all_cons, Bool.and_eq_true] at e
    obtain ⟨ns, h1, h2, h3, h4⟩ := DqAll.ints hs e.2
    cases h with
    | int i =>
      have e1 := (Bool.and_eq_true _ _).mp e.1
      refine ⟨i :: ns, by rw [h1]; rfl, congrArg Nat.succ h2, by rw [h3]; rfl, fun n hn => ?_⟩
      rcases List.mem_cons.mp hn with z | z
      · rw [z]
        exact ⟨of_decide_eq_true e1.1, of_decide_eq_true e1.2⟩
      · exact h4 n z
    | non => exact absurd e.1 (by show ¬ false = true; decide)
    | bl b => exact absurd e.1 (by show ¬ false = true; decide)
    | str x => exact absurd e.1 (by show ¬ false = true; decide)
    | lst _ _ => exact absurd e.1 (by show ¬ false = true; decide)
    | tup _ _ => exact absurd e.1 (by show ¬ false = true; decide)
    | emp _ => exact absurd e.1 (by show ¬ false = true; decide)
theorem ints_ok {top : Int} : ∀ {ns : List Int}, (ns.map PyData.int).all (okS top) = true ↔ ∀ n ∈ ns, 0 ≤ n ∧ n ≤ top
  | [] => by simp
  | n :: ns => by
    have ih := ints_ok (top := top) (ns := ns)
    rw [List.map_cons, List.all_cons, Bool.and_eq_true, ih]
    constructor
    · intro h m hm
      have e1 := (Bool.and_eq_true _ _).mp h.1
      rcases List.mem_cons.mp hm with z | z
      · rw [z]
        exact ⟨of_decide_eq_true e1.1, of_decide_eq_true e1.2⟩
      · exact h.2 m z
    · intro h
      have h1 := h n List.mem_cons_self
      exact ⟨(Bool.and_eq_true _ _).mpr ⟨decide_eq_true h1.1, decide_eq_true h1.2⟩, fun m hm => h m (List.mem_cons_of_mem _ hm)⟩
/-- what holds of all items up to i, one more -/
theorem all_next {p : PyData → Bool} {ds : List PyData} {i : Nat} {d : PyData} (e : ds[i]? = some d) (h : (ds.take i).all p = true) : (ds.take (i + 1)).all p = p d := by
  rw [List.take_add_one, e, List.all_append, h]
  simp
theorem all_no {p : PyData → Bool} {ds : List PyData} {i : Nat} {d : PyData} (e : ds[i]? = some d) (h : p d = false) : ds.all p = false := by
  cases z : ds.all p with
  | false => rfl
  | true =>
    rw [List.all_eq_true.mp z d (List.mem_of_getElem? e)] at h
    cases h

/-! ### things beside a tank -/
def mask (t : Addr) (H : Hp) : Hp := fun b => if b = t then none else H b
theorem mask_ne {t b : Addr} {H : Hp} (h : b ≠ t) : mask t H b = H b := if_neg h
theorem mask_same (t : Addr) (H : Hp) : Same (mask t H) H := fun b o e => by
  unfold mask at e
  split at e
  · cases e
  · exact e
theorem mask_but {t : Addr} {H H' : Hp} (u : But t H H') : Same (mask t H) (mask t H') := fun b o e => by
  unfold mask at e ⊢
  split at e
  · cases e
  · rename_i n
    rw [if_neg n]
    exact u b o e n
/-- an item; a thing -/
def El (t : Addr) (H : Hp) (v : V) : Prop := ∃ d, Dq (mask t H) v d ∧ d.showable = true ∧ d.depth ≤ 1 ∧ d.shown.length ≤ 1100
def Th (t : Addr) (H : Hp) (v : V) : Prop := ∃ d, Dq (mask t H) v d ∧ d.showable = true ∧ d.depth ≤ 3 ∧ d.shown.length ≤ 300000
theorem El.but {t : Addr} {H H' : Hp} {v : V} (h : El t H v) (u : But t H H') : El t H' v := let ⟨d, q, r⟩ := h; ⟨d, q.same (mask_but u), r⟩
theorem Th.but {t : Addr} {H H' : Hp} {v : V} (h : Th t H v) (u : But t H H') : Th t H' v := let ⟨d, q, r⟩ := h; ⟨d, q.same (mask_but u), r⟩
theorem El.th {t : Addr} {H : Hp} {v : V} (h : El t H v) : Th t H v := let ⟨d, q, r1, r2, r3⟩ := h; ⟨d, q, r1, by omega, by omega⟩
theorem el_non {t : Addr} {H : Hp} : El t H .non := ⟨.none, .non, rfl, by decide, by decide +kernel⟩
theorem el_bl {t : Addr} {H : Hp} (b : Bool) : El t H (.bl b) := ⟨.bool b, .bl b, by simp only [PyData.showable], by simp only [PyData.depth]; omega, by cases b <;> decide +kernel⟩
theorem el_int {t : Addr} {H : Hp} {i : Int} (h : i.natAbs < 2 ^ 1000) : El t H (.int i) := ⟨.int i, .int i, (rp_int h).sh, by simp only [PyData.depth]; omega, by have := shown_int h; omega⟩
theorem el_emp {t : Addr} {H : Hp} {a : Addr} (h : H a = some (.dK [])) (n : a ≠ t) : El t H (.ref a) := ⟨.dict [], .emp (by rw [mask_ne n]; exact h), by decide, by decide, by decide +kernel⟩
/-- items all told -/
theorem els {t : Addr} {H : Hp} : ∀ {xs : List V}, (∀ x ∈ xs, El t H x) → ∃ ds, DqAll (mask t H) xs ds ∧ PyData.showableAll ds = true ∧ PyData.depthAll ds ≤ 1 ∧ ∀ d ∈ ds, d.shown.length ≤ 1100
  | [], _ => ⟨[], .nil, by simp only [PyData.showableAll], by simp only [PyData.depthAll]; omega, fun d hd => (List.not_mem_nil hd).elim⟩
  | x :: xs, h => by
    obtain ⟨d, q, r1, r2, r3⟩ := h x List.mem_cons_self
    obtain ⟨ds, p1, p2, p3, p4⟩ := els (xs := xs) fun y hy => h y (List.mem_cons_of_mem _ hy)
    refine ⟨d :: ds, .cons q p1, by simp only [PyData.showableAll, r1, p2, Bool.and_self], by simp only [PyData.depthAll]; omega, fun e he => ?_⟩
    rcases List.mem_cons.mp he with z | z
    · rw [z]
      exact r3
    · exact p4 e z
theorem th_list {t : Addr} {H : Hp} {p : Addr} {xs : List V} (h : H p = some (.lst xs)) (n : p ≠ t) (hl : xs.length ≤ 200) (hx : ∀ x ∈ xs, El t H x) : Th t H (.ref p) := by
  obtain ⟨ds, p1, p2, p3, p4⟩ := els hx
  have e := p1.length
  refine ⟨.list ds, .lst (by rw [mask_ne n]; exact h) p1, by simp only [PyData.showable, p2], by simp only [PyData.depth]; omega, ?_⟩
  have := shown_list p4
  omega
theorem shown_tuple {B : Nat} {ds : List PyData} (h : ∀ d ∈ ds, d.shown.length ≤ B) : (PyData.tuple ds).shown.length ≤ (B + 2) * ds.length + 3 := by
  simp only [PyData.shown]
  have e3 : (((if (PyData.shownAll ds).length == 1 then ",)" else ")" : String) : Str)).length ≤ 2 := by split <;> decide +kernel
  have e1 : ((("(" : String) : Str)).length = 1 := rfl
  unfold tupleText
  rw [strLen_append, strLen_append, e1]
  have h2 : piled (PyData.shownAll ds) ≤ (B + 2) * ds.length := by
    unfold piled
    have := sum_bound (B := B + 2) (l := (PyData.shownAll ds).map fun t => t.length + 2) fun x hx => by
      obtain ⟨s, hs, rfl⟩ := List.mem_map.mp hx
      rw [shownAll_map] at hs
      obtain ⟨d, hd, rfl⟩ := List.mem_map.mp hs
      have := h d hd
      omega
    rw [List.length_map, shownAll_map, List.length_map] at this
    rw [shownAll_map] at *
    exact this
  by_cases z : PyData.shownAll ds = []
  · rw [z] at e3 ⊢
    have : (Str.join ", " []).length = 0 := by decide +kernel
    omega
  · have := join_length_add (PyData.shownAll ds) z
    omega
theorem th_tuple {t : Addr} {H : Hp} {p : Addr} {xs : List V} (h : H p = some (.tup xs)) (n : p ≠ t) (hl : xs.length ≤ 200) (hx : ∀ x ∈ xs, El t H x) : Th t H (.ref p) := by
  obtain ⟨ds, p1, p2, p3, p4⟩ := els hx
  have e := p1.length
  refine ⟨.tuple ds, .tup (by rw [mask_ne n]; exact h) p1, by simp only [PyData.showable, p2], by simp only [PyData.depth]; omega, ?_⟩
  have := shown_tuple p4
  omega
/-- [thing] -/
theorem th_one {t : Addr} {H : Hp} {p b : Addr} {ns : List Int} (h : H p = some (.lst [.ref b])) (n : p ≠ t) (hb : H b = some (.lst (ns.map V.int))) (nb : b ≠ t) (hl : ns.length ≤ 40) (hx : ∀ n ∈ ns, n.natAbs < 2 ^ 1000) : Th t H (.ref p) := by
  obtain ⟨ds, p1, p2, p3, p4⟩ := els (t := t) (H := H) (xs := ns.map V.int) fun x hxx => by
    obtain ⟨m, hm, rfl⟩ := List.mem_map.mp hxx
    exact el_int (hx m hm)
  have e := p1.length
  rw [List.length_map] at e
  have z := shown_list p4
  refine ⟨.list [.list ds], .lst (by rw [mask_ne n]; exact h) (.cons (.lst (by rw [mask_ne nb]; exact hb) p1) .nil), by simp only [PyData.showable, PyData.showableAll, p2, Bool.and_self], by simp only [PyData.depth, PyData.depthAll]; omega, ?_⟩
  have z2 := shown_list (B := 1102 * 40 + 3) (ds := [.list ds]) fun d hd => by
    rw [List.mem_singleton.mp hd]
    omega
  exact Nat.le_trans z2 (by show (1102 * 40 + 3 + 2) * 1 + 3 ≤ 300000; decide)
/-- [1], (1,) as items -/
theorem el_list1 {t : Addr} {H : Hp} {p : Addr} (h : H p = some (.lst [.int 1])) (n : p ≠ t) : El t H (.ref p) := ⟨.list [.int 1], .lst (by rw [mask_ne n]; exact h) (.cons (.int 1) .nil), by decide, by decide, by decide +kernel⟩
theorem el_list0 {t : Addr} {H : Hp} {p : Addr} (h : H p = some (.lst [])) (n : p ≠ t) : El t H (.ref p) := ⟨.list [], .lst (by rw [mask_ne n]; exact h) .nil, by decide, by decide, by decide +kernel⟩
theorem el_tup1 {t : Addr} {H : Hp} {p : Addr} (h : H p = some (.tup [.int 1])) (n : p ≠ t) : El t H (.ref p) := ⟨.tuple [.int 1], .tup (by rw [mask_ne n]; exact h) (.cons (.int 1) .nil), by decide, by decide, by decide +kernel⟩
theorem el_tup0 {t : Addr} {H : Hp} {p : Addr} (h : H p = some (.tup [])) (n : p ≠ t) : El t H (.ref p) := ⟨.tuple [], .tup (by rw [mask_ne n]; exact h) .nil, by decide, by decide, by decide +kernel⟩
theorem el_ints {t : Addr} {H : Hp} {ns : List Int} (h : ∀ n ∈ ns, n.natAbs < 2 ^ 1000) : ∀ x ∈ ns.map V.int, El t H x := fun x hx => by
  obtain ⟨m, hm, rfl⟩ := List.mem_map.mp hx
  exact el_int (h m hm)
theorem _root_.L2.Same.seqT {K : PySem.W.Frag} {H H' : Hp} {a : Addr} {xs : List V} (s : Same H H') (h : H a = some (.tup xs)) : SqT K H' a xs := SqT.of (s _ _ h)
end Sd

namespace Sd
open PySem PySem.Spec PyProof.Rows L2

/-! ### polynomials, lowest power first -/
/-- f times low taken away from l at s, s + 1 .. s + j - 1 -/
def subI (low : List Int) (f : Int) (s : Nat) : Nat → List Int → List Int
  | 0, l => l
  | j + 1, l => (subI low f s j l).set (s + j) ((subI low f s j l).getD (s + j) 0 - f * low.getD j 0)
/-- so many steps of the division, from the top: quotient behind, rest in front -/
def divN (low : List Int) : Nat → List Int → List Int
  | 0, l => l
  | k + 1, l => divN low k (subI low (l.getD (low.length - 1 + k) 0) k (low.length - 1) l)
def divL (low l : List Int) : List Int := divN low (l.length - (low.length - 1)) l
def quo (low l : List Int) : List Int := (divL low l).drop (low.length - 1)
def rst (low l : List Int) : List Int := (divL low l).take (low.length - 1)
theorem subI_len (low : List Int) (f : Int) (s : Nat) : ∀ (j : Nat) (l : List Int), (subI low f s j l).length = l.length
  | 0, _ => rfl
  | j + 1, l => by
    rw [subI, List.length_set, subI_len low f s j l]
theorem divN_len (low : List Int) : ∀ (k : Nat) (l : List Int), (divN low k l).length = l.length
  | 0, _ => rfl
  | k + 1, l => by
    rw [divN, divN_len low k, subI_len]
theorem divL_len (low l : List Int) : (divL low l).length = l.length := divN_len _ _ _
theorem quo_len (low l : List Int) : (quo low l).length = l.length - (low.length - 1) := by
  unfold quo
  rw [List.length_drop, divL_len]
theorem rst_len (low l : List Int) : (rst low l).length = min (low.length - 1) l.length := by
  unfold rst
  rw [List.length_take, divL_len]
/-- what lies behind stays -/
theorem subI_get (low : List Int) (f : Int) (s : Nat) : ∀ (j : Nat) (l : List Int) (i : Nat), s + j ≤ i → (subI low f s j l)[i]? = l[i]?
  | 0, _, _, _ => rfl
  | j + 1, l, i, h => by
    rw [subI, List.getElem?_set_ne (by omega)]
    exact subI_get low f s j l i (by omega)
theorem subI_drop (low : List Int) (f : Int) (s j : Nat) (l : List Int) {i : Nat} (h : s + j ≤ i) : (subI low f s j l).drop i = l.drop i := by
  refine List.ext_getElem? fun k => ?_
  rw [List.getElem?_drop, List.getElem?_drop, subI_get low f s j l (i + k) (by omega)]
/-- the table of C(1) to C(40) -/
def cycT : List (List Int) := [[], [-1, 1], [1, 1], [1, 1, 1], [1, 0, 1], [1, 1, 1, 1, 1], [1, -1, 1], [1, 1, 1, 1, 1, 1, 1], [1, 0, 0, 0, 1], [1, 0, 0, 1, 0, 0, 1], [1, -1, 1, -1, 1], [1, 1, 1, 1, 1, 1, 1, 1, 1, 1, 1], [1, 0, -1, 0, 1], [1, 1, 1, 1, 1, 1, 1, 1, 1, 1, 1, 1, 1], [1, -1, 1, -1, 1, -1, 1], [1, -1, 0, 1, -1, 1, 0, -1, 1], [1, 0, 0, 0, 0, 0, 0, 0, 1], [1, 1, 1, 1, 1, 1, 1, 1, 1, 1, 1, 1, 1, 1, 1, 1, 1], [1, 0, 0, -1, 0, 0, 1], [1, 1, 1, 1, 1, 1, 1, 1, 1, 1, 1, 1, 1, 1, 1, 1, 1, 1, 1], [1, 0, -1, 0, 1, 0, -1, 0, 1], [1, -1, 0, 1, -1, 0, 1, 0, -1, 1, 0, -1, 1], [1, -1, 1, -1, 1, -1, 1, -1, 1, -1, 1], [1, 1, 1, 1, 1, 1, 1, 1, 1, 1, 1, 1, 1, 1, 1, 1, 1, 1, 1, 1, 1, 1, 1], [1, 0, 0, 0, -1, 0, 0, 0, 1], [1, 0, 0, 0, 0, 1, 0, 0, 0, 0, 1, 0, 0, 0, 0, 1, 0, 0, 0, 0, 1], [1, -1, 1, -1, 1, -1, 1, -1, 1, -1, 1, -1, 1], [1, 0, 0, 0, 0, 0, 0, 0, 0, 1, 0, 0, 0, 0, 0, 0, 0, 0, 1], [1, 0, -1, 0, 1, 0, -1, 0, 1, 0, -1, 0, 1], [1, 1, 1, 1, 1, 1, 1, 1, 1, 1, 1, 1, 1, 1, 1, 1, 1, 1, 1, 1, 1, 1, 1, 1, 1, 1, 1, 1, 1], [1, 1, 0, -1, -1, -1, 0, 1, 1], [1, 1, 1, 1, 1, 1, 1, 1, 1, 1, 1, 1, 1, 1, 1, 1, 1, 1, 1, 1, 1, 1, 1, 1, 1, 1, 1, 1, 1, 1, 1], [1, 0, 0, 0, 0, 0, 0, 0, 0, 0, 0, 0, 0, 0, 0, 0, 1], [1, -1, 0, 1, -1, 0, 1, -1, 0, 1, -1, 1, 0, -1, 1, 0, -1, 1, 0, -1, 1], [1, -1, 1, -1, 1, -1, 1, -1, 1, -1, 1, -1, 1, -1, 1, -1, 1], [1, -1, 0, 0, 0, 1, -1, 1, -1, 0, 1, -1, 1, -1, 1, 0, -1, 1, -1, 1, 0, 0, 0, -1, 1], [1, 0, 0, 0, 0, 0, -1, 0, 0, 0, 0, 0, 1], [1, 1, 1, 1, 1, 1, 1, 1, 1, 1, 1, 1, 1, 1, 1, 1, 1, 1, 1, 1, 1, 1, 1, 1, 1, 1, 1, 1, 1, 1, 1, 1, 1, 1, 1, 1, 1], [1, -1, 1, -1, 1, -1, 1, -1, 1, -1, 1, -1, 1, -1, 1, -1, 1, -1, 1], [1, -1, 0, 1, -1, 0, 1, -1, 0, 1, -1, 0, 1, 0, -1, 1, 0, -1, 1, 0, -1, 1, 0, -1, 1], [1, 0, 0, 0, -1, 0, 0, 0, 1, 0, 0, 0, -1, 0, 0, 0, 1]]
def cyc (p : Nat) : List Int := cycT.getD p []
/-- low coefficients are 1, 0 or -1 -/
def Unt (l : List Int) : Prop := ∀ x ∈ l, -1 ≤ x ∧ x ≤ 1
theorem cyc_all : ∀ p, p < 41 → 1 ≤ p → (2 ≤ (cyc p).length ∧ (cyc p).length ≤ p + 1 ∧ (cyc p).all (fun x => decide (-1 ≤ x ∧ x ≤ 1)) = true) := by decide +kernel
theorem cyc_len {p : Nat} (h1 : 1 ≤ p) (h : p ≤ 40) : 2 ≤ (cyc p).length ∧ (cyc p).length ≤ p + 1 := ⟨(cyc_all p (by omega) h1).1, (cyc_all p (by omega) h1).2.1⟩
theorem cyc_unt {p : Nat} (h1 : 1 ≤ p) (h : p ≤ 40) : Unt (cyc p) := fun x hx => of_decide_eq_true (List.all_eq_true.mp (cyc_all p (by omega) h1).2.2 x hx)
/-- x ** p - 1 -/
def xn1 (p : Nat) : List Int := [-1] ++ List.replicate (p - 1) 0 ++ [1]
theorem xn1_len {p : Nat} (h : 1 ≤ p) : (xn1 p).length = p + 1 := by
  unfold xn1
  rw [List.length_append, List.length_append, List.length_replicate]
  show 1 + (p - 1) + 1 = p + 1
  omega
/-- x ** p - 1 without C(1), C(2) .. C(k) -/
def rootF (p : Nat) : Nat → List Int
  | 0 => xn1 p
  | k + 1 => if p % (k + 1) = 0 then quo (cyc (k + 1)) (rootF p k) else rootF p k
theorem root_all : ∀ p, p < 41 → 1 ≤ p → rootF p (p - 1) = cyc p := by decide +kernel
theorem root_cyc {p : Nat} (h1 : 1 ≤ p) (h : p ≤ 40) : rootF p (p - 1) = cyc p := root_all p (by omega) h1
theorem rootF_len (p : Nat) (h : 1 ≤ p) : ∀ k, (rootF p k).length ≤ p + 1
  | 0 => by rw [rootF, xn1_len h]; exact Nat.le_refl _
  | k + 1 => by
    have := rootF_len p h k
    rw [rootF]
    split
    · rw [quo_len]; omega
    · exact this
/-- the divisors of n up to k -/
def divs (n : Nat) : Nat → List Nat
  | 0 => []
  | k + 1 => if n % (k + 1) = 0 then divs n k ++ [k + 1] else divs n k
theorem divs_mem {n : Nat} : ∀ {k d : Nat}, d ∈ divs n k ↔ 1 ≤ d ∧ d ≤ k ∧ n % d = 0
  | 0, d => by
    rw [divs]
    exact ⟨fun h => (List.not_mem_nil h).elim, fun h => by omega⟩
  | k + 1, d => by
    rw [divs]
    by_cases c : n % (k + 1) = 0
    · rw [if_pos c, List.mem_append, divs_mem (k := k), List.mem_singleton]
      constructor
      · rintro (⟨a, b, e⟩ | rfl)
        · exact ⟨a, by omega, e⟩
        · exact ⟨by omega, Nat.le_refl _, c⟩
      · rintro ⟨a, b, e⟩
        by_cases z : d = k + 1
        · exact .inr z
        · exact .inl ⟨a, by omega, e⟩
    · rw [if_neg c, divs_mem (k := k)]
      constructor
      · rintro ⟨a, b, e⟩
        exact ⟨a, by omega, e⟩
      · rintro ⟨a, b, e⟩
        refine ⟨a, ?_, e⟩
        have : d ≠ k + 1 := fun z => c (by rw [← z]; exact e)
        omega
theorem divs_len {n : Nat} : ∀ k, (divs n k).length ≤ k
  | 0 => Nat.le_refl _
  | k + 1 => by
    have := divs_len (n := n) k
    rw [divs]
    split
    · rw [List.length_append]
      show _ + 1 ≤ _
      omega
    · omega
/-- x ** p - 1 without all C(d), d of a list that divides p -/
def foldQ (p : Nat) (ds : List Nat) : List Int := ds.foldl (fun a d => if p % d = 0 then quo (cyc d) a else a) (xn1 p)
theorem foldQ_snoc (p : Nat) (ds : List Nat) (d : Nat) : foldQ p (ds ++ [d]) = if p % d = 0 then quo (cyc d) (foldQ p ds) else foldQ p ds := by
  unfold foldQ
  rw [List.foldl_append]
  rfl
theorem foldQ_divs {n p : Nat} (hp : n % p = 0) : ∀ k, foldQ p (divs n k) = rootF p k
  | 0 => rfl
  | k + 1 => by
    rw [divs, rootF]
    by_cases c : n % (k + 1) = 0
    · rw [if_pos c, foldQ_snoc, foldQ_divs hp k]
    · rw [if_neg c, foldQ_divs hp k, if_neg]
      intro z
      exact c (Nat.mod_eq_zero_of_dvd (Nat.dvd_trans (Nat.dvd_of_mod_eq_zero z) (Nat.dvd_of_mod_eq_zero hp)))
theorem foldQ_len {p : Nat} (h : 1 ≤ p) : ∀ ds : List Nat, ∀ a : List Int, a.length ≤ p + 1 → (ds.foldl (fun a d => if p % d = 0 then quo (cyc d) a else a) a).length ≤ p + 1
  | [], a, ha => ha
  | d :: ds, a, ha => by
    rw [List.foldl_cons]
    refine foldQ_len h ds _ ?_
    split
    · rw [quo_len]; omega
    · exact ha
/-- the blind divisors -/
def blB (ns : List Int) (d : Nat) : Bool := (rst (cyc d) ns).all fun x => decide (x = 0)
def blindN (ns : List Int) (k : Nat) : List Nat := (divs ns.length k).filter (blB ns)
def blindL (ns : List Int) : List Nat := blindN ns ns.length
/-- the product of C(d) for all that are not blind -/
def hidQ (ns : List Int) : List Int := (blindL ns).foldl (fun a d => quo (cyc d) a) (xn1 ns.length)
def degS (ds : List Nat) : Nat := (ds.map fun d => (cyc d).length - 1).sum
theorem deg_all : ∀ n, n < 41 → 1 ≤ n → degS (divs n n) = n := by decide +kernel
theorem degS_filter (p : Nat → Bool) : ∀ ds : List Nat, degS (ds.filter p) ≤ degS ds
  | [] => Nat.le_refl _
  | d :: ds => by
    have := degS_filter p ds
    rw [List.filter_cons]
    split
    · unfold degS at *
      rw [List.map_cons, List.sum_cons, List.map_cons, List.sum_cons]
      omega
    · unfold degS at *
      rw [List.map_cons, List.sum_cons]
      omega
theorem fold_len : ∀ (ds : List Nat) (a : List Int), degS ds ≤ a.length → (ds.foldl (fun a d => quo (cyc d) a) a).length = a.length - degS ds
  | [], a, _ => rfl
  | d :: ds, a, h => by
    unfold degS at h
    rw [List.map_cons, List.sum_cons] at h
    rw [List.foldl_cons, fold_len ds _ (by rw [quo_len]; unfold degS; omega), quo_len]
    unfold degS
    rw [List.map_cons, List.sum_cons]
    omega
theorem blind_deg {ns : List Int} (h1 : 1 ≤ ns.length) (h : ns.length ≤ 40) : degS (blindL ns) ≤ ns.length := by
  have := degS_filter (blB ns) (divs ns.length ns.length)
  rw [deg_all ns.length (by omega) h1] at this
  exact this
theorem hidQ_len {ns : List Int} (h1 : 1 ≤ ns.length) (h : ns.length ≤ 40) : (hidQ ns).length = ns.length + 1 - degS (blindL ns) := by
  have := blind_deg h1 h
  unfold hidQ
  rw [fold_len _ _ (by rw [xn1_len h1]; omega), xn1_len h1]
theorem blind_mem {ns : List Int} {d : Nat} (h : d ∈ blindL ns) : 1 ≤ d ∧ d ≤ ns.length ∧ ns.length % d = 0 := divs_mem.mp (List.mem_filter.mp h).1
theorem degS_pos {ns : List Int} (h : ns.length ≤ 40) : degS (blindL ns) = 0 ↔ blindL ns = [] := by
  constructor
  · intro z
    cases e : blindL ns with
    | nil => rfl
    | cons d ds =>
      exfalso
      have hd := blind_mem (ns := ns) (d := d) (by rw [e]; exact List.mem_cons_self)
      have := (cyc_len hd.1 (by omega)).1
      rw [e] at z
      unfold degS at z
      rw [List.map_cons, List.sum_cons] at z
      omega
  · intro z
    rw [z]
    rfl
theorem divs_sorted {n : Nat} : ∀ {k i d e : Nat}, (divs n k)[i]? = some d → e ∈ (divs n k).take i → e < d
  | 0, _, _, _, h, _ => by
    rw [divs] at h
    cases h
  | k + 1, i, d, e, h, he => by
    rw [divs] at h he
    by_cases c : n % (k + 1) = 0
    · rw [if_pos c] at h he
      by_cases z : i < (divs n k).length
      · rw [List.getElem?_append_left z] at h
        rw [List.take_append_of_le_length (Nat.le_of_lt z)] at he
        exact divs_sorted h he
      · have hi : i = (divs n k).length := by
          have := (List.getElem?_eq_some_iff.mp h).1
          rw [List.length_append] at this
          have t : i < (divs n k).length + 1 := this
          omega
        subst hi
        rw [List.getElem?_append_right (Nat.le_refl _), Nat.sub_self] at h
        have hd : k + 1 = d := Option.some.inj h
        rw [List.take_left] at he
        have := (divs_mem.mp he).2.1
        omega
    · rw [if_neg c] at h he
      exact divs_sorted h he
theorem divs_lt {n k i d e : Nat} (h : (divs n k)[i]? = some d) (he : e ∈ (divs n k).take i) : e < d := divs_sorted h he
theorem degI : ∀ {ds : List Nat}, (∀ d ∈ ds, 1 ≤ d ∧ d ≤ 40) → (ds.map fun d => ((cyc d).length : Int) - 1).sum = (degS ds : Int)
  | [], _ => rfl
  | d :: ds, h => by
    have hd := h d List.mem_cons_self
    have hl := (cyc_len hd.1 hd.2).1
    rw [List.map_cons, List.sum_cons, degI fun x hx => h x (List.mem_cons_of_mem _ hx)]
    unfold degS
    rw [List.map_cons, List.sum_cons]
    omega
end Sd

namespace Sd
open PySem PySem.Spec PyProof.Rows L2

/-! ### rules: any of a list of ints, xs[i] -= .., a dict that is locked and left so, a dict comprehension over its items -/
section
variable {X : Cx}
theorem truth_ints {K : PySem.W.Frag} {prog : Program} {w : World} {A : Around} {ns : List Int} {its : List Value} (r : Vals (ns.map V.int) its) :
    TruthOf prog w A (fun i v => its.toArray[i]? = some v) (fun i => (ns.map fun n => decide (n ≠ 0)).getD i false) := fun i v s Q E hv hq => by
  have hv' : its[i]? = some v := by simpa using hv
  have hl := r.length
  rw [List.length_map] at hl
  have hi : i < ns.length := by
    rw [hl]
    exact (List.getElem?_eq_some_iff.mp hv').1
  obtain ⟨w1, e1, r1⟩ := r.get (i := i) (x := .int ns[i]) (by rw [List.getElem?_map, List.getElem?_eq_getElem hi]; rfl)
  rw [hv'] at e1
  cases e1
  obtain ⟨t, rfl⟩ := r1
  have hg : (ns.map fun n => decide (n ≠ 0)).getD i false = decide (ns[i] ≠ 0) := by
    rw [List.getD_eq_getElem?_getD, List.getElem?_map, List.getElem?_eq_getElem hi]
    rfl
  have hq' : Q ((ns.map fun n => decide (n ≠ 0)).getD i false) s := hq
  rw [hg] at hq'
  refine PySem.P.truthy_int ?_
  have e : (ns[i] != 0) = decide (ns[i] ≠ 0) := by
    by_cases c : ns[i] = 0
    · rw [c]; rfl
    · rw [decide_eq_true c]
      exact bne_iff_ne.mpr c
  first
    | exact hq'
    | (rw [e]; exact hq')
def rAnyI (K : PySem.W.Frag) : List V → Hp → VK → Prop := fun vs H Q => ∃ (a : Addr) (ns : List Int), vs = [V.ref a] ∧ SqL K H a (ns.map V.int) ∧ Q (.bl (!ns.all fun x => decide (x = 0))) H
theorem any_not_all : ∀ ns : List Int, (ns.map fun n => decide (n ≠ 0)).any id = !ns.all fun x => decide (x = 0)
  | [] => rfl
  | n :: ns => by
    rw [List.map_cons, List.any_cons, List.all_cons, any_not_all ns, Bool.not_and]
    congr 1
    by_cases c : n = 0
    · rw [decide_eq_true c]; subst c; rfl
    · rw [decide_eq_false c]
      exact decide_eq_true c
theorem cr_anyI {K : PySem.W.Frag} (hK : X.K = K) (hc : X.calm = true) : CallR X (.builtin "any") (rAnyI K) := by
  subst hK
  intro pins s σ H vs us Q I r h
  obtain ⟨a, ns, rfl, hs, q⟩ := h
  obtain ⟨its, rv, hl, _⟩ := I.list hs
  rw [Vals.ref1 r]
  refine call_any_walk (iter_any hl.isList fun s₂ e2 st hne => ?_)
  subst e2
  refine ⟨_, _, _, _, _, _, _, rfl, Walks.list (A := X.A.in1) (I.ok.hd hc) _ a hne its.toArray, st, truth_ints (K := X.K) rv, fun h' tk hk => ?_⟩
  refine ⟨.bl _, H, I.kept fun b o eo => hk b o (fun hmem => ?_) (Heap.get?_push_of_some _ eo), ?_, q⟩
  · rcases List.mem_cons.mp hmem with e1 | hmem
    · exact absurd (e1 ▸ Heap.lt_size eo) (Nat.lt_irrefl _)
    · cases hmem
  · show Value.bool _ = Value.bool _
    have e := any_range (ns.map fun n => decide (n ≠ 0))
    rw [← any_not_all, ← e, List.size_toArray, ← rv.length, List.length_map, List.length_map]
/-- xs[i], read by an augmented assignment -/
def rGetL (K : PySem.W.Frag) : V → V → Hp → VK → Prop := fun o i H Q => ∃ (p : Addr) (xs : List V) (k : Int) (z : V), o = .ref p ∧ i = .int k ∧ SqL K H p xs ∧ 0 ≤ k ∧ xs[k.toNat]? = some z ∧ Q z H
theorem get_listP {K : PySem.W.Frag} (hK : X.K = K) : PGet X (rGetL K) := by
  subst hK
  intro pins s σ H o i ov iv Q I ro ri h
  obtain ⟨p, xs, k, z, rfl, rfl, hq, h0, he, q⟩ := h
  cases ro
  obtain ⟨t, rfl⟩ := ri
  obtain ⟨its, r, pl, hz⟩ := I.list hq
  obtain ⟨w, ew, rw'⟩ := r.get he
  have hlt : k.toNat < its.length := (List.getElem?_eq_some_iff.mp ew).1
  have hn := line63
  have hl := r.length
  exact wpAny_getItem_list pl.isList h0 (by omega) (by simpa using ew) ⟨z, H, I, rw', q⟩
/-- the dict that an expression gives is locked from then on -/
def tLk (td : TE) : TE := fun σ H Q => td σ H fun x H1 => ∃ d kvs, x = .ref d ∧ H1 d = some (.dK kvs) ∧ ∀ od, Q x (upd H1 d (.frz od (.dK kvs)))
theorem pe_lk {e : Expr} {td : TE} (h : PE X e td) : PE X e (tLk td) := by
  refine ⟨fun pins s σ H Q I hw => ?_⟩
  refine thn (h.run pins s σ H _ I hw) fun v s1 ⟨x, H1, I1, r, d, kvs, ex, hd, q⟩ => ?_
  obtain ⟨od, I2⟩ := I1.lock hd trivial
  exact ⟨x, _, I2, r, q od⟩
theorem ixT {K : PySem.W.Frag} (h : X.K = K) : IxR X (rIxT K) := h ▸ ix_tup
theorem dc_it {J : It} {n : Nat} {G : Hp → Prop} {Y : Nat → Hp → V → Hp → Prop} (w : Walk J n G Y) {g : TG} {tt : TT} {tk tv : TE} {vs : List Nat} {σ : L2.St} {H1 : Hp} {D : Addr} {Qd : Hp → Prop} (Pv : Nat → Hp → Prop) (h0 : Pv 0 (upd H1 D (.dK []))) (hG : ∀ i H, i ≤ n → Pv i H → G H)
    (hs : ∀ i x H H', i < n → Pv i H → Y i H x H' → g x (wipe σ vs) H' fun σ2 H2 => wipe σ2 vs = wipe σ vs ∧ tt σ2 H2 fun b H3 =>
      if b = true then tk σ2 H3 fun y H4 => tv σ2 H4 fun z H5 => ∃ kvs k, y = kV k ∧ H5 D = some (.dK kvs) ∧ kvs.length < sizeLine ∧ Pv (i + 1) (upd H5 D (.dK (putK kvs k z))) else Pv (i + 1) H3) (hd : ∀ H, Pv n H → Qd H) :
    ∃ W : Nat → Nat → Hp → Prop, (∃ m, W 0 m (upd H1 D (.dK []))) ∧ ∀ i m H, W i m H →
      (J.stop i H ∧ Qd H) ∨ (J.go i H ∧ ∃ Nx : Hp → Prop, (∀ H', Nx H' → ∃ m', m' < m ∧ W (i + 1) m' H') ∧ ∀ x H', J.yld i H x H' → g x (wipe σ vs) H' fun σ2 H2 => wipe σ2 vs = wipe σ vs ∧ tt σ2 H2 fun b H3 =>
        if b = true then tk σ2 H3 fun y H4 => tv σ2 H4 fun z H5 => ∃ kvs k, y = kV k ∧ H5 D = some (.dK kvs) ∧ kvs.length < sizeLine ∧ Nx (upd H5 D (.dK (putK kvs k z))) else Nx H3) := by
  refine ⟨fun i m H => m = n - i ∧ i ≤ n ∧ Pv i H, ⟨n, by simp, Nat.zero_le _, h0⟩, ?_⟩
  rintro i m H ⟨rfl, hi, p⟩
  have q := hG i H hi p
  by_cases hlt : i < n
  · exact .inr ⟨w.goes i H hlt q, Pv (i + 1), fun H' p' => ⟨n - (i + 1), by omega, rfl, hlt, p'⟩, fun x H' y => hs i x H H' hlt p (w.yields i H x H' hlt q y)⟩
  · have e : i = n := by omega
    subst e
    exact .inl ⟨w.stops H q, hd H p⟩
end
/-! ### dicts from divisors to lists -/
inductive Tabl (H : Hp) : List (Key × V) → List Nat → Prop
  | nil : Tabl H [] []
  | cons {d : Nat} {r : Addr} {kvs : List (Key × V)} {ds : List Nat} : H r = some (.lst ((cyc d).map V.int)) → Tabl H kvs ds → Tabl H ((.inl (d : Int), .ref r) :: kvs) (d :: ds)
theorem Tabl.same {H H' : Hp} (s : Same H H') : ∀ {kvs : List (Key × V)} {ds : List Nat}, Tabl H kvs ds → Tabl H' kvs ds
  | _, _, .nil => .nil
  | _, _, .cons h t => .cons (s _ _ h) (t.same s)
theorem Tabl.but {H H' : Hp} {T : Addr} (hT : ∀ xs, H T ≠ some (.lst xs)) (s : But T H H') : ∀ {kvs : List (Key × V)} {ds : List Nat}, Tabl H kvs ds → Tabl H' kvs ds
  | _, _, .nil => .nil
  | _, _, .cons h t => .cons (s _ _ h (fun e => hT _ (by rw [← e]; exact h))) (t.but hT s)
theorem Tabl.len {H : Hp} : ∀ {kvs : List (Key × V)} {ds : List Nat}, Tabl H kvs ds → kvs.length = ds.length
  | _, _, .nil => rfl
  | _, _, .cons _ t => by rw [List.length_cons, List.length_cons, t.len]
theorem Tabl.at {H : Hp} : ∀ {kvs : List (Key × V)} {ds : List Nat} {i : Nat}, Tabl H kvs ds → i < ds.length → ∃ d r, ds[i]? = some d ∧ kvs[i]? = some (.inl (d : Int), .ref r) ∧ H r = some (.lst ((cyc d).map V.int))
  | _, _, i, .nil, h => absurd h (Nat.not_lt_zero _)
  | _, _, 0, .cons h t, _ => ⟨_, _, rfl, rfl, h⟩
  | _, _, i + 1, .cons h t, l => t.at (i := i) (Nat.lt_of_succ_lt_succ l)
theorem Tabl.snoc {H : Hp} {d : Nat} {r : Addr} (h : H r = some (.lst ((cyc d).map V.int))) : ∀ {kvs : List (Key × V)} {ds : List Nat}, Tabl H kvs ds → Tabl H (kvs ++ [(.inl (d : Int), .ref r)]) (ds ++ [d])
  | _, _, .nil => .cons h .nil
  | _, _, .cons h1 t => .cons h1 (t.snoc h)
theorem Tabl.put {H : Hp} {d : Nat} : ∀ {kvs : List (Key × V)} {ds : List Nat}, Tabl H kvs ds → (∀ e ∈ ds, e < d) → (kvs.any fun kv => decide (kv.1 = (.inl (d : Int) : Key))) = false
  | _, _, .nil, _ => rfl
  | _, _, @Tabl.cons _ e r kvs ds _ t, h => by
    rw [List.any_cons, t.put fun x hx => h x (List.mem_cons_of_mem _ hx), Bool.or_false]
    refine decide_eq_false fun z => ?_
    have h1 := h e List.mem_cons_self
    have h2 : (e : Int) = (d : Int) := Sum.inl.inj z
    omega
theorem Tabl.putK {H : Hp} {d : Nat} {v : V} {kvs : List (Key × V)} {ds : List Nat} (t : Tabl H kvs ds) (h : ∀ e ∈ ds, e < d) : putK kvs (.inl (d : Int)) v = kvs ++ [(.inl (d : Int), v)] := by
  unfold L2.putK
  rw [if_neg (by rw [t.put h]; exact Bool.false_ne_true)]
theorem eqv_dI0 (a : List Int) : PyData.eqv (dI a) (dI []) = a.isEmpty := by cases a <;> rfl
end Sd

namespace Sd
open PySem PySem.Spec PyProof.Rows L2

/-! ### things without dicts within, beside a tank -/
def NDk : PyData → Prop
  | .list ds => PyData.hasDictAll ds = false ∧ PyData.canLayAll0 ds = true
  | _ => True
def E9 (t : Addr) (H : Hp) (v : V) : Prop := ∃ d, Dq (mask t H) v d ∧ d.showable = true ∧ d.depth ≤ 1 ∧ d.shown.length ≤ 1100 ∧ d.hasDict = false ∧ d.canLay0 = true
def T9 (t : Addr) (H : Hp) (v : V) : Prop := ∃ d, Dq (mask t H) v d ∧ d.showable = true ∧ d.depth ≤ 3 ∧ d.shown.length ≤ 300000 ∧ NDk d
theorem E9.but {t : Addr} {H H' : Hp} {v : V} (h : E9 t H v) (u : But t H H') : E9 t H' v := let ⟨d, q, r⟩ := h; ⟨d, q.same (mask_but u), r⟩
theorem T9.but {t : Addr} {H H' : Hp} {v : V} (h : T9 t H v) (u : But t H H') : T9 t H' v := let ⟨d, q, r⟩ := h; ⟨d, q.same (mask_but u), r⟩
theorem ndk_of {d : PyData} (h : d.hasDict = false ∧ d.canLay0 = true) : NDk d := by
  cases d <;> first | trivial | (obtain ⟨h1, h2⟩ := h; simp only [PyData.hasDict] at h1; simp only [PyData.canLay0] at h2; exact ⟨h1, h2⟩)
theorem E9.th {t : Addr} {H : Hp} {v : V} (h : E9 t H v) : T9 t H v := let ⟨d, q, r1, r2, r3, r4⟩ := h; ⟨d, q, r1, by omega, by omega, ndk_of r4⟩
theorem e9_non {t : Addr} {H : Hp} : E9 t H .non := ⟨.none, .non, rfl, by decide, by decide +kernel, by decide, by decide⟩
theorem e9_bl {t : Addr} {H : Hp} (b : Bool) : E9 t H (.bl b) := ⟨.bool b, .bl b, by simp only [PyData.showable], by simp only [PyData.depth]; omega, by cases b <;> decide +kernel, by simp only [PyData.hasDict], by simp only [PyData.canLay0]⟩
theorem e9_int {t : Addr} {H : Hp} {i : Int} (h : i.natAbs < 2 ^ 1000) : E9 t H (.int i) := ⟨.int i, .int i, (rp_int h).sh, by simp only [PyData.depth]; omega, by have := shown_int h; omega, by simp only [PyData.hasDict], by simp only [PyData.canLay0]⟩
theorem e9_str0 {t : Addr} {H : Hp} : E9 t H (.str "0") := ⟨.str "0", .str "0", by simp only [PyData.showable], by simp only [PyData.depth]; omega, by decide +kernel, by simp only [PyData.hasDict], by decide +kernel⟩
theorem t9_emp {t : Addr} {H : Hp} {a : Addr} (h : H a = some (.dK [])) (n : a ≠ t) : T9 t H (.ref a) := ⟨.dict [], .emp (by rw [mask_ne n]; exact h), by decide, by decide, by decide +kernel, trivial⟩
theorem e9s {t : Addr} {H : Hp} : ∀ {xs : List V}, (∀ x ∈ xs, E9 t H x) → ∃ ds, DqAll (mask t H) xs ds ∧ PyData.showableAll ds = true ∧ PyData.depthAll ds ≤ 1 ∧ (∀ d ∈ ds, d.shown.length ≤ 1100) ∧ PyData.hasDictAll ds = false ∧ PyData.canLayAll0 ds = true
  | [], _ => ⟨[], .nil, by simp only [PyData.showableAll], by simp only [PyData.depthAll]; omega, fun d hd => (List.not_mem_nil hd).elim, by simp only [PyData.hasDictAll], by simp only [PyData.canLayAll0]⟩
  | x :: xs, h => by
    obtain ⟨d, q, r1, r2, r3, r4, r5⟩ := h x List.mem_cons_self
    obtain ⟨ds, p1, p2, p3, p4, p5, p6⟩ := e9s (xs := xs) fun y hy => h y (List.mem_cons_of_mem _ hy)
    refine ⟨d :: ds, .cons q p1, by simp only [PyData.showableAll, r1, p2, Bool.and_self], by simp only [PyData.depthAll]; omega, fun e he => ?_, by simp only [PyData.hasDictAll, r4, p5, Bool.or_self], by simp only [PyData.canLayAll0, r5, p6, Bool.and_self]⟩
    rcases List.mem_cons.mp he with z | z
    · rw [z]
      exact r3
    · exact p4 e z
theorem t9_list {t : Addr} {H : Hp} {p : Addr} {xs : List V} (h : H p = some (.lst xs)) (n : p ≠ t) (hl : xs.length ≤ 200) (hx : ∀ x ∈ xs, E9 t H x) : T9 t H (.ref p) := by
  obtain ⟨ds, p1, p2, p3, p4, p5⟩ := e9s hx
  have e := p1.length
  refine ⟨.list ds, .lst (by rw [mask_ne n]; exact h) p1, by simp only [PyData.showable, p2], by simp only [PyData.depth]; omega, ?_, p5⟩
  have := shown_list p4
  omega
theorem t9_tuple {t : Addr} {H : Hp} {p : Addr} {xs : List V} (h : H p = some (.tup xs)) (n : p ≠ t) (hl : xs.length ≤ 200) (hx : ∀ x ∈ xs, E9 t H x) : T9 t H (.ref p) := by
  obtain ⟨ds, p1, p2, p3, p4, p5⟩ := e9s hx
  have e := p1.length
  refine ⟨.tuple ds, .tup (by rw [mask_ne n]; exact h) p1, by simp only [PyData.showable, p2], by simp only [PyData.depth]; omega, ?_, trivial⟩
  have := shown_tuple p4
  omega
theorem e9_ints {t : Addr} {H : Hp} {ns : List Int} (h : ∀ n ∈ ns, n.natAbs < 2 ^ 1000) : ∀ x ∈ ns.map V.int, E9 t H x := fun x hx => by
  obtain ⟨m, hm, rfl⟩ := List.mem_map.mp hx
  exact e9_int (h m hm)
theorem t9_ints {t : Addr} {H : Hp} {p : Addr} {ns : List Int} (h : H p = some (.lst (ns.map V.int))) (n : p ≠ t) (hl : ns.length ≤ 200) (hx : ∀ n ∈ ns, n.natAbs < 2 ^ 1000) : T9 t H (.ref p) :=
  t9_list h n (by rw [List.length_map]; exact hl) (e9_ints hx)
theorem t9_rep {t : Addr} {H : Hp} {p : Addr} {k : Nat} {v : Int} (h : H p = some (.lst (List.replicate k [V.int v]).flatten)) (n : p ≠ t) (hl : k ≤ 200) (hv : v.natAbs < 2 ^ 1000) : T9 t H (.ref p) := by
  rw [rep_one] at h
  exact t9_ints h n (by rw [List.length_replicate]; exact hl) fun m hm => by rw [(List.mem_replicate.mp hm).2]; exact hv
theorem rep_any (v : V) : ∀ k : Nat, (List.replicate k [v]).flatten = List.replicate k v
  | 0 => rfl
  | k + 1 => by
    rw [List.replicate_succ, List.replicate_succ, List.flatten_cons, rep_any v k]
    rfl
/-- [ints] -/
theorem t9_one {t : Addr} {H : Hp} {p b : Addr} {ns : List Int} (h : H p = some (.lst [.ref b])) (n : p ≠ t) (hb : H b = some (.lst (ns.map V.int))) (nb : b ≠ t) (hl : ns.length ≤ 40) (hx : ∀ n ∈ ns, n.natAbs < 2 ^ 1000) : T9 t H (.ref p) := by
  obtain ⟨ds, p1, p2, p3, p4, p5, p6⟩ := e9s (t := t) (H := H) (xs := ns.map V.int) fun x hxx => by
    obtain ⟨m, hm, rfl⟩ := List.mem_map.mp hxx
    exact e9_int (hx m hm)
  have e := p1.length
  rw [List.length_map] at e
  have z := shown_list p4
  refine ⟨.list [.list ds], .lst (by rw [mask_ne n]; exact h) (.cons (.lst (by rw [mask_ne nb]; exact hb) p1) .nil), by simp only [PyData.showable, PyData.showableAll, p2, Bool.and_self], by simp only [PyData.depth, PyData.depthAll]; omega, ?_, by show PyData.hasDictAll [.list ds] = false ∧ PyData.canLayAll0 [.list ds] = true; simp only [PyData.hasDictAll, PyData.hasDict, p5, Bool.or_self, PyData.canLayAll0, PyData.canLay0, p6, Bool.and_self, and_self]⟩
  have z2 := shown_list (B := 1102 * 40 + 3) (ds := [.list ds]) fun d hd => by
    rw [List.mem_singleton.mp hd]
    omega
  exact Nat.le_trans z2 (by show (1102 * 40 + 3 + 2) * 1 + 3 ≤ 300000; decide)
/-- [0], (0,) as items -/
theorem e9_list0 {t : Addr} {H : Hp} {p : Addr} (h : H p = some (.lst [.int 0])) (n : p ≠ t) : E9 t H (.ref p) := ⟨.list [.int 0], .lst (by rw [mask_ne n]; exact h) (.cons (.int 0) .nil), by decide, by decide, by decide +kernel, by decide, by decide⟩
theorem e9_tup0 {t : Addr} {H : Hp} {p : Addr} (h : H p = some (.tup [.int 0])) (n : p ≠ t) : E9 t H (.ref p) := ⟨.tuple [.int 0], .tup (by rw [mask_ne n]; exact h) (.cons (.int 0) .nil), by decide, by decide, by decide +kernel, by decide, by decide⟩
/-! ### two that change -/
def But2 (t f : Addr) (H H' : Hp) : Prop := ∀ b o, H b = some o → b ≠ t → b ≠ f → H' b = some o
theorem but2_mask {t f : Addr} {H H' : Hp} (u : But2 t f H H') : But t (mask f H) (mask f H') := fun b o e n => by
  unfold mask at e ⊢
  split at e
  · cases e
  · rename_i nf
    rw [if_neg nf]
    exact u b o e n nf
theorem but_mask {t f : Addr} {H H' : Hp} (u : But t H H') : But t (mask f H) (mask f H') := but2_mask fun b o e n _ => u b o e n
theorem mask_in {t f : Addr} {H H' : Hp} (u : But t H H') (h : H f = none) : But t H (mask f H') := fun b o e n => by
  have : b ≠ f := ne_of_none e h
  rw [mask_ne this]
  exact u b o e n
theorem T9.out {t f : Addr} {H : Hp} {v : V} (h : T9 t (mask f H) v) : T9 t H v := h.but (But.of (mask_same f H))
theorem cut_takeV (xs : List V) (s : Int) (h0 : 0 ≤ s) : cutV xs none (some s) = xs.take s.toNat := by
  obtain ⟨k, rfl⟩ : ∃ k : Nat, s = (k : Int) := ⟨s.toNat, by omega⟩
  unfold cutV
  rw [HT.sIx_none, HT.sIx_nat, Int.toNat_natCast, List.drop_zero, Nat.sub_zero]
  rcases Nat.le_total k xs.length with z | z
  · rw [Nat.min_eq_left z]
  · rw [Nat.min_eq_right z, List.take_of_length_le (Nat.le_refl _), List.take_of_length_le z]
theorem cut_memV {xs : List V} {lo hi : Option Int} {x : V} (h : x ∈ cutV xs lo hi) : x ∈ xs := List.mem_of_mem_drop (List.mem_of_mem_take h)
/-! ### from told data to what is compared -/
mutual
theorem Dq.dp {K : PySem.W.Frag} {H : Hp} : ∀ {v : V} {d : PyData}, Dq H v d → d.hasDict = false → Dp K H v d
  | _, _, .non, _ => .non
  | _, _, .bl b, _ => .bl b
  | _, _, .int i, _ => .int i
  | _, _, .str x, _ => .str x
  | _, _, .lst h1 h2, n => .lst (SqL.of h1) (DqAll.dp h2 (by simp only [PyData.hasDict] at n; exact n))
  | _, _, .tup h1 h2, n => .tup (SqT.of h1) (DqAll.dp h2 (by simp only [PyData.hasDict] at n; exact n))
  | _, _, .emp _, n => by
    simp only [PyData.hasDict] at n
    cases n
theorem DqAll.dp {K : PySem.W.Frag} {H : Hp} : ∀ {vs : List V} {ds : List PyData}, DqAll H vs ds → PyData.hasDictAll ds = false → DpAll K H vs ds
  | _, _, .nil, _ => .nil
  | _, _, .cons h1 h2, n => by
    simp only [PyData.hasDictAll, Bool.or_eq_false_iff] at n
    exact .cons (Dq.dp h1 n.1) (DqAll.dp h2 n.2)
end
theorem eqv_nil (ds : List PyData) : PyData.eqv (.list ds) (.list []) = ds.isEmpty := by cases ds <;> rfl
/-! ### bounds -/
theorem subI_ab {b : Nat} {low : List Int} {f : Int} {s : Nat} (hU : Unt low) (hf : f.natAbs < 2 ^ b) : ∀ (j : Nat) {l : List Int}, Ab b l → Ab (b + 1) (subI low f s j l)
  | 0, l, h => h.mono (Nat.le_succ b)
  | j + 1, l, h => fun n hn => by
    rw [subI] at hn
    rcases List.mem_or_eq_of_mem_set hn with z | z
    · exact subI_ab hU hf j h n z
    · have h1 : ((subI low f s j l).getD (s + j) 0).natAbs < 2 ^ b := by
        rw [List.getD_eq_getElem?_getD, subI_get low f s j l (s + j) (Nat.le_refl _)]
        cases e : l[s + j]? with
        | none => exact Nat.pos_of_ne_zero (by have := Nat.one_le_two_pow (n := b); omega)
        | some x => exact h x (List.mem_of_getElem? e)
      have h2 : (f * low.getD j 0).natAbs < 2 ^ b := by
        rw [List.getD_eq_getElem?_getD]
        cases e : low[j]? with
        | none =>
          show (f * 0).natAbs < 2 ^ b
          rw [Int.mul_zero]
          exact Nat.lt_of_le_of_lt (Nat.zero_le _) hf
        | some x =>
          have hx := hU x (List.mem_of_getElem? e)
          have : x = -1 ∨ x = 0 ∨ x = 1 := by omega
          show (f * x).natAbs < 2 ^ b
          rcases this with rfl | rfl | rfl <;> omega
      rw [Nat.pow_succ]
      omega
theorem divN_ab {low : List Int} (hU : Unt low) : ∀ (k b : Nat) {l : List Int}, Ab b l → Ab (b + k) (divN low k l)
  | 0, _, _, h => h
  | k + 1, b, l, h => by
    rw [divN]
    have hf : (l.getD (low.length - 1 + k) 0).natAbs < 2 ^ b := by
      rw [List.getD_eq_getElem?_getD]
      cases e : l[low.length - 1 + k]? with
      | none => exact Nat.pos_of_ne_zero (by have := Nat.one_le_two_pow (n := b); omega)
      | some x => exact h x (List.mem_of_getElem? e)
    have := divN_ab hU k (b + 1) (subI_ab hU hf (low.length - 1) (s := k) h)
    rw [show b + (k + 1) = b + 1 + k by omega]
    exact this
theorem quo_ab {low l : List Int} (hU : Unt low) {b : Nat} (h : Ab b l) : Ab (b + l.length) (quo low l) := fun n hn => by
  have := divN_ab hU (l.length - (low.length - 1)) b h n (List.mem_of_mem_drop hn)
  exact Nat.lt_of_lt_of_le this (pow_up (by omega))
theorem divs_few : ∀ n, n < 41 → (divs n n).length ≤ 9 := by decide +kernel
theorem foldq_ab {n : Nat} : ∀ (ds : List Nat) (a : List Int) (b : Nat), (∀ d ∈ ds, 1 ≤ d ∧ d ≤ 40) → a.length ≤ n + 1 → Ab b a → Ab (b + (n + 1) * ds.length) (ds.foldl (fun a d => quo (cyc d) a) a)
  | [], a, b, _, _, h => h
  | d :: ds, a, b, hd, hl, h => by
    have h1 := hd d List.mem_cons_self
    rw [List.foldl_cons]
    have h2 := quo_ab (cyc_unt h1.1 h1.2) h
    have := foldq_ab (n := n) ds (quo (cyc d) a) (b + (n + 1)) (fun x hx => hd x (List.mem_cons_of_mem _ hx)) (by rw [quo_len]; omega) (h2.mono (by omega))
    rw [List.length_cons, Nat.mul_succ]
    rw [show b + ((n + 1) * ds.length + (n + 1)) = b + (n + 1) + (n + 1) * ds.length by omega]
    exact this
theorem xn1_ab (n : Nat) : Ab 1 (xn1 n) := fun x hx => by
  unfold xn1 at hx
  rcases List.mem_append.mp hx with h | h
  · rcases List.mem_append.mp h with h | h
    · rw [List.mem_singleton.mp h]
      decide
    · rw [(List.mem_replicate.mp h).2]
      decide
  · rw [List.mem_singleton.mp h]
    decide
theorem hidQ_ab {ns : List Int} (l1 : 1 ≤ ns.length) (h : ns.length ≤ 40) : Ab 400 (hidQ ns) := by
  have h1 := foldq_ab (n := ns.length) (blindL ns) (xn1 ns.length) 1 (fun d hd => by have := blind_mem hd; omega) (by rw [xn1_len l1]; exact Nat.le_refl _) (xn1_ab _)
  have h2 : (blindL ns).length ≤ 9 := Nat.le_trans (List.length_filter_le _ _) (divs_few _ (by omega))
  have h3 : (ns.length + 1) * (blindL ns).length ≤ 41 * 9 := Nat.mul_le_mul (by omega) h2
  exact Ab.mono h1 (by omega)
end Sd

namespace Sd
open PySem PySem.Spec PyProof.Rows L2

/-! ### polynomials that act on sequences -/
abbrev Sq := Int → Int
def act : List Int → Sq → Sq
  | [], _, _ => 0
  | a :: p, s, i => a * s i + act p s (i + 1)
theorem act_congr {s t : Sq} : ∀ {p : List Int} {i i' : Int}, (∀ j : Nat, j < p.length → s (i + j) = t (i' + j)) → act p s i = act p t i'
  | [], _, _, _ => rfl
  | a :: p, i, i', h => by
    have h0 := h 0 (Nat.succ_pos _)
    have e0 : s i = t i' := by
      have : s (i + ((0 : Nat) : Int)) = t (i' + ((0 : Nat) : Int)) := h0
      rw [show i + ((0 : Nat) : Int) = i by omega, show i' + ((0 : Nat) : Int) = i' by omega] at this
      exact this
    have ih := act_congr (s := s) (t := t) (p := p) (i := i + 1) (i' := i' + 1) fun j hj => by
      have := h (j + 1) (Nat.succ_lt_succ hj)
      rw [show i + ((j + 1 : Nat) : Int) = i + 1 + (j : Int) by omega, show i' + ((j + 1 : Nat) : Int) = i' + 1 + (j : Int) by omega] at this
      exact this
    rw [act, act, e0, ih]
theorem act_shift (p : List Int) (s : Sq) (c i : Int) : act p (fun k => s (k + c)) i = act p s (i + c) :=
  act_congr fun j _ => by show s (i + j + c) = s (i + c + j); rw [show i + (j : Int) + c = i + c + j by omega]
theorem act_add : ∀ (p : List Int) (s t : Sq) (i : Int), act p (fun k => s k + t k) i = act p s i + act p t i
  | [], _, _, _ => rfl
  | a :: p, s, t, i => by
    rw [act, act, act, act_add p s t, Int.mul_add]
    omega
theorem act_mul : ∀ (p : List Int) (c : Int) (s : Sq) (i : Int), act p (fun k => c * s k) i = c * act p s i
  | [], c, _, _ => (Int.mul_zero c).symm
  | a :: p, c, s, i => by
    rw [act, act, act_mul p c s, Int.mul_add, ← Int.mul_assoc, ← Int.mul_assoc, Int.mul_comm a c]
theorem act_zero (p : List Int) (i : Int) : act p (fun _ => 0) i = 0 := by
  have := act_mul p 0 (fun _ => 0) i
  exact (by simpa using this)
theorem act_null {p : List Int} {s : Sq} (h : ∀ i, s i = 0) (i : Int) : act p s i = 0 := by
  rw [show s = fun _ => 0 from funext h]
  exact act_zero p i
theorem act_comm : ∀ (p q : List Int) (s : Sq) (i : Int), act p (act q s) i = act q (act p s) i
  | [], q, s, i => by
    have e : act [] s = fun _ => 0 := rfl
    rw [e, act_zero]
    rfl
  | a :: p, q, s, i => by
    have e : act (a :: p) s = fun k => a * s k + act p s (k + 1) := rfl
    rw [e, act_add q (fun k => a * s k) (fun k => act p s (k + 1)), act_mul, act_shift, ← act_comm p q s (i + 1)]
    rfl
theorem act_append : ∀ (p q : List Int) (s : Sq) (i : Int), act (p ++ q) s i = act p s i + act q s (i + p.length)
  | [], q, s, i => by
    show act q s i = 0 + act q s (i + ((0 : Nat) : Int))
    rw [Int.zero_add, show i + ((0 : Nat) : Int) = i by omega]
  | a :: p, q, s, i => by
    rw [List.cons_append, act, act, act_append p q s, List.length_cons, show i + 1 + (p.length : Int) = i + ((p.length + 1 : Nat) : Int) by omega]
    omega
theorem act_zeros (s : Sq) : ∀ (k : Nat) (i : Int), act (List.replicate k 0) s i = 0
  | 0, _ => rfl
  | k + 1, i => by
    rw [List.replicate_succ, act, act_zeros s k, Int.zero_mul, Int.zero_add]
theorem act_set : ∀ (p : List Int) (m : Nat) (v : Int) (s : Sq) (i : Int), m < p.length → act (p.set m v) s i = act p s i + (v - p.getD m 0) * s (i + m)
  | [], _, _, _, _, h => absurd h (Nat.not_lt_zero _)
  | a :: p, 0, v, s, i, _ => by
    show v * s i + act p s (i + 1) = a * s i + act p s (i + 1) + (v - a) * s (i + ((0 : Nat) : Int))
    rw [show i + ((0 : Nat) : Int) = i by omega, Int.sub_mul]
    omega
  | a :: p, m + 1, v, s, i, h => by
    have ih := act_set p m v s (i + 1) (Nat.lt_of_succ_lt_succ h)
    show a * s i + act (p.set m v) s (i + 1) = a * s i + act p s (i + 1) + (v - p.getD m 0) * s (i + ((m + 1 : Nat) : Int))
    rw [ih, show i + 1 + (m : Int) = i + ((m + 1 : Nat) : Int) by omega]
    omega
/-! ### division -/
theorem subI_take {low : List Int} {f : Int} {s n : Nat} : ∀ (j : Nat) (l : List Int), s + j ≤ n → n ≤ l.length → (subI low f s j l).take n = subI low f s j (l.take n)
  | 0, _, _, _ => rfl
  | j + 1, l, h, hn => by
    rw [subI, subI, List.take_set, subI_take j l (by omega) hn]
    congr 2
    rw [← subI_take j l (by omega) hn, List.getD_eq_getElem?_getD, List.getD_eq_getElem?_getD, List.getElem?_take_of_lt (by omega)]
theorem act_subI {low : List Int} {f : Int} {k : Nat} (s : Sq) (i : Int) : ∀ (j : Nat) (l : List Int), j ≤ low.length → k + j ≤ l.length → act (subI low f k j l) s i = act l s i - f * act (low.take j) s (i + k)
  | 0, l, _, _ => by
    show act l s i = act l s i - f * 0
    rw [Int.mul_zero, Int.sub_zero]
  | j + 1, l, h, hl => by
    obtain ⟨c, hc⟩ : ∃ c, low[j]? = some c := ⟨_, List.getElem?_eq_getElem (by omega)⟩
    rw [subI, act_set _ _ _ _ _ (by rw [subI_len]; omega), act_subI s i j l (by omega) (by omega), List.take_add_one, hc, getD_at hc]
    show _ = act l s i - f * act (low.take j ++ [c]) s (i + k)
    rw [act_append, List.length_take, show min j low.length = j by omega]
    show _ = act l s i - f * (act (low.take j) s (i + k) + (c * s (i + k + j) + 0))
    rw [show i + (k : Int) + (j : Int) = i + ((k + j : Nat) : Int) by omega, Int.mul_add, Int.add_zero, ← Int.mul_assoc]
    have : ((subI low f k j l).getD (k + j) 0 - f * c - (subI low f k j l).getD (k + j) 0) * s (i + ((k + j : Nat) : Int)) = -(f * c * s (i + ((k + j : Nat) : Int))) := by
      rw [show (subI low f k j l).getD (k + j) 0 - f * c - (subI low f k j l).getD (k + j) 0 = -(f * c) by omega, Int.neg_mul]
    rw [this]
    omega
theorem divN_get (low : List Int) : ∀ (k : Nat) (l : List Int) (i : Nat), low.length - 1 + k ≤ i → (divN low k l)[i]? = l[i]?
  | 0, _, _, _ => rfl
  | k + 1, l, i, h => by
    rw [divN, divN_get low k _ i (by omega), subI_get low _ _ _ l i (by omega)]
/-- the highest coefficient is 1 -/
def Mon (low : List Int) : Prop := ∃ p, low = p ++ [1]
theorem Mon.len {low : List Int} (h : Mon low) : low.take (low.length - 1) ++ [1] = low := by
  obtain ⟨p, rfl⟩ := h
  rw [List.length_append]
  show (p ++ [1]).take (p.length + 1 - 1) ++ [1] = p ++ [1]
  rw [Nat.add_sub_cancel, List.take_left]
theorem act_divN {low : List Int} (hM : Mon low) (s : Sq) (i : Int) : ∀ (k : Nat) (l : List Int), low.length - 1 + k ≤ l.length →
    act (l.take (low.length - 1 + k)) s i = act ((divN low k l).take (low.length - 1)) s i + act (((divN low k l).drop (low.length - 1)).take k) (act low s) i
  | 0, l, _ => by
    show act (l.take (low.length - 1)) s i = act (l.take (low.length - 1)) s i + act ((l.drop (low.length - 1)).take 0) (act low s) i
    rw [List.take_zero]
    show _ = _ + 0
    rw [Int.add_zero]
  | k + 1, l, hl => by
    have hl1 : 1 ≤ low.length := by
      obtain ⟨p, rfl⟩ := hM
      rw [List.length_append]
      show 1 ≤ p.length + 1
      omega
    obtain ⟨f, hf⟩ : ∃ f, l[low.length - 1 + k]? = some f := ⟨_, List.getElem?_eq_getElem (by omega)⟩
    have hf' : l.getD (low.length - 1 + k) 0 = f := getD_at hf
    have ih := act_divN hM s i k (subI low f k (low.length - 1) l) (by rw [subI_len]; omega)
    have e1 : l.take (low.length - 1 + (k + 1)) = l.take (low.length - 1 + k) ++ [f] := by
      rw [← Nat.add_assoc, List.take_add_one, hf]
      rfl
    have hlt : (l.take (low.length - 1 + k)).length = low.length - 1 + k := by rw [List.length_take]; omega
    rw [subI_take (n := low.length - 1 + k) _ _ (by omega) (by omega), act_subI s i (low.length - 1) _ (by omega) (by omega)] at ih
    rw [divN, hf']
    have hg : (divN low k (subI low f k (low.length - 1) l))[low.length - 1 + k]? = some f := by
      rw [divN_get low k _ _ (Nat.le_refl _), subI_get low f k _ l _ (by omega)]
      exact hf
    have e2 : ((divN low k (subI low f k (low.length - 1) l)).drop (low.length - 1)).take (k + 1) = ((divN low k (subI low f k (low.length - 1) l)).drop (low.length - 1)).take k ++ [f] := by
      rw [List.take_add_one, List.getElem?_drop, hg]
      rfl
    have hlk : (((divN low k (subI low f k (low.length - 1) l)).drop (low.length - 1)).take k).length = k := by
      rw [List.length_take, List.length_drop, divN_len, subI_len]
      omega
    have em : act low s (i + k) = act (low.take (low.length - 1)) s (i + k) + s (i + k + (low.length - 1 : Nat)) := by
      have := act_append (low.take (low.length - 1)) [1] s (i + k)
      rw [hM.len, List.length_take, show min (low.length - 1) low.length = low.length - 1 by omega] at this
      rw [this]
      show _ + (1 * s _ + 0) = _
      rw [Int.one_mul, Int.add_zero]
    rw [e1, act_append, hlt, e2, act_append, hlk]
    show act (l.take (low.length - 1 + k)) s i + (f * s (i + ((low.length - 1 + k : Nat) : Int)) + 0) = _ + (_ + (f * act low s (i + k) + 0))
    rw [em, Int.mul_add, show i + ((low.length - 1 + k : Nat) : Int) = i + (k : Int) + ((low.length - 1 : Nat) : Int) by omega]
    omega
theorem act_div {low : List Int} (hM : Mon low) (l : List Int) (s : Sq) (i : Int) : act l s i = act (rst low l) s i + act (quo low l) (act low s) i := by
  by_cases c : low.length - 1 ≤ l.length
  · have := act_divN hM s i (l.length - (low.length - 1)) l (by omega)
    rw [List.take_of_length_le (by omega)] at this
    rw [this]
    unfold rst quo divL
    rw [List.take_of_length_le (i := l.length - (low.length - 1)) (by rw [List.length_drop, divN_len]; exact Nat.le_refl _)]
  · unfold rst quo divL
    rw [show l.length - (low.length - 1) = 0 by omega]
    show act l s i = act (l.take (low.length - 1)) s i + act (l.drop (low.length - 1)) (act low s) i
    rw [List.take_of_length_le (by omega), List.drop_of_length_le (by omega)]
    show _ = _ + 0
    rw [Int.add_zero]
theorem act_all0 {p : List Int} (h : (p.all fun x => decide (x = 0)) = true) (s : Sq) (i : Int) : act p s i = 0 := by
  have e : p = List.replicate p.length 0 := List.eq_replicate_iff.mpr ⟨rfl, fun b hb => of_decide_eq_true (List.all_eq_true.mp h b hb)⟩
  rw [e]
  exact act_zeros s _ i
theorem act_exact {low l : List Int} (hM : Mon low) (h : ((rst low l).all fun x => decide (x = 0)) = true) (s : Sq) (i : Int) : act l s i = act (quo low l) (act low s) i := by
  rw [act_div hM, act_all0 h, Int.zero_add]
end Sd

namespace Sd
open PySem PySem.Spec PyProof.Rows L2

/-! ### facts of C(1) to C(40) -/
theorem cyc_mon0 : ∀ p, p < 41 → 1 ≤ p → (cyc p).getLast? = some 1 := by decide +kernel
theorem cyc_mon {p : Nat} (h1 : 1 ≤ p) (h : p ≤ 40) : Mon (cyc p) := by
  have := cyc_mon0 p (by omega) h1
  obtain ⟨q, hq⟩ := List.getLast?_eq_some_iff.mp this
  exact ⟨q, hq⟩
def all0 (l : List Int) : Bool := l.all fun x => decide (x = 0)
theorem cyc_xn0 : ∀ p, p < 41 → 1 ≤ p → all0 (rst (cyc p) (xn1 p)) = true := by decide +kernel
def phi (g : Nat) : Nat → List Int
  | 0 => [1]
  | k + 1 => (1 :: List.replicate (g - 1) 0) ++ phi g k
theorem cyc_phi0 : ∀ d, d < 41 → ∀ g, g < d → 1 ≤ g → d % g = 0 → all0 (rst (cyc d) (phi g (d / g - 1))) = true := by decide +kernel
def chain : List Nat → List Int → Bool
  | [], a => decide (a = [1])
  | d :: ds, a => all0 (rst (cyc d) a) && chain ds (quo (cyc d) a)
theorem chain0 : ∀ n, n < 41 → 1 ≤ n → chain (divs n n) (xn1 n) = true := by decide +kernel
end Sd

namespace Sd
open PySem PySem.Spec PyProof.Rows L2

/-! ### many act one behind the other -/
def acts : List Nat → Sq → Sq
  | [], s => s
  | d :: ds, s => acts ds (act (cyc d) s)
theorem acts_congr {s t : Sq} (h : ∀ i, s i = t i) (ds : List Nat) (i : Int) : acts ds s i = acts ds t i := by rw [show s = t from funext h]
theorem acts_act : ∀ (ds : List Nat) (p : List Int) (s : Sq) (i : Int), acts ds (act p s) i = act p (acts ds s) i
  | [], _, _, _ => rfl
  | d :: ds, p, s, i => by
    rw [acts, acts, acts_congr (t := act p (act (cyc d) s)) (fun k => act_comm (cyc d) p s k), acts_act ds p]
theorem acts_null {s : Sq} (h : ∀ i, s i = 0) : ∀ (ds : List Nat) (i : Int), acts ds s i = 0
  | [], i => h i
  | d :: ds, i => acts_null (s := act (cyc d) s) (act_null h) ds i
theorem acts_filter (p : Nat → Bool) : ∀ (ds : List Nat) (s : Sq) (i : Int), acts ds s i = acts (ds.filter p) (acts (ds.filter fun d => !p d) s) i
  | [], _, _ => rfl
  | d :: ds, s, i => by
    rw [acts, acts_filter p ds, List.filter_cons, List.filter_cons]
    cases h : p d with
    | true =>
      rw [if_pos rfl, if_neg (by decide), acts]
      exact acts_congr (fun k => acts_act _ _ _ _) _ _
    | false =>
      rw [if_neg (by decide), if_pos (by decide), acts]
theorem xn1_act {n : Nat} (h : 1 ≤ n) (s : Sq) (i : Int) : act (xn1 n) s i = s (i + n) - s i := by
  unfold xn1
  rw [act_append, act_append, act_zeros, List.length_append, List.length_replicate]
  show -1 * s i + 0 + 0 + (1 * s (i + ((1 + (n - 1) : Nat) : Int)) + 0) = _
  rw [show ((1 + (n - 1) : Nat) : Int) = (n : Int) by omega, Int.one_mul]
  omega
theorem chain_act : ∀ {ds : List Nat} {a : List Int}, (∀ d ∈ ds, 1 ≤ d ∧ d ≤ 40) → chain ds a = true → ∀ (s : Sq) (i : Int), act a s i = acts ds s i
  | [], a, _, h, s, i => by
    have e : a = [1] := of_decide_eq_true h
    rw [e]
    show 1 * s i + 0 = s i
    omega
  | d :: ds, a, hd, h, s, i => by
    have h' := (Bool.and_eq_true _ _).mp h
    have h1 := hd d List.mem_cons_self
    rw [act_exact (cyc_mon h1.1 h1.2) h'.1, chain_act (fun x hx => hd x (List.mem_cons_of_mem _ hx)) h'.2]
    rfl
theorem all_act {n : Nat} (h1 : 1 ≤ n) (h : n ≤ 40) (s : Sq) (i : Int) : acts (divs n n) s i = s (i + n) - s i := by
  rw [← chain_act (a := xn1 n) (fun d hd => by have := divs_mem.mp hd; omega) (chain0 n (by omega) h1), xn1_act h1]
/-! ### what two different ones both kill is 0 -/
def PerS (w : Sq) (d : Nat) : Prop := ∀ i, w (i + d) = w i
theorem PerS.mul {w : Sq} {d : Nat} (h : PerS w d) : ∀ (k : Nat) (i : Int), w (i + ((k * d : Nat) : Int)) = w i
  | 0, i => by rw [Nat.zero_mul, show i + ((0 : Nat) : Int) = i by omega]
  | k + 1, i => by
    rw [Nat.succ_mul, show i + ((k * d + d : Nat) : Int) = i + ((k * d : Nat) : Int) + (d : Int) by omega, h, h.mul k]
theorem PerS.mod {w : Sq} {d e : Nat} (hd : PerS w d) (he : PerS w e) : PerS w (e % d) := fun i => by
  have h1 := hd.mul (e / d) (i + ((e % d : Nat) : Int))
  have h2 : i + ((e % d : Nat) : Int) + ((e / d * d : Nat) : Int) = i + (e : Int) := by
    have := Nat.mod_add_div e d
    rw [Nat.mul_comm] at this
    omega
  rw [h2, he] at h1
  exact h1.symm
theorem PerS.gcd {w : Sq} (d e : Nat) : PerS w d → PerS w e → PerS w (Nat.gcd d e) := by
  induction d, e using Nat.gcd.induction with
  | H0 e => intro _ he; rw [Nat.gcd_zero_left]; exact he
  | H1 d e _ ih => intro hd he; rw [Nat.gcd_rec]; exact ih (hd.mod he) hd
theorem phi_act {w : Sq} {g : Nat} (h1 : 1 ≤ g) (h : PerS w g) : ∀ (k : Nat) (i : Int), act (phi g k) w i = ((k : Int) + 1) * w i
  | 0, i => by
    show 1 * w i + 0 = ((0 : Nat) + 1 : Int) * w i
    rw [show (((0 : Nat) : Int) + 1) = 1 by omega, Int.add_zero]
  | k + 1, i => by
    rw [phi, act_append, List.length_cons, List.length_replicate, phi_act h1 h k]
    rw [show i + ((g - 1 + 1 : Nat) : Int) = i + (g : Int) by omega, h i]
    show 1 * w i + act (List.replicate (g - 1) 0) w (i + 1) + ((k : Int) + 1) * w i = (((k + 1 : Nat) : Int) + 1) * w i
    rw [act_zeros, show (((k + 1 : Nat) : Int) + 1) = 1 + ((k : Int) + 1) by omega, Int.add_mul 1]
    omega
theorem cyc_per {w : Sq} {d : Nat} (h1 : 1 ≤ d) (h : d ≤ 40) (hw : ∀ i, act (cyc d) w i = 0) : PerS w d := fun i => by
  have e := act_exact (cyc_mon h1 h) (cyc_xn0 d (by omega) h1) w i
  rw [act_null hw, xn1_act h1] at e
  omega
theorem cyc_low {w : Sq} {d g : Nat} (h : d ≤ 40) (hg : g < d) (hg1 : 1 ≤ g) (hz : d % g = 0) (hw : ∀ i, act (cyc d) w i = 0) (hp : PerS w g) (i : Int) : w i = 0 := by
  have e := act_exact (cyc_mon (by omega) h) (cyc_phi0 d (by omega) g hg hg1 hz) w i
  rw [act_null hw, phi_act hg1 hp] at e
  have : 0 < d / g := Nat.div_pos (by omega) hg1
  rcases Int.mul_eq_zero.mp e with z | z
  · omega
  · exact z
theorem two_kill {w : Sq} {d e : Nat} (d1 : 1 ≤ d) (d40 : d ≤ 40) (e1 : 1 ≤ e) (e40 : e ≤ 40) (ne : d ≠ e) (hd : ∀ i, act (cyc d) w i = 0) (he : ∀ i, act (cyc e) w i = 0) (i : Int) : w i = 0 := by
  have hg := PerS.gcd d e (cyc_per d1 d40 hd) (cyc_per e1 e40 he)
  have g1 : 1 ≤ Nat.gcd d e := Nat.gcd_pos_of_pos_left e d1
  have gd := Nat.gcd_dvd_left d e
  have ge := Nat.gcd_dvd_right d e
  by_cases c : Nat.gcd d e < d
  · exact cyc_low d40 c g1 (Nat.mod_eq_zero_of_dvd gd) hd hg i
  · have hd' : Nat.gcd d e = d := Nat.le_antisymm (Nat.le_of_dvd d1 gd) (by omega)
    rw [hd'] at ge hg
    have : d ≤ e := Nat.le_of_dvd e1 ge
    exact cyc_low e40 (by omega) d1 (Nat.mod_eq_zero_of_dvd ge) he hg i
theorem peel {d : Nat} (d1 : 1 ≤ d) (d40 : d ≤ 40) : ∀ {T : List Nat} {w : Sq}, (∀ e ∈ T, e ≠ d ∧ 1 ≤ e ∧ e ≤ 40) → (∀ i, act (cyc d) w i = 0) → (∀ i, acts T w i = 0) → ∀ i, w i = 0
  | [], _, _, _, h, i => h i
  | e :: T, w, ht, hd, h, i => by
    obtain ⟨h1, h2, h3⟩ := ht e List.mem_cons_self
    have hw1 : ∀ k, act (cyc e) w k = 0 := peel d1 d40 (T := T) (w := act (cyc e) w) (fun x hx => ht x (List.mem_cons_of_mem _ hx)) (fun k => by rw [act_comm, act_null hd]) h
    exact two_kill d1 d40 h2 h3 (fun z => h1 z.symm) hd hw1 i
theorem divs_one {n : Nat} : ∀ {k d : Nat}, d ∈ divs n k → (divs n k).filter (fun e => decide (e = d)) = [d]
  | 0, d, h => by
    rw [divs] at h
    exact (List.not_mem_nil h).elim
  | k + 1, d, h => by
    rw [divs] at h ⊢
    by_cases c : n % (k + 1) = 0
    · rw [if_pos c] at h ⊢
      rw [List.filter_append]
      by_cases z : d = k + 1
      · subst z
        have e1 : (divs n k).filter (fun e => decide (e = k + 1)) = [] := List.filter_eq_nil_iff.mpr fun a ha => by
          have := (divs_mem.mp ha).2.1
          intro y
          have := of_decide_eq_true y
          omega
        rw [e1, List.filter_cons, if_pos (decide_eq_true rfl), List.filter_nil, List.nil_append]
      · have hm : d ∈ divs n k := by
          rcases List.mem_append.mp h with y | y
          · exact y
          · exact absurd (List.mem_singleton.mp y) z
        rw [divs_one hm, List.filter_cons, if_neg (by intro y; exact z (of_decide_eq_true y).symm), List.filter_nil, List.append_nil]
    · rw [if_neg c] at h ⊢
      exact divs_one h
/-- each of some kills what the others leave: the rest kill it -/
theorem kill {n : Nat} (n1 : 1 ≤ n) (n40 : n ≤ 40) {u : Sq} (hp : PerS u n) : ∀ (T : List Nat), (∀ d ∈ T, d ∈ divs n n ∧ ∀ i, acts ((divs n n).filter fun e => decide (e ≠ d)) u i = 0) → ∀ i, acts ((divs n n).filter fun e => decide (e ∉ T)) u i = 0
  | [], _, i => by
    have e : (divs n n).filter (fun e => decide (e ∉ ([] : List Nat))) = divs n n := List.filter_eq_self.mpr fun a _ => decide_eq_true (List.not_mem_nil)
    rw [e, all_act n1 n40, hp]
    omega
  | d :: T, h, i => by
    have hT := kill n1 n40 hp T fun x hx => h x (List.mem_cons_of_mem _ hx)
    obtain ⟨hd, hk⟩ := h d List.mem_cons_self
    have hd40 := divs_mem.mp hd
    by_cases c : d ∈ T
    · have e : (divs n n).filter (fun e => decide (e ∉ d :: T)) = (divs n n).filter (fun e => decide (e ∉ T)) := List.filter_congr fun a _ => decide_eq_decide.mpr ⟨fun y z => y (List.mem_cons_of_mem _ z), fun y z => by
        rcases List.mem_cons.mp z with w | w
        · subst w; exact y c
        · exact y w⟩
      rw [e]
      exact hT i
    · refine peel (d := d) hd40.1 (by omega) (T := (divs n n).filter fun e => decide (e ∈ T)) (w := acts ((divs n n).filter fun e => decide (e ∉ d :: T)) u) (fun e he => ?_) (fun k => ?_) (fun k => ?_) i
      · have h1 := List.mem_filter.mp he
        have h2 := of_decide_eq_true h1.2
        have h3 := divs_mem.mp h1.1
        exact ⟨fun z => c (by rw [← z]; exact h2), h3.1, by omega⟩
      · have h1 := acts_filter (fun e => decide (e ≠ d)) ((divs n n).filter fun e => decide (e ∉ T)) u k
        rw [hT k, List.filter_filter, List.filter_filter] at h1
        have e1 : (divs n n).filter (fun a => decide (a ≠ d) && decide (a ∉ T)) = (divs n n).filter fun e => decide (e ∉ d :: T) := List.filter_congr fun a _ => by
          rw [← Bool.decide_and]
          exact decide_eq_decide.mpr ⟨fun y z => by rcases List.mem_cons.mp z with w | w; exact y.1 w; exact y.2 w, fun y => ⟨fun z => y (by rw [z]; exact List.mem_cons_self), fun z => y (List.mem_cons_of_mem _ z)⟩⟩
        have e2 : (divs n n).filter (fun a => (!decide (a ≠ d)) && decide (a ∉ T)) = [d] := by
          rw [← divs_one hd]
          refine List.filter_congr fun a _ => ?_
          by_cases y : a = d
          · subst y
            rw [decide_eq_false (fun z => z rfl), decide_eq_true c, decide_eq_true rfl]
            rfl
          · rw [decide_eq_true y, decide_eq_false y]
            rfl
        rw [e1, e2] at h1
        have h2 : acts ((divs n n).filter fun e => decide (e ∉ d :: T)) (acts [d] u) k = act (cyc d) (acts ((divs n n).filter fun e => decide (e ∉ d :: T)) u) k := acts_act _ _ _ _
        rw [← h2]
        exact h1.symm
      · have h1 := acts_filter (fun e => decide (e ∈ T)) ((divs n n).filter fun e => decide (e ≠ d)) u k
        rw [hk k, List.filter_filter, List.filter_filter] at h1
        have e1 : (divs n n).filter (fun a => decide (a ∈ T) && decide (a ≠ d)) = (divs n n).filter fun e => decide (e ∈ T) := List.filter_congr fun a _ => by
          rw [← Bool.decide_and]
          exact decide_eq_decide.mpr ⟨fun y => y.1, fun y => ⟨y, fun z => c (by rw [← z]; exact y)⟩⟩
        have e2 : (divs n n).filter (fun a => (!decide (a ∈ T)) && decide (a ≠ d)) = (divs n n).filter fun e => decide (e ∉ d :: T) := List.filter_congr fun a _ => by
          rw [← decide_not, ← Bool.decide_and]
          exact decide_eq_decide.mpr ⟨fun y z => by rcases List.mem_cons.mp z with w | w; exact y.2 w; exact y.1 w, fun y => ⟨fun z => y (List.mem_cons_of_mem _ z), fun z => y (by rw [z]; exact List.mem_cons_self)⟩⟩
        rw [e1, e2] at h1
        exact h1.symm
/-! ### the disc as a sequence -/
def dlt (n : Nat) : Sq := fun i => if i % (n : Int) = 0 then 1 else 0
theorem dlt_per {n : Nat} : PerS (dlt n) n := fun i => by
  unfold dlt
  rw [Int.add_emod_right]
theorem act_dlt {n : Nat} (h1 : 1 ≤ n) : ∀ (p : List Int), p.length ≤ n → ∀ i : Int, act p (dlt n) i = p.getD (((-i) % (n : Int)).toNat) 0
  | [], _, i => by
    rw [List.getD_eq_getElem?_getD, List.getElem?_nil]
    rfl
  | a :: p, h, i => by
    rw [List.length_cons] at h
    rw [act, act_dlt h1 p (by omega)]
    have hm := mod_in (i := -i) (show 0 < n by omega)
    have hm2 := mod_in (i := -(i + 1)) (show 0 < n by omega)
    by_cases c : i % (n : Int) = 0
    · have e0 : (-i) % (n : Int) = 0 := Int.emod_eq_zero_of_dvd (Int.dvd_neg.mpr (Int.dvd_of_emod_eq_zero c))
      have e1 : (-(i + 1)) % (n : Int) = n - 1 := by
        have : (-(i + 1)) % (n : Int) = (((-i) % (n : Int)) + ((n : Int) - 1)) % (n : Int) := by
          rw [Int.emod_add_emod, show -i + ((n : Int) - 1) = -(i + 1) + (n : Int) by omega, Int.add_emod_right]
        rw [this, e0, Int.zero_add, Int.emod_eq_of_lt (by omega) (by omega)]
      rw [e0, e1]
      show a * dlt n i + p.getD ((n : Int) - 1).toNat 0 = a
      have e2 : p.getD ((n : Int) - 1).toNat 0 = 0 := by
        rw [List.getD_eq_getElem?_getD, List.getElem?_eq_none (by omega)]
        rfl
      rw [e2]
      unfold dlt
      rw [if_pos c]
      omega
    · have hpos : 0 < (-i) % (n : Int) := by
        rcases Int.lt_or_eq_of_le hm.1 with y | y
        · exact y
        · exact absurd (Int.emod_eq_zero_of_dvd (Int.dvd_neg.mp (Int.dvd_of_emod_eq_zero y.symm))) c
      have e1 : (-(i + 1)) % (n : Int) = (-i) % (n : Int) - 1 := by
        have : (-(i + 1)) % (n : Int) = (((-i) % (n : Int)) - 1) % (n : Int) := by
          rw [Int.emod_sub_emod, show -i - 1 = -(i + 1) by omega]
        rw [this, Int.emod_eq_of_lt (by omega) (by omega)]
      rw [e1]
      have e3 : ((-i) % (n : Int)).toNat = ((-i) % (n : Int) - 1).toNat + 1 := by omega
      rw [e3, List.getD_cons_succ]
      unfold dlt
      rw [if_neg c, Int.mul_zero, Int.zero_add]
/-- all that are not blind kill a disc, counted backwards -/
theorem blind_kill {ns : List Int} (l1 : 1 ≤ ns.length) (l40 : ns.length ≤ 40) (i : Int) : acts ((divs ns.length ns.length).filter fun e => decide (e ∉ blindL ns)) (act ns (dlt ns.length)) i = 0 := by
  refine kill l1 l40 (fun k => ?_) (blindL ns) (fun d hd => ⟨(List.mem_filter.mp hd).1, fun k => ?_⟩) i
  · have := act_shift ns (dlt ns.length) ns.length k
    rw [← this]
    exact act_congr fun j _ => dlt_per _
  · have hm := blind_mem hd
    have hb : blB ns d = true := (List.mem_filter.mp hd).2
    have e1 : act ns (dlt ns.length) = act (quo (cyc d) ns) (act (cyc d) (dlt ns.length)) := funext fun m => act_exact (cyc_mon hm.1 (by omega)) hb _ m
    rw [e1, acts_act]
    refine act_null (fun m => ?_) k
    have h1 := acts_filter (fun e => decide (e ≠ d)) (divs ns.length ns.length) (dlt ns.length) m
    have e2 : (divs ns.length ns.length).filter (fun a => !decide (a ≠ d)) = [d] := by
      rw [← divs_one (List.mem_filter.mp hd).1]
      refine List.filter_congr fun a _ => ?_
      by_cases y : a = d
      · rw [decide_eq_true y, decide_eq_false (fun z => z y)]
        rfl
      · rw [decide_eq_false y, decide_eq_true y]
        rfl
    rw [all_act l1 l40, dlt_per, e2] at h1
    have h2 : acts ((divs ns.length ns.length).filter fun e => decide (e ≠ d)) (acts [d] (dlt ns.length)) m = acts ((divs ns.length ns.length).filter fun e => decide (e ≠ d)) (act (cyc d) (dlt ns.length)) m := rfl
    rw [← h2, ← h1]
    omega
/-! ### products -/
/-- f times q added to l at s, s + 1 .. -/
def addI (q : List Int) (f : Int) (s : Nat) : Nat → List Int → List Int
  | 0, l => l
  | j + 1, l => (addI q f s j l).set (s + j) ((addI q f s j l).getD (s + j) 0 + f * q.getD j 0)
def mulN (p q : List Int) : Nat → List Int
  | 0 => List.replicate (p.length + q.length - 1) 0
  | i + 1 => addI q (p.getD i 0) i q.length (mulN p q i)
def mulL (p q : List Int) : List Int := mulN p q p.length
theorem addI_len (q : List Int) (f : Int) (s : Nat) : ∀ (j : Nat) (l : List Int), (addI q f s j l).length = l.length
  | 0, _ => rfl
  | j + 1, l => by
    rw [addI, List.length_set, addI_len q f s j l]
theorem mulN_len (p q : List Int) : ∀ i, (mulN p q i).length = p.length + q.length - 1
  | 0 => List.length_replicate
  | i + 1 => by rw [mulN, addI_len, mulN_len p q i]
theorem act_addI {q : List Int} {f : Int} {k : Nat} (s : Sq) (i : Int) : ∀ (j : Nat) (l : List Int), j ≤ q.length → k + j ≤ l.length → act (addI q f k j l) s i = act l s i + f * act (q.take j) s (i + k)
  | 0, l, _, _ => by
    show act l s i = act l s i + f * 0
    rw [Int.mul_zero, Int.add_zero]
  | j + 1, l, h, hl => by
    obtain ⟨c, hc⟩ : ∃ c, q[j]? = some c := ⟨_, List.getElem?_eq_getElem (by omega)⟩
    rw [addI, act_set _ _ _ _ _ (by rw [addI_len]; omega), act_addI s i j l (by omega) (by omega), List.take_add_one, hc, getD_at hc]
    show _ = act l s i + f * act (q.take j ++ [c]) s (i + k)
    rw [act_append, List.length_take, show min j q.length = j by omega]
    show _ = act l s i + f * (act (q.take j) s (i + k) + (c * s (i + k + j) + 0))
    rw [show i + (k : Int) + (j : Int) = i + ((k + j : Nat) : Int) by omega, Int.mul_add, Int.add_zero, ← Int.mul_assoc]
    rw [show (addI q f k j l).getD (k + j) 0 + f * c - (addI q f k j l).getD (k + j) 0 = f * c by omega]
    omega
theorem act_mulN (p q : List Int) (hq : 1 ≤ q.length) (s : Sq) (i : Int) : ∀ k, k ≤ p.length → act (mulN p q k) s i = act (p.take k) (act q s) i
  | 0, _ => by
    rw [mulN, act_zeros]
    rfl
  | k + 1, h => by
    obtain ⟨c, hc⟩ : ∃ c, p[k]? = some c := ⟨_, List.getElem?_eq_getElem (by omega)⟩
    rw [mulN, act_addI s i q.length _ (Nat.le_refl _) (by rw [mulN_len]; omega), act_mulN p q hq s i k (by omega), List.take_add_one, hc, getD_at hc, List.take_of_length_le (Nat.le_refl _)]
    show _ = act (p.take k ++ [c]) (act q s) i
    rw [act_append, List.length_take, show min k p.length = k by omega]
    show _ = _ + (c * act q s (i + k) + 0)
    omega
theorem act_mulL (p q : List Int) (hq : 1 ≤ q.length) (s : Sq) (i : Int) : act (mulL p q) s i = act p (act q s) i := by
  unfold mulL
  rw [act_mulN p q hq s i p.length (Nat.le_refl _), List.take_of_length_le (Nat.le_refl _)]
/-- the product of C(d), one behind the other -/
def prodL (ds : List Nat) : List Int := ds.foldl (fun a d => mulL a (cyc d)) [1]
theorem prodL_snoc (ds : List Nat) (d : Nat) : prodL (ds ++ [d]) = mulL (prodL ds) (cyc d) := by
  unfold prodL
  rw [List.foldl_append]
  rfl
theorem fold_act : ∀ (ds : List Nat) (a : List Int), (∀ d ∈ ds, 1 ≤ d ∧ d ≤ 40) → ∀ (s : Sq) (i : Int), act (ds.foldl (fun a d => mulL a (cyc d)) a) s i = act a (acts ds s) i
  | [], _, _, _, _ => rfl
  | d :: ds, a, h, s, i => by
    have h1 := h d List.mem_cons_self
    have hl := (cyc_len h1.1 h1.2).1
    rw [List.foldl_cons, fold_act ds _ (fun x hx => h x (List.mem_cons_of_mem _ hx)), act_mulL _ _ (by omega)]
    refine act_congr fun j _ => ?_
    exact (acts_act ds (cyc d) s _).symm
theorem prodL_act {ds : List Nat} (h : ∀ d ∈ ds, 1 ≤ d ∧ d ≤ 40) (s : Sq) (i : Int) : act (prodL ds) s i = acts ds s i := by
  unfold prodL
  rw [fold_act ds [1] h]
  show 1 * acts ds s i + 0 = _
  omega
end Sd

namespace Sd
open PySem PySem.Spec PyProof.Rows L2

/-! ### bounds of products and rests -/
/-- small enough to be a factor of any number -/
def Sml (l : List Int) : Prop := ∀ x ∈ l, x.natAbs < 2 ^ 62
theorem Unt.sml {l : List Int} (h : Unt l) : Sml l := fun x hx => by
  have := h x hx
  exact Nat.lt_of_lt_of_le (m := 2) (by omega) (by decide)
def Bd (B : Nat) (l : List Int) : Prop := ∀ x ∈ l, x.natAbs ≤ B
theorem addI_get (q : List Int) (f : Int) (s : Nat) : ∀ (j : Nat) (l : List Int) (i : Nat), s + j ≤ i → (addI q f s j l)[i]? = l[i]?
  | 0, _, _, _ => rfl
  | j + 1, l, i, h => by
    rw [addI, List.getElem?_set_ne (by omega)]
    exact addI_get q f s j l i (by omega)
theorem addI_bd {A B : Nat} {q : List Int} {f : Int} {s : Nat} (hU : Unt q) (hf : f.natAbs ≤ B) : ∀ (j : Nat) {l : List Int}, Bd A l → Bd (A + B) (addI q f s j l)
  | 0, l, h => fun x hx => Nat.le_trans (h x hx) (Nat.le_add_right _ _)
  | j + 1, l, h => fun n hn => by
    rw [addI] at hn
    rcases List.mem_or_eq_of_mem_set hn with z | z
    · exact addI_bd hU hf j h n z
    · have h1 : ((addI q f s j l).getD (s + j) 0).natAbs ≤ A := by
        rw [List.getD_eq_getElem?_getD, addI_get q f s j l (s + j) (Nat.le_refl _)]
        cases e : l[s + j]? with
        | none => exact Nat.zero_le _
        | some x => exact h x (List.mem_of_getElem? e)
      have h2 : (f * q.getD j 0).natAbs ≤ B := by
        rw [List.getD_eq_getElem?_getD]
        cases e : q[j]? with
        | none =>
          show (f * 0).natAbs ≤ B
          rw [Int.mul_zero]
          exact Nat.zero_le _
        | some x =>
          have hx := hU x (List.mem_of_getElem? e)
          have : x = -1 ∨ x = 0 ∨ x = 1 := by omega
          show (f * x).natAbs ≤ B
          rcases this with rfl | rfl | rfl <;> omega
      omega
theorem mulN_bd {B : Nat} {p q : List Int} (hU : Unt q) (hp : Bd B p) : ∀ i, Bd (i * B) (mulN p q i)
  | 0 => fun x hx => by
    rw [mulN] at hx
    rw [(List.mem_replicate.mp hx).2]
    exact Nat.zero_le _
  | i + 1 => by
    rw [mulN, Nat.succ_mul]
    refine addI_bd hU ?_ _ (mulN_bd hU hp i)
    rw [List.getD_eq_getElem?_getD]
    cases e : p[i]? with
    | none => exact Nat.zero_le _
    | some x => exact hp x (List.mem_of_getElem? e)
theorem fold_bd : ∀ (ds : List Nat) (a : List Int) (B : Nat), (∀ d ∈ ds, 1 ≤ d ∧ d ≤ 40) → 1 ≤ a.length → a.length + degS ds ≤ 41 → Bd B a → Bd (B * 41 ^ ds.length) (ds.foldl (fun a d => mulL a (cyc d)) a) ∧ (ds.foldl (fun a d => mulL a (cyc d)) a).length = a.length + degS ds
  | [], a, B, _, _, _, h => ⟨by rw [List.length_nil, Nat.pow_zero, Nat.mul_one]; exact h, rfl⟩
  | d :: ds, a, B, hd, ha, hl, h => by
    have h1 := hd d List.mem_cons_self
    have hc := cyc_len h1.1 h1.2
    unfold degS at hl
    rw [List.map_cons, List.sum_cons] at hl
    have hm : (mulL a (cyc d)).length = a.length + ((cyc d).length - 1) := by
      unfold mulL
      rw [mulN_len]
      omega
    have hb : Bd (B * 41) (mulL a (cyc d)) := fun x hx => by
      have := mulN_bd (cyc_unt h1.1 h1.2) h a.length x hx
      exact Nat.le_trans this (by rw [Nat.mul_comm]; exact Nat.mul_le_mul_left _ (by omega))
    obtain ⟨i1, i2⟩ := fold_bd ds (mulL a (cyc d)) (B * 41) (fun x hx => hd x (List.mem_cons_of_mem _ hx)) (by omega) (by rw [hm]; unfold degS; omega) hb
    rw [List.foldl_cons]
    refine ⟨?_, ?_⟩
    · rw [List.length_cons, Nat.pow_succ, Nat.mul_comm (41 ^ ds.length), ← Nat.mul_assoc]
      exact i1
    · rw [i2, hm]
      unfold degS
      rw [List.map_cons, List.sum_cons]
      omega
/-- those that are not blind -/
def seenL (ns : List Int) : List Nat := (divs ns.length ns.length).filter fun e => decide (e ∉ blindL ns)
theorem seen_mem {ns : List Int} {d : Nat} (h : d ∈ seenL ns) : 1 ≤ d ∧ d ≤ ns.length ∧ ns.length % d = 0 := divs_mem.mp (List.mem_filter.mp h).1
theorem seen_deg {ns : List Int} (l1 : 1 ≤ ns.length) (l40 : ns.length ≤ 40) : degS (seenL ns) ≤ ns.length := by
  have := degS_filter (fun e => decide (e ∉ blindL ns)) (divs ns.length ns.length)
  rw [deg_all ns.length (by omega) l1] at this
  exact this
def seenP (ns : List Int) : List Int := prodL (seenL ns)
theorem seenP_len {ns : List Int} (l1 : 1 ≤ ns.length) (l40 : ns.length ≤ 40) : (seenP ns).length = 1 + degS (seenL ns) := by
  have h := seen_deg l1 l40
  exact (fold_bd (seenL ns) [1] 1 (fun d hd => by have := seen_mem hd; omega) (Nat.le_refl _) (by show 1 + _ ≤ 41; omega) (fun x hx => by rw [List.mem_singleton.mp hx]; decide)).2
theorem seenP_sml {ns : List Int} (l1 : 1 ≤ ns.length) (l40 : ns.length ≤ 40) : Sml (seenP ns) := fun x hx => by
  have h := seen_deg l1 l40
  have h1 := (fold_bd (seenL ns) [1] 1 (fun d hd => by have := seen_mem hd; omega) (Nat.le_refl _) (by show 1 + _ ≤ 41; omega) (fun x hx => by rw [List.mem_singleton.mp hx]; decide)).1 x hx
  have h2 : (seenL ns).length ≤ 9 := Nat.le_trans (List.length_filter_le _ _) (divs_few _ (by omega))
  have h3 : 1 * 41 ^ (seenL ns).length ≤ 41 ^ 9 := by rw [Nat.one_mul]; exact Nat.pow_le_pow_right (by decide) h2
  exact Nat.lt_of_le_of_lt (Nat.le_trans h1 h3) (by decide)
theorem fold_mon : ∀ (ds : List Nat) (a : List Int), (∀ d ∈ ds, 1 ≤ d ∧ d ≤ 40) → 1 ≤ a.length → Mon a → Mon (ds.foldl (fun a d => mulL a (cyc d)) a)
  | [], a, _, _, h => h
  | d :: ds, a, hd, ha, h => by
    have h1 := hd d List.mem_cons_self
    have hc := cyc_len h1.1 h1.2
    rw [List.foldl_cons]
    have hm : (mulL a (cyc d)).length = a.length + ((cyc d).length - 1) := by
      unfold mulL
      rw [mulN_len]
      omega
    refine fold_mon ds _ (fun x hx => hd x (List.mem_cons_of_mem _ hx)) (by omega) ?_
    -- the last number of a product
    obtain ⟨p, hp⟩ := h
    obtain ⟨q, hq⟩ := cyc_mon h1.1 h1.2
    have hl : (mulL a (cyc d))[a.length + (cyc d).length - 2]? = some 1 := by
      have hap : a.length = p.length + 1 := by rw [hp, List.length_append]; rfl
      have hcq : (cyc d).length = q.length + 1 := by rw [hq, List.length_append]; rfl
      unfold mulL
      rw [hap, mulN]
      have ea : a.getD p.length 0 = 1 := by
        rw [hp, List.getD_eq_getElem?_getD, List.getElem?_append_right (Nat.le_refl _), Nat.sub_self]
        rfl
      rw [ea, hcq, addI]
      have hidx : p.length + 1 + (q.length + 1) - 2 = p.length + q.length := by omega
      rw [hidx]
      have ec : (cyc d).getD q.length 0 = 1 := by
        rw [hq, List.getD_eq_getElem?_getD, List.getElem?_append_right (Nat.le_refl _), Nat.sub_self]
        rfl
      have e0 : (addI (cyc d) 1 p.length q.length (mulN a (cyc d) p.length)).getD (p.length + q.length) 0 = 0 := by
        rw [List.getD_eq_getElem?_getD, addI_get _ _ _ _ _ _ (Nat.le_refl _), mulN_top (a := a) (c := cyc d) (i := p.length) (k := p.length + q.length) (by omega) (by omega) (by omega)]
        rfl
      rw [List.getElem?_set_self (by rw [addI_len, mulN_len]; omega), e0, ec]
      rfl
    refine ⟨(mulL a (cyc d)).take (a.length + (cyc d).length - 2), ?_⟩
    have h2 : (mulL a (cyc d)).take (a.length + (cyc d).length - 2 + 1) = (mulL a (cyc d)).take (a.length + (cyc d).length - 2) ++ [1] := by
      rw [List.take_add_one, hl]
      rfl
    rw [← h2, List.take_of_length_le (by rw [hm]; omega)]
where
  mulN_top {a c : List Int} (hc : 1 ≤ c.length) : ∀ {i k : Nat}, i + c.length - 1 ≤ k → k < a.length + c.length - 1 → (mulN a c i)[k]? = some 0
    | 0, k, _, hk => by
      rw [mulN, List.getElem?_replicate, if_pos hk]
    | i + 1, k, h, hk => by
      rw [mulN, addI_get _ _ _ _ _ _ (by omega)]
      exact mulN_top hc (by omega) hk

/-! ### the rests, the rows -/
theorem subI_abS {b : Nat} {low : List Int} {f : Int} {s : Nat} (hU : Sml low) (hf : f.natAbs < 2 ^ b) : ∀ (j : Nat) {l : List Int}, Ab b l → Ab (b + 63) (subI low f s j l)
  | 0, l, h => h.mono (Nat.le_add_right _ _)
  | j + 1, l, h => fun n hn => by
    rw [subI] at hn
    rcases List.mem_or_eq_of_mem_set hn with z | z
    · exact subI_abS hU hf j h n z
    · have hp : 0 < 2 ^ b := Nat.two_pow_pos b
      have h1 : ((subI low f s j l).getD (s + j) 0).natAbs < 2 ^ b := by
        rw [List.getD_eq_getElem?_getD, subI_get low f s j l (s + j) (Nat.le_refl _)]
        cases e : l[s + j]? with
        | none => exact hp
        | some x => exact h x (List.mem_of_getElem? e)
      have h2 : (f * low.getD j 0).natAbs < 2 ^ (b + 62) := by
        rw [List.getD_eq_getElem?_getD]
        cases e : low[j]? with
        | none =>
          show (f * 0).natAbs < _
          rw [Int.mul_zero]
          exact Nat.two_pow_pos _
        | some x => exact wide_lt hf (hU x (List.mem_of_getElem? e))
      have h3 : (2 : Nat) ^ b ≤ 2 ^ (b + 62) := pow_up (by omega)
      rw [show b + 63 = (b + 62) + 1 by omega, Nat.pow_succ]
      omega
theorem divN_abS {low : List Int} (hU : Sml low) : ∀ (k b : Nat) {l : List Int}, Ab b l → Ab (b + 63 * k) (divN low k l)
  | 0, _, _, h => h
  | k + 1, b, l, h => by
    rw [divN]
    have hf : (l.getD (low.length - 1 + k) 0).natAbs < 2 ^ b := by
      rw [List.getD_eq_getElem?_getD]
      cases e : l[low.length - 1 + k]? with
      | none => exact Nat.two_pow_pos b
      | some x => exact h x (List.mem_of_getElem? e)
    have := divN_abS hU k (b + 63) (subI_abS hU hf (low.length - 1) (s := k) h)
    rw [show b + 63 * (k + 1) = b + 63 + 63 * k by omega]
    exact this
theorem rst_abS {low l : List Int} (hU : Sml low) {b : Nat} (h : Ab b l) : Ab (b + 63 * l.length) (rst low l) := fun n hn => by
  have := divN_abS hU (l.length - (low.length - 1)) b h n (List.mem_of_mem_take hn)
  exact Nat.lt_of_lt_of_le this (pow_up (by omega))
/-- x ** m -/
def powL (m : Nat) : List Int := List.replicate m 0 ++ [1]
theorem powL_len (m : Nat) : (powL m).length = m + 1 := by
  unfold powL
  rw [List.length_append, List.length_replicate]
  rfl
theorem powL_ab (m : Nat) : Ab 1 (powL m) := fun x hx => by
  unfold powL at hx
  rcases List.mem_append.mp hx with h | h
  · rw [(List.mem_replicate.mp h).2]
    decide
  · rw [List.mem_singleton.mp h]
    decide
theorem powL_act (m : Nat) (s : Sq) (i : Int) : act (powL m) s i = s (i + m) := by
  unfold powL
  rw [act_append, act_zeros, List.length_replicate]
  show 0 + (1 * s (i + m) + 0) = _
  omega
/-- x ** m less its rest -/
def fillL (P : List Int) (n m : Nat) : List Int := (((rst P (powL m)).map fun x => -x) ++ List.replicate (n - (rst P (powL m)).length) 0).set m 1
def stepL (P : List Int) (n p : Nat) : List Int := (fillL P n (n - 1 - p)).reverse
theorem rst_powL {P : List Int} {m : Nat} (h : P.length - 1 ≤ m) : (rst P (powL m)).length = P.length - 1 := by
  rw [rst_len, powL_len]
  omega
theorem fillL_len {P : List Int} {n m : Nat} (h : P.length - 1 ≤ m) (hm : m < n) : (fillL P n m).length = n := by
  unfold fillL
  rw [List.length_set, List.length_append, List.length_map, List.length_replicate, rst_powL h]
  omega
theorem act_neg : ∀ (p : List Int) (s : Sq) (i : Int), act (p.map fun x => -x) s i = -act p s i
  | [], _, _ => rfl
  | a :: p, s, i => by
    rw [List.map_cons, act, act, act_neg p, Int.neg_mul]
    omega
theorem fillL_act {P : List Int} (hM : Mon P) {n m : Nat} (h : P.length - 1 ≤ m) (hm : m < n) (s : Sq) (i : Int) : act (fillL P n m) s i = act (quo P (powL m)) (act P s) i := by
  have hr := rst_powL h
  have e := act_div hM (powL m) s i
  rw [powL_act] at e
  unfold fillL
  rw [act_set _ _ _ _ _ (by rw [List.length_append, List.length_map, List.length_replicate, hr]; omega), act_append, act_neg, act_zeros]
  have e0 : (((rst P (powL m)).map fun x => -x) ++ List.replicate (n - (rst P (powL m)).length) 0).getD m 0 = 0 := by
    rw [List.getD_eq_getElem?_getD, List.getElem?_append_right (by rw [List.length_map, hr]; omega), List.getElem?_replicate]
    split <;> rfl
  rw [e0]
  omega
theorem fillL_ab {P : List Int} (hS : Sml P) {n m : Nat} (hm : m < 40) : Ab 2600 (fillL P n m) := fun x hx => by
  unfold fillL at hx
  rcases List.mem_or_eq_of_mem_set hx with z | z
  · rcases List.mem_append.mp z with h | h
    · obtain ⟨y, hy, rfl⟩ := List.mem_map.mp h
      have h1 := rst_abS hS (powL_ab m) y hy
      rw [powL_len] at h1
      have h2 := Nat.lt_of_lt_of_le h1 (pow_up (a := 1 + 63 * (m + 1)) (b := 2600) (by omega))
      rw [Int.natAbs_neg]
      exact h2
    · rw [(List.mem_replicate.mp h).2]
      exact Nat.two_pow_pos _
  · rw [z]
    exact Nat.lt_of_lt_of_le (m := 2 ^ 1) (by decide) (pow_up (by decide))
theorem prods_act : ∀ (p q : List Int), p.length ≤ q.length → (prods p q).sum = act p (fun i => q.getD i.toNat 0) 0
  | [], q, _ => by
    show (List.zipWith (· * ·) [] q).sum = 0
    rw [List.zipWith_nil_left]
    rfl
  | a :: p, [], h => absurd h (Nat.not_succ_le_zero _)
  | a :: p, b :: q, h => by
    have ih := prods_act p q (Nat.le_of_succ_le_succ h)
    show (List.zipWith (· * ·) (a :: p) (b :: q)).sum = a * b + act p (fun i => (b :: q).getD i.toNat 0) (0 + 1)
    rw [List.zipWith_cons_cons, List.sum_cons]
    show a * b + (prods p q).sum = _
    rw [ih]
    refine congrArg (a * b + ·) (act_congr fun j _ => ?_)
    show q.getD (0 + (j : Int)).toNat 0 = (b :: q).getD (0 + 1 + (j : Int)).toNat 0
    rw [show (0 + 1 + (j : Int)).toNat = (0 + (j : Int)).toNat + 1 by omega, List.getD_cons_succ]
theorem prods_rev {p q : List Int} (h : p.length = q.length) : (prods p.reverse q).sum = (prods p q.reverse).sum := by
  have e : prods p.reverse q = (prods p q.reverse).reverse := by
    unfold prods
    rw [List.reverse_zipWith (by rw [List.length_reverse]; exact h), List.reverse_reverse]
  rw [e, List.sum_reverse]
/-- a row in steps has no light -/
theorem step_dark {ns : List Int} (l1 : 1 ≤ ns.length) (l40 : ns.length ≤ 40) {p : Nat} (hp : p < ns.length - degS (seenL ns)) (t : Int) : lightV ns (stepL (seenP ns) ns.length p) t = 0 := by
  have hd := seen_deg l1 l40
  have hPl := seenP_len l1 l40
  have hM : Mon (seenP ns) := fold_mon (seenL ns) [1] (fun d hd => by have := seen_mem hd; omega) (Nat.le_refl _) ⟨[], rfl⟩
  have hm1 : (seenP ns).length - 1 ≤ ns.length - 1 - p := by omega
  have hm2 : ns.length - 1 - p < ns.length := by omega
  have hfl := fillL_len hm1 hm2
  have hl : (stepL (seenP ns) ns.length p).length = ns.length := by
    unfold stepL
    rw [List.length_reverse, hfl]
  rw [light_swap hl]
  unfold lightV stepL
  rw [prods_rev (by rw [rot_len, hfl]), prods_act _ _ (by rw [List.length_reverse, rot_len, hfl]; exact Nat.le_refl _)]
  have e : act (fillL (seenP ns) ns.length (ns.length - 1 - p)) (fun i => (rot ns (-t)).reverse.getD i.toNat 0) 0 = act (fillL (seenP ns) ns.length (ns.length - 1 - p)) (act ns (dlt ns.length)) (-((ns.length : Int) - 1 + t)) := act_congr fun j hj => by
    rw [hfl] at hj
    show (rot ns (-t)).reverse.getD (0 + (j : Int)).toNat 0 = act ns (dlt ns.length) (-((ns.length : Int) - 1 + t) + (j : Int))
    rw [act_dlt l1 ns (Nat.le_refl _), show (0 + (j : Int)).toNat = j by omega, List.getD_eq_getElem?_getD, List.getElem?_reverse (by rw [rot_len]; exact hj), rot_len, rot_at (by omega)]
    show ns.getD _ 0 = ns.getD _ 0
    rw [show ((ns.length - 1 - j : Nat) : Int) - -t = -(-((ns.length : Int) - 1 + t) + (j : Int)) by omega]
  rw [e, fillL_act hM hm1 hm2]
  refine act_null (fun i => ?_) _
  unfold seenP
  rw [prodL_act (fun d hd => by have := seen_mem hd; omega)]
  exact blind_kill l1 l40 i
end Sd

namespace Sd
open PySem PySem.Spec PyProof.Rows L2

/-! ### lights of sums of rows -/
/-- one row and a multiple of another -/
def linL (t : Int) (a b : List Int) : List Int := List.zipWith (fun x y => x + t * y) a b
theorem linL_len {t : Int} {a b : List Int} (h : a.length = b.length) : (linL t a b).length = a.length := by
  unfold linL
  rw [List.length_zipWith]
  omega
theorem linL_at {t : Int} {a b : List Int} {i : Nat} {x y : Int} (h1 : a[i]? = some x) (h2 : b[i]? = some y) : (linL t a b)[i]? = some (x + t * y) := by
  unfold linL
  rw [List.getElem?_zipWith, h1, h2]
theorem linL_get {t : Int} {a b : List Int} (h : a.length = b.length) {i : Nat} (hi : i < a.length) : (linL t a b).getD i 0 = a.getD i 0 + t * b.getD i 0 :=
  getD_at (linL_at (at_getD hi) (at_getD (by omega)))
theorem linL_ab {t : Int} {a b : List Int} {k j m : Nat} (ha : Ab k a) (hb : Ab j b) (ht : t.natAbs < 2 ^ m) : Ab (k + j + m + 1) (linL t a b) := fun x hx => by
  unfold linL at hx
  obtain ⟨i, hi, e⟩ := List.mem_iff_getElem.mp hx
  rw [List.length_zipWith] at hi
  rw [List.getElem_zipWith] at e
  have h1 := ha _ (List.getElem_mem (show i < a.length by omega))
  have h2 := hb _ (List.getElem_mem (show i < b.length by omega))
  rw [← e]
  have h3 := wide_lt ht h2
  have p1 : (2 : Nat) ^ k ≤ 2 ^ (k + j + m) := pow_up (by omega)
  have p2 : (2 : Nat) ^ (m + j) ≤ 2 ^ (k + j + m) := pow_up (by omega)
  rw [Nat.pow_succ]
  omega
theorem light_act {ns ms : List Int} (hl : ns.length = ms.length) (t : Int) : lightV ns ms t = act ns (fun i => (rot ms t).getD i.toNat 0) 0 := by
  unfold lightV
  exact prods_act ns (rot ms t) (by rw [rot_len]; omega)
theorem light_lin {ns a b : List Int} (ha : ns.length = a.length) (hb : ns.length = b.length) (t u : Int) : lightV ns (linL t a b) u = lightV ns a u + t * lightV ns b u := by
  have hab : a.length = b.length := by omega
  rw [light_act (by rw [linL_len hab]; exact ha), light_act ha, light_act hb, ← act_mul, ← act_add]
  refine act_congr fun j hj => ?_
  show (rot (linL t a b) u).getD (0 + (j : Int)).toNat 0 = (rot a u).getD (0 + (j : Int)).toNat 0 + t * (rot b u).getD (0 + (j : Int)).toNat 0
  rw [show (0 + (j : Int)).toNat = j by omega, rot_get (by rw [linL_len hab]; omega), rot_get (by omega), rot_get (by omega), linL_len hab, ← hab]
  have hm := mod_in (i := (j : Int) - u) (show 0 < a.length by omega)
  exact linL_get hab (by omega)
theorem lights_lin {ns a b : List Int} (ha : ns.length = a.length) (hb : ns.length = b.length) (t : Int) : lightsV ns (linL t a b) = linL t (lightsV ns a) (lightsV ns b) := by
  refine ext_getD (by rw [linL_len (by rw [lightsV_len, lightsV_len]), lightsV_len, lightsV_len]) fun j hj => ?_
  rw [lightsV_len] at hj
  rw [lights_get hj, linL_get (by rw [lightsV_len, lightsV_len]) (by rw [lightsV_len]; exact hj), lights_get hj, lights_get hj]
  exact light_lin ha hb t j
theorem lights_dark {ns a b : List Int} (ha : ns.length = a.length) (hb : ns.length = b.length) (hz : ∀ t, lightV ns b t = 0) (t : Int) : lightsV ns (linL t a b) = lightsV ns a := by
  refine ext_getD (by rw [lightsV_len, lightsV_len]) fun j hj => ?_
  rw [lightsV_len] at hj
  rw [lights_get hj, lights_get hj, light_lin ha hb, hz, Int.mul_zero, Int.add_zero]
theorem act_const : ∀ (p : List Int) (c i : Int), act p (fun _ => c) i = p.sum * c
  | [], c, _ => by
    show 0 = 0 * c
    rw [Int.zero_mul]
  | a :: p, c, i => by
    rw [act, act_const p c, List.sum_cons, Int.add_mul]
theorem light_part {ns ms : List Int} (hl : ns.length = ms.length) : ∀ k : Nat, ((List.range k).map fun (t : Nat) => lightV ns ms (t : Int)).sum = act ns (fun i => ((List.range k).map fun (t : Nat) => (rot ms (t : Int)).getD i.toNat 0).sum) 0
  | 0 => by
    show 0 = act ns (fun _ => 0) 0
    rw [act_zero]
  | k + 1 => by
    rw [List.range_succ, List.map_append, List.sum_append, light_part hl k]
    have e : (fun i : Int => ((List.range k ++ [k]).map fun (t : Nat) => (rot ms (t : Int)).getD i.toNat 0).sum) = fun i => ((List.range k).map fun (t : Nat) => (rot ms (t : Int)).getD i.toNat 0).sum + (rot ms (k : Int)).getD i.toNat 0 := funext fun i => by
      rw [List.map_append, List.sum_append]
      show _ + ((rot ms (k : Int)).getD i.toNat 0 + 0) = _
      rw [Int.add_zero]
    rw [e, act_add, ← light_act hl]
    show _ + (lightV ns ms k + 0) = _
    rw [Int.add_zero]
theorem neg_mod_mod (j t : Int) {n : Int} : -((t - j) % n) % n = (j - t) % n := by
  rw [show j - t = -(t - j) by omega]
  have e : -((t - j) % n) = -(t - j) + n * ((t - j) / n) := by
    rw [Int.emod_def]
    omega
  rw [e, Int.add_mul_emod_self_left]
theorem lights_sum {ns ms : List Int} (hl : ns.length = ms.length) : (lightsV ns ms).sum = ns.sum * ms.sum := by
  unfold lightsV
  rw [light_part hl, ← act_const ns ms.sum 0]
  refine act_congr fun j hj => ?_
  show ((List.range ns.length).map fun (t : Nat) => (rot ms (t : Int)).getD (0 + (j : Int)).toNat 0).sum = ms.sum
  rw [show (0 + (j : Int)).toNat = j by omega]
  have e : ((List.range ns.length).map fun (t : Nat) => (rot ms (t : Int)).getD j 0) = rot (mir ms) (j : Int) := by
    refine ext_getD (by rw [List.length_map, List.length_range, rot_len, mir_len]; exact hl) fun t ht => ?_
    rw [List.length_map, List.length_range] at ht
    rw [List.getD_eq_getElem?_getD, List.getElem?_map, List.getElem?_range ht]
    show (rot ms (t : Int)).getD j 0 = _
    have hm := mod_in (i := (t : Int) - (j : Int)) (show 0 < ms.length by omega)
    rw [rot_get (by omega), rot_get (by rw [mir_len]; omega), mir_len, mir_get (by omega), Int.toNat_of_nonneg hm.1]
    rw [neg_mod_mod j t]
  rw [e, sum_rot, sum_mir]
theorem light_lone {ns : List Int} {s : Nat} (hs : s < ns.length) (t : Int) : lightV ns ((List.replicate ns.length 0).set s 1) t = ns.getD ((((s : Int) + t) % (ns.length : Int)).toNat) 0 := by
  have hl : ns.length = ((List.replicate ns.length (0 : Int)).set s 1).length := by rw [List.length_set, List.length_replicate]
  rw [light_swap hl.symm, light_act hl.symm, act_set _ _ _ _ _ (by rw [List.length_replicate]; exact hs), act_zeros, List.getD_eq_getElem?_getD, List.getElem?_replicate, if_pos hs]
  show 0 + (1 - 0) * (rot ns (-t)).getD (0 + (s : Int)).toNat 0 = _
  rw [show (0 + (s : Int)).toNat = s by omega, rot_get hs, show (s : Int) - -t = s + t by omega]
  omega
theorem lights_lone {ns : List Int} {s : Nat} (hs : s < ns.length) : lightsV ns ((List.replicate ns.length 0).set s 1) = rot ns (0 - (s : Int)) := by
  refine ext_getD (by rw [lightsV_len, rot_len]) fun j hj => ?_
  rw [lightsV_len] at hj
  rw [lights_get hj, light_lone hs, rot_get hj, show (j : Int) - (0 - (s : Int)) = s + j by omega]
end Sd

namespace Sd
open PySem PySem.Spec PyProof.Rows L2

/-! ### texts -/
def mkS (l : List Nat) : Str := ⟨l.toArray⟩
theorem tl_mk (l : List Nat) : TL.tl (mkS l) = l := rfl
theorem mk_tl (x : Str) : mkS (TL.tl x) = x := TL.ext_tl rfl
theorem mk_inj {a b : List Nat} : mkS a = mkS b ↔ a = b := ⟨fun e => by
  have := congrArg TL.tl e
  exact this, fun e => by rw [e]⟩
theorem mk_app (a b : List Nat) : mkS a ++ mkS b = mkS (a ++ b) := TL.ext_tl (by rw [TL.tl_append]; rfl)
theorem mk_len (l : List Nat) : (mkS l).length = l.length := by
  rw [TL.len_tl]
  rfl
/-- the signs of an int -/
def intL (n : Int) : List Nat := if n < 0 then 45 :: TL.numL n.natAbs else TL.numL n.natAbs
def intS (n : Int) : Str := mkS (intL n)
theorem tl_ofString (s : String) : TL.tl (Str.ofString s) = s.toList.map Char.toNat := by
  rw [PySem.Str.ofString_eq_toList]
theorem str_int (n : Int) : Str.ofString (toString n) = intS n := by
  refine TL.ext_tl ?_
  rw [show TL.tl (intS n) = intL n from rfl]
  unfold intL
  by_cases h : n < 0
  · rw [if_pos h, PyProof.Rows.toString_neg h, tl_ofString, String.toList_append, List.map_append]
    have e : (0 : Int) - n = ((n.natAbs : Nat) : Int) := by omega
    have t := TL.tl_num n.natAbs
    rw [tl_ofString] at t
    rw [e, t]
    rfl
  · rw [if_neg h]
    have e : n = ((n.natAbs : Nat) : Int) := by omega
    have t := TL.tl_num n.natAbs
    rw [← e] at t
    exact t
theorem numL_head : ∀ n : Nat, 0 < n → (TL.numL n).head? ≠ some 48 := fun n => by
  induction n using Nat.strongRecOn with
  | _ n ih =>
    intro hn
    by_cases h : n < 10
    · rw [TL.numL_lt h]
      intro e
      have := Option.some.inj e
      omega
    · rw [TL.numL_step (by omega)]
      have hp := ih (n / 10) (by omega) (by omega)
      cases e : TL.numL (n / 10) with
      | nil => exact absurd e (TL.numL_ne _)
      | cons c r =>
        rw [e] at hp
        exact hp
theorem intL_pos {n : Int} (h : 0 ≤ n) : intL n = TL.numL n.natAbs := if_neg (by omega)
theorem intL_neg {n : Int} (h : n < 0) : intL n = 45 :: TL.numL n.natAbs := if_pos h
theorem intL_ne (n : Int) : intL n ≠ [] := by
  unfold intL
  split
  · exact fun e => nomatch e
  · exact TL.numL_ne _
theorem intL_free {n : Int} {s : Nat} (h : s < 48 ∨ 57 < s) (h2 : s ≠ 45) : s ∉ intL n := fun hm => by
  unfold intL at hm
  split at hm
  · rcases List.mem_cons.mp hm with e | e
    · exact h2 e
    · exact TL.numL_free h e
  · exact TL.numL_free h hm
theorem intL_len {n : Int} {k : Nat} (hk : 0 < k) (h : n.natAbs < 10 ^ k) : (intL n).length ≤ k + 1 := by
  have := TL.numL_len hk h
  unfold intL
  split
  · rw [List.length_cons]
    omega
  · omega
theorem num_digit {c : Nat} (h0 : 48 ≤ c) (h1 : c ≤ 57) : Unicode.isDigit c = true := by
  have : ∀ d : Nat, d < 10 → Unicode.isDigit (48 + d) = true := by decide +kernel
  have e := this (c - 48) (by omega)
  rw [show 48 + (c - 48) = c by omega] at e
  exact e
theorem all_tl (x : Str) (p : Nat → Bool) : x.cps.all p = (TL.tl x).all p := by
  rw [← Array.all_toList]
theorem dig_isascii (n : Nat) : Txt.isascii (mkS (TL.numL n)) = true := by
  unfold Txt.isascii
  rw [all_tl, List.all_eq_true]
  intro c hc
  have := TL.numL_digits n c hc
  exact decide_eq_true (by omega)
theorem dig_isdigit (n : Nat) : Txt.isdigit (mkS (TL.numL n)) = true := by
  unfold Txt.isdigit
  rw [Bool.and_eq_true]
  refine ⟨decide_eq_true ?_, ?_⟩
  · rw [mk_len]
    exact List.length_pos_iff.mpr (TL.numL_ne n)
  · rw [all_tl, List.all_eq_true]
    intro c hc
    have := TL.numL_digits n c hc
    exact num_digit (by omega) (by omega)
theorem starts_one (l : List Nat) (c : Nat) : Txt.startswith (mkS l) (mkS [c]) = decide (l.head? = some c) := by
  unfold Txt.startswith
  rw [mk_len, mk_len, PySem.StrLaws.subAt_eq, mk_len]
  show (decide (0 + 1 ≤ l.length) && (List.take 1 (l.drop 0) == [c])) = _
  cases l with
  | nil => rfl
  | cons x r =>
    show (decide (0 + 1 ≤ r.length + 1) && ([x] == [c])) = decide (some x = some c)
    rw [decide_eq_true (by omega), Bool.true_and]
    by_cases h : x = c
    · subst h
      rw [decide_eq_true rfl]
      exact beq_self_eq_true _
    · rw [decide_eq_false (fun e => h (Option.some.inj e))]
      exact beq_eq_false_iff_ne.mpr fun e => h (List.cons.inj e).1
theorem int_reads {n : Int} (h : n.natAbs < 10 ^ 600) : PySem.intText? (intS n) = some n := by
  by_cases h0 : n < 0
  · have e := PySem.intText_neg (x := intS n) (cs := TL.numL n.natAbs) (by show intL n = _; exact intL_neg h0) (TL.numL_digits _) (TL.numL_ne _) (by
      rw [TL.len_tl]
      show (intL n).length ≤ 4300
      have := intL_len (by decide) h
      omega)
    rw [e, TL.numL_val]
    exact congrArg some (by omega)
  · have e := PySem.intText_digits (x := intS n) (by show NumText.AllDigits (intL n); rw [intL_pos (by omega)]; exact TL.numL_digits _) (by show intL n ≠ []; exact intL_ne n) (by
      rw [TL.len_tl]
      show (intL n).length ≤ 4300
      have := intL_len (by decide) h
      omega)
    rw [e]
    show some ((NumText.digitsVal (intL n) : Nat) : Int) = some n
    rw [intL_pos (by omega), TL.numL_val]
    exact congrArg some (by omega)
/-- words joined by a sign -/
def spS : Str := mkS [32]
def wordsS (ws : List (List Nat)) : Str := Txt.join spS (ws.map mkS)
theorem tl_words (ws : List (List Nat)) : TL.tl (wordsS ws) = TL.joinL [32] ws := by
  unfold wordsS
  rw [TL.join_eq, TL.tl_join, List.map_map]
  have e : ws.map (TL.tl ∘ mkS) = ws := by
    conv => rhs; rw [← List.map_id ws]
    exact List.map_congr_left fun _ _ => rfl
  rw [e]
  rfl
theorem words_split {ws : List (List Nat)} (hne : ws ≠ []) (hf : ∀ w ∈ ws, 32 ∉ w) : Txt.split (wordsS ws) spS = ws.map mkS :=
  TL.split_join (s := 32) (S := []) rfl (by decide +kernel) (fun e => hne (List.map_eq_nil_iff.mp e)) fun p hp => by
    obtain ⟨w, hw, rfl⟩ := List.mem_map.mp hp
    exact hf w hw
theorem joinL_len {k : Nat} : ∀ {ws : List (List Nat)}, (∀ w ∈ ws, w.length ≤ k) → (TL.joinL [32] ws).length ≤ (k + 1) * ws.length
  | [], _ => Nat.zero_le _
  | [p], h => by
    show p.length ≤ (k + 1) * 1
    have := h p (List.mem_singleton.mpr rfl)
    omega
  | p :: q :: r, h => by
    show (p ++ ([32] ++ TL.joinL [32] (q :: r))).length ≤ (k + 1) * ((q :: r).length + 1)
    have h1 := h p List.mem_cons_self
    have h2 := joinL_len (ws := q :: r) fun w hw => h w (List.mem_cons_of_mem _ hw)
    rw [List.length_append, List.length_append, Nat.mul_add]
    show p.length + (1 + _) ≤ _
    omega
theorem words_len {k : Nat} {ws : List (List Nat)} (h : ∀ w ∈ ws, w.length ≤ k) : (wordsS ws).length ≤ (k + 1) * ws.length := by
  rw [TL.len_tl, tl_words]
  exact joinL_len h
theorem join_fits {k : Nat} {ws : List (List Nat)} (h : ∀ w ∈ ws, w.length ≤ k) (hk : k ≤ 1000) (hn : ws.length ≤ 1000) : ((ws.map mkS).map (·.length)).sum + (ws.map mkS).length * spS.length ≤ 16777216 := by
  have h1 : ((ws.map mkS).map (·.length)).sum ≤ k * ws.length := by
    have := sum_bound (B := k) (l := (ws.map mkS).map (·.length)) fun x hx => by
      obtain ⟨y, hy, rfl⟩ := List.mem_map.mp hx
      obtain ⟨w, hw, rfl⟩ := List.mem_map.mp hy
      rw [mk_len]
      exact h w hw
    rw [List.length_map, List.length_map] at this
    exact this
  have h2 : k * ws.length ≤ 1000 * 1000 := Nat.mul_le_mul hk hn
  have h3 : spS.length = 1 := by rw [show spS = mkS [32] from rfl, mk_len]; rfl
  rw [List.length_map, h3]
  omega
/-- looks, as words -/
def lookL (p : Int × Int) : List Nat := intL p.1 ++ (61 :: intL p.2)
theorem look_free (p : Int × Int) : 32 ∉ lookL p := fun h => by
  unfold lookL at h
  rcases List.mem_append.mp h with e | e
  · exact intL_free (.inl (by decide)) (by decide) e
  · rcases List.mem_cons.mp e with e | e
    · exact absurd e (by decide)
    · exact intL_free (.inl (by decide)) (by decide) e
theorem look_cut (p : Int × Int) : Txt.partition (mkS (lookL p)) (mkS [61]) = (intS p.1, mkS [61], intS p.2) := by
  have e : mkS (lookL p) = intS p.1 ++ mkS [61] ++ intS p.2 := by
    unfold intS lookL
    rw [mk_app, mk_app, List.append_assoc]
    rfl
  rw [e]
  exact TL.partition_app (s := 61) (S := []) rfl (show 61 ∉ intL p.1 from intL_free (.inr (by decide)) (by decide))
theorem look_len {p : Int × Int} {k : Nat} (hk : 0 < k) (h1 : p.1.natAbs < 10 ^ k) (h2 : p.2.natAbs < 10 ^ k) : (lookL p).length ≤ 2 * k + 3 := by
  have a := intL_len hk h1
  have b := intL_len hk h2
  unfold lookL
  rw [List.length_append, List.length_cons]
  omega
/-! ### a text, many times -/
theorem op_mulS {X : Cx} : OpR X (binaryOp .Mult) (fun x y H Q => ∃ (a : Str) (n : Int), x = .str a ∧ y = .int n ∧ MulOk a n ∧ Q (.str (Txt.mul a n)) H) := by
  intro pins s σ H x y v u Q I rx ry h
  obtain ⟨a, n, rfl, rfl, hm, q⟩ := h
  obtain ⟨t, rfl⟩ := rx
  obtain ⟨t', rfl⟩ := ry
  exact PySem.SB.mul hm fun t'' k => ⟨.str _, H, I.tok _, ⟨_, rfl⟩, q⟩
/-! ### the written signs -/
theorem cSp : Str.ofString " " = spS := TL.ext_tl (by rw [tl_ofString]; rfl)
theorem cDash : Str.ofString "-" = mkS [45] := TL.ext_tl (by rw [tl_ofString]; rfl)
theorem cZero : Str.ofString "0" = mkS [48] := TL.ext_tl (by rw [tl_ofString]; rfl)
theorem cEq : Str.ofString "=" = mkS [61] := TL.ext_tl (by rw [tl_ofString]; rfl)
theorem cNone : Str.ofString "" = mkS [] := TL.ext_tl (by rw [tl_ofString]; rfl)
theorem join_one (y x : Str) : Txt.join y [x] = x := by
  rw [TL.join_eq]
  rfl
theorem join_none (y : Str) : Txt.join y [] = mkS [] := by
  rw [TL.join_eq]
  rfl
theorem cut_tail (c : Nat) (l : List Nat) : cutS (mkS (c :: l)) (some 1) none = mkS l := by
  unfold cutS
  have e1 : HT.sIx (mkS (c :: l)).length 0 (some 1) = 1 := by
    have := HT.sIx_nat (mkS (c :: l)).length 0 1
    rw [mk_len, List.length_cons] at this ⊢
    rw [show (some (1 : Int)) = some ((1 : Nat) : Int) from rfl, this]
    omega
  rw [e1, HT.sIx_none, mk_len]
  show mkS (((c :: l).drop 1).take ((c :: l).length - 1)) = mkS l
  rw [List.drop_one, List.tail_cons, List.length_cons, Nat.add_sub_cancel, List.take_length]
theorem spl_le {n k : Nat} (h : n ≤ k) (hk : k ≤ 1000000) : n ≤ sizeLine := Nat.le_trans h (Nat.le_trans hk (by decide))
theorem abs10 {n : Int} {k : Nat} (h : n.natAbs < 10 ^ k) (hk : k ≤ 100) : n.natAbs < 2 ^ 1000 := Nat.lt_of_lt_of_le h (Nat.le_trans (Nat.pow_le_pow_right (by decide) hk) (by decide +kernel))
theorem abs_log {n : Int} {k : Nat} (h : n.natAbs < 10 ^ k) (hk : k ≤ 100) : n.natAbs.log2 < 1920 := Nat.lt_trans (PySem.Flt.log2_lt_of (by decide) (abs10 h hk)) (by decide)
/-- pairs of ints, in tuples -/
inductive Prs (H : Hp) : List V → List (Int × Int) → Prop
  | nil : Prs H [] []
  | cons {t : Addr} {p : Int × Int} {vs : List V} {ps : List (Int × Int)} (h : H t = some (.tup [.int p.1, .int p.2])) (r : Prs H vs ps) : Prs H (.ref t :: vs) (p :: ps)
theorem Prs.up {H H1 : Hp} {vs : List V} {ps : List (Int × Int)} (h : Prs H vs ps) (s : Same H H1) : Prs H1 vs ps := by
  induction h with
  | nil => exact .nil
  | cons h _ ih => exact .cons (s _ _ h) ih
theorem Prs.len {H : Hp} {vs : List V} {ps : List (Int × Int)} (h : Prs H vs ps) : vs.length = ps.length := by
  induction h with
  | nil => rfl
  | cons _ _ ih => rw [List.length_cons, List.length_cons, ih]
theorem Prs.at {H : Hp} {vs : List V} {ps : List (Int × Int)} (h : Prs H vs ps) : ∀ {i : Nat} {v : V}, vs[i]? = some v → ∃ t p, v = .ref t ∧ ps[i]? = some p ∧ H t = some (.tup [.int p.1, .int p.2]) := by
  induction h with
  | nil => exact fun e => nomatch e
  | cons h _ ih =>
    intro i v e
    cases i with
    | zero => exact ⟨_, _, (Option.some.inj e).symm, rfl, h⟩
    | succ i => exact ih e
theorem Prs.snoc {H : Hp} {vs : List V} {ps : List (Int × Int)} {t : Addr} {p : Int × Int} (h : Prs H vs ps) (e : H t = some (.tup [.int p.1, .int p.2])) : Prs H (vs ++ [.ref t]) (ps ++ [p]) := by
  induction h with
  | nil => exact .cons e .nil
  | cons h _ ih => exact .cons h ih
def dP (p : Int × Int) : PyData := .tuple [.int p.1, .int p.2]
theorem Prs.dp {K : PySem.W.Frag} {H : Hp} {vs : List V} {ps : List (Int × Int)} (h : Prs H vs ps) : DpAll K H vs (ps.map dP) := by
  induction h with
  | nil => exact .nil
  | cons h _ ih => exact .cons (.tup (SqT.of h) (.cons (.int _) (.cons (.int _) .nil))) ih
/-- f'..', its parts one behind the other -/
def tJoined (ts : List TE) : TE := fun σ H Q => tJs ts Str.empty σ H fun out H1 => Q (.str out) H1
theorem pe_joinedN {X : Cx} {v1 v2 : Expr} {rest : List Expr} {ts : List TE} {pos : Pos} (h : PJ X (v1 :: v2 :: rest) ts) : PE X (.JoinedStr (v1 :: v2 :: rest) pos) (tJoined ts) := pe_joined h
end Sd

namespace Sd
open PySem PySem.Spec PyProof.Rows L2

/-! ### data that repr can show, with bounds -/
structure Dat (k B : Nat) (d : PyData) : Prop where
  rp : RP d
  dp : d.depth ≤ k
  le : d.shown.length ≤ B
theorem Dat.mono {k B k' B' : Nat} {d : PyData} (h : Dat k B d) (hk : k ≤ k') (hB : B ≤ B') : Dat k' B' d := ⟨h.rp, Nat.le_trans h.dp hk, Nat.le_trans h.le hB⟩
theorem Dat.fits {k B : Nat} {d : PyData} (h : Dat k B d) (hB : B ≤ 16000000) : d.shown.length ≤ sizeLine := fit_le (Nat.le_trans h.le hB)
theorem dat_int {i : Int} {k : Nat} (h : i.natAbs < 10 ^ k) (hk : k ≤ 100) : Dat 0 1001 (.int i) := ⟨rp_int (abs10 h hk), by simp only [PyData.depth]; omega, shown_int (abs10 h hk)⟩
theorem dat_str {x : Str} {n : Nat} (h : ∀ c ∈ TL.tl x, c < 128) (hl : x.length ≤ n) : Dat 0 (10 * n + 2) (.str x) := by
  refine ⟨⟨by simp only [PyData.showable], by simp only [PyData.hasDict], ?_, by simp only [PyData.depth]; omega⟩, by simp only [PyData.depth]; omega, ?_⟩
  · simp only [PyData.canLay0]
    unfold PyData.strOk
    rw [all_tl, List.all_eq_true]
    exact fun c hc => decide_eq_true (Nat.lt_of_lt_of_le (h c hc) (by decide))
  simp only [PyData.shown]
  have := PySem.StrLaws.reprText_len x fun c hc => Nat.lt_of_lt_of_le (h c hc) (by decide)
  omega
theorem rps_dat {k B : Nat} : ∀ {ds : List PyData}, (∀ d ∈ ds, Dat k B d) → RPs k ds
  | [], _ => RPs.nil
  | d :: ds, h => RPs.cons (h d List.mem_cons_self).rp (h d List.mem_cons_self).dp (rps_dat fun x hx => h x (List.mem_cons_of_mem _ hx))
theorem dat_list {k B n : Nat} {ds : List PyData} (h : ∀ d ∈ ds, Dat k B d) (hk : k ≤ 30) (hn : ds.length ≤ n) : Dat (k + 1) ((B + 2) * n + 3) (.list ds) := by
  obtain ⟨a, b⟩ := (rps_dat h).list (by omega)
  refine ⟨a, b, ?_⟩
  have := shown_list (B := B) (ds := ds) fun d hd => (h d hd).le
  have := Nat.mul_le_mul_left (B + 2) hn
  omega
theorem dat_tup {k B n : Nat} {ds : List PyData} (h : ∀ d ∈ ds, Dat k B d) (hk : k ≤ 30) (hn : ds.length ≤ n) : Dat (k + 1) ((B + 2) * n + 3) (.tuple ds) := by
  have hs := rps_dat h
  have hd : (PyData.tuple ds).depth ≤ k + 1 := by
    simp only [PyData.depth]
    have := hs.dp
    omega
  refine ⟨⟨?_, ?_, ?_, by omega⟩, hd, ?_⟩
  · simp only [PyData.showable, hs.sh]
  · simp only [PyData.hasDict, hs.nd]
  · simp only [PyData.canLay0, hs.cl]
  · simp only [PyData.shown]
    have h1 := tupleText_len_le (PyData.shownAll ds)
    have h2 : ((PyData.shownAll ds).map (·.length)).sum ≤ B * ds.length := by
      rw [shownAll_map, List.map_map]
      have := sum_bound (B := B) (l := ds.map ((fun x => x.length) ∘ PyData.shown)) fun x hx => by
        obtain ⟨d, hd, rfl⟩ := List.mem_map.mp hx
        exact (h d hd).le
      rw [List.length_map] at this
      exact this
    have h3 : (PyData.shownAll ds).length = ds.length := by rw [shownAll_map, List.length_map]
    rw [h3] at h1
    have h4 := Nat.mul_le_mul_left (B + 2) hn
    have h5 : (B + 2) * ds.length = B * ds.length + 2 * ds.length := Nat.add_mul _ _ _
    omega
theorem dat_ints {ns : List Int} {k n : Nat} (h : ∀ x ∈ ns, x.natAbs < 10 ^ k) (hk : k ≤ 100) (hn : ns.length ≤ n) : Dat 1 (1003 * n + 3) (dI ns) :=
  dat_list (k := 0) (B := 1001) (fun d hd => by
    obtain ⟨x, hx, rfl⟩ := List.mem_map.mp hd
    exact dat_int (h x hx) hk) (by decide) (by rw [List.length_map]; exact hn)
theorem dat_pairs {ps : List (Int × Int)} {k n : Nat} (h : ∀ p ∈ ps, p.1.natAbs < 10 ^ k ∧ p.2.natAbs < 10 ^ k) (hk : k ≤ 100) (hn : ps.length ≤ n) : Dat 2 (2011 * n + 3) (.list (ps.map dP)) :=
  dat_list (k := 1) (B := 2009) (fun d hd => by
    obtain ⟨p, hp, rfl⟩ := List.mem_map.mp hd
    exact dat_tup (k := 0) (B := 1001) (n := 2) (fun d hd => by
      simp only [List.mem_cons, List.not_mem_nil, or_false] at hd
      rcases hd with rfl | rfl
      · exact dat_int (h p hp).1 hk
      · exact dat_int (h p hp).2 hk) (by decide) (Nat.le_refl _)) (by decide) (by rw [List.length_map]; exact hn)
theorem intL_low (n : Int) : ∀ c ∈ intL n, c < 128 := fun c hc => by
  unfold intL at hc
  split at hc
  · rcases List.mem_cons.mp hc with e | e
    · omega
    · have := TL.numL_digits _ c e
      omega
  · have := TL.numL_digits _ c hc
    omega
theorem lookL_low (p : Int × Int) : ∀ c ∈ lookL p, c < 128 := fun c hc => by
  unfold lookL at hc
  rcases List.mem_append.mp hc with e | e
  · exact intL_low _ c e
  · rcases List.mem_cons.mp e with e | e
    · omega
    · exact intL_low _ c e
theorem joinL_low : ∀ {ws : List (List Nat)}, (∀ x ∈ ws, ∀ c ∈ x, c < 128) → ∀ c ∈ TL.joinL [32] ws, c < 128
  | [], _ => fun c hc => (List.not_mem_nil hc).elim
  | [p], h => h p (List.mem_singleton.mpr rfl)
  | p :: q :: r, h => fun c hc => by
    have hc : c ∈ p ++ ([32] ++ TL.joinL [32] (q :: r)) := hc
    rcases List.mem_append.mp hc with e | e
    · exact h p List.mem_cons_self c e
    · rcases List.mem_append.mp e with e | e
      · rw [List.mem_singleton.mp e]
        omega
      · exact joinL_low (fun x hx => h x (List.mem_cons_of_mem _ hx)) c e
theorem dat_words {ws : List (List Nat)} {k n : Nat} (h : ∀ x ∈ ws, x.length ≤ k ∧ ∀ c ∈ x, c < 128) (hn : ws.length ≤ n) : Dat 0 (10 * ((k + 1) * n) + 2) (.str (wordsS ws)) := by
  refine dat_str (fun c hc => ?_) ?_
  · rw [tl_words] at hc
    exact joinL_low (fun x hx => (h x hx).2) c hc
  · exact Nat.le_trans (words_len fun x hx => (h x hx).1) (Nat.mul_le_mul_left _ hn)
theorem dat_row {ns : List Int} {k n : Nat} (hk : 0 < k) (h : ∀ x ∈ ns, x.natAbs < 10 ^ k) (hn : ns.length ≤ n) : Dat 0 (10 * ((k + 1 + 1) * n) + 2) (.str (wordsS (ns.map intL))) :=
  dat_words (fun x hx => by
    obtain ⟨m, hm, rfl⟩ := List.mem_map.mp hx
    exact ⟨intL_len hk (h m hm), intL_low m⟩) (by rw [List.length_map]; exact hn)
theorem dat_looks {ps : List (Int × Int)} {k n : Nat} (hk : 0 < k) (h : ∀ p ∈ ps, p.1.natAbs < 10 ^ k ∧ p.2.natAbs < 10 ^ k) (hn : ps.length ≤ n) : Dat 0 (10 * ((2 * k + 3 + 1) * n) + 2) (.str (wordsS (ps.map lookL))) :=
  dat_words (fun x hx => by
    obtain ⟨p, hp, rfl⟩ := List.mem_map.mp hx
    exact ⟨look_len hk (h p hp).1 (h p hp).2, lookL_low p⟩) (by rw [List.length_map]; exact hn)
end Sd

namespace Sd
open PySem PySem.Spec PyProof.Rows L2
section
variable {P : Program} {w : World} {A : Around} {E : Value → Shared → Prop} {s : Shared}
/-- the set object just made -/
abbrev bareSet (w : World) : Obj := { cls := .type "set", dict := none, data := .set #[] 0 (.fresh 0 0 (!w.params.followText "set-order")) }
/-- what set.__init__ leaves -/
def InitI (w : World) (s : Shared) (ns : List Int) (s₂ : Shared) : Prop := ∃ h' tk c, s₂ = { s with heap := h', toks := tk } ∧ SetR w h' s.heap.objs.size (fun j => decide (j ∈ ns)) c ∧ c ≤ ns.length ∧ ∀ b o, s.heap.get? b = some o → h'.get? b = some o
/-- set.__init__ of a bare set with a list of ints -/
theorem init_ints {l : Addr} {items : Array Value} (ns : List Int) (hh : A.handled = none) (hl : s.heap.IsList l items) (hit : IntsAre items.toList ns) (hb : ns.length + 1 < scanBound) :
    codeAny (model P w) A (.call (.builtin "set.__init__") ⟨[.ref s.heap.objs.size, .ref l], []⟩) (wants (fun r s₂ => r = .none ∧ InitI w s ns s₂) E) { s with heap := s.heap.push (bareSet w) } := by
  have hS : (s.heap.push (bareSet w)).get? s.heap.objs.size = some (bareSet w) := Heap.get?_push_size _ rfl
  have hT : Shared.TypeIs { s with heap := s.heap.push (bareSet w) } (.ref s.heap.objs.size) "set" := ⟨_, hS, rfl⟩
  have hz : items.size = ns.length := by
    have q := IntsAre.length hit
    rwa [Array.length_toList] at q
  have val : ∀ (i : Nat) (v : Value), items[i]? = some v → ∃ k t, ns[i]? = some k ∧ v = .int k t := fun i v hv => by
    have hi : i < ns.length := by rw [← hz]; exact (Array.getElem?_eq_some_iff.mp hv).1
    obtain ⟨t, e⟩ := PyProof.Rows.IntsAre.int_at hit i v (by rw [Array.getElem?_toList]; exact hv)
    exact ⟨ns[i], t, List.getElem?_eq_getElem hi, by rw [e, List.getD_eq_getElem?_getD, List.getElem?_eq_getElem hi]; rfl⟩
  have isL : (s.heap.push (bareSet w)).IsList l items := hl.push _
  have lt : l < s.heap.objs.size := let ⟨_, h, _⟩ := hl; Heap.lt_size h
  refine codeAny_call_builtin F.called_set.init.plain F.entry_set_init (check_set_init_1 hT ?_)
  obtain ⟨ol, hol, hcl, nl, hdl⟩ := isL
  obtain ⟨ocls, odict, odata, oslots⟩ := ol
  simp only at hcl hdl
  subst hcl; subst hdl
  have sub1 := F.sub_list_set
  have sub2 := F.sub_list_frozenset
  have ne : (Value.type "list" == Value.type "dict") = false := by decide
  unfold Builtin.«set.__init__» noKeywords Builtin.Frozenset.updateFrom
  generalize hPI : pyIter = PI
  wp_walk
  subst hPI
  have isL : (s.heap.push (bareSet w)).IsList l items := ⟨_, hol, rfl, nl, rfl⟩
  have size1 : (s.heap.push (bareSet w)).objs.size = s.heap.objs.size + 1 := Heap.size_push ..
  have apart : l ≠ (s.heap.push (bareSet w)).objs.size := Nat.ne_of_lt (by rw [size1]; exact Nat.lt_succ_of_lt lt)
  have out : s.heap.objs.size ∉ [(s.heap.push (bareSet w)).objs.size, l] := fun h => by
    rcases List.mem_cons.mp h with e | e
    · rw [size1] at e
      exact absurd e (Nat.ne_of_lt (Nat.lt_succ_self _))
    · exact absurd (List.mem_singleton.mp e) (Nat.ne_of_gt lt)
  have h3 : A.in1.in1.handled = none := by simp [hh]
  refine wpAny_pyIter_list isL ?_
  refine wpAny_bind (wpAny_runValue ?_)
  refine set_update_ints ((Walks.list h3 _ l apart items).toS) s.heap.objs.size out ns hz hb val (items.size - 0) 0 _ (by omega) (Nat.zero_le _)
    ⟨⟨_, Heap.get?_push_size _ rfl, rfl, rfl⟩, (isL.push _)⟩ ?a1 ?a2
  case a1 =>
    have hg : ((s.heap.push (bareSet w)).push { cls := .type "list_iterator", data := .fields #[.ref l, .int 0 0] }).get? s.heap.objs.size = some (bareSet w) := Heap.get?_push_of_some _ hS
    exact ⟨0, Nat.le_refl 0, setR_new_at hg⟩
  case a2 =>
    intro s' c' hm hc' hS'
    obtain ⟨h', g2, d', tk', os'⟩ := s'
    have eg : g2 = s.gens := hm.gens
    have ed : d' = s.drawn := hm.drawn
    have eo : os' = s.os := hm.os
    subst eg ed eo
    refine wpAny_pure ?_
    refine wpAny_pure ⟨rfl, h', tk', c', rfl, hS', by omega, fun b o e => ?_⟩
    have b0 : b < s.heap.objs.size := Heap.lt_size e
    refine hm.heap b o (fun h => ?_) (Heap.get?_push_of_some _ (Heap.get?_push_of_some _ e))
    rcases List.mem_cons.mp h with z | z
    · exact absurd z (Nat.ne_of_lt b0)
    · have q := List.mem_singleton.mp z
      rw [size1] at q
      exact absurd q (Nat.ne_of_lt (Nat.lt_succ_of_lt b0))
/-- set(xs), xs a list of ints -/
theorem call_set_intsL {l : Addr} {items : Array Value} (ns : List Int) {Q : Value → Shared → Prop} (hh : A.handled = none) (hl : s.heap.IsList l items) (hit : IntsAre items.toList ns) (hb : ns.length + 1 < scanBound)
    (h : ∀ s₂, InitI w s ns s₂ → Q (.ref s.heap.objs.size) s₂) : wpAny (model P w) A (call (.type "set") [.ref l]) Q E s := by
  obtain ⟨c, tl, hmro⟩ := F.called_set.mro
  have hmade := F.called_set.made
  have hsub := F.called_set.sub
  have h1 := F.called_set.notType
  have h2 := F.called_set.canCreate
  have hct := F.typeCall_set_1 (.ref l)
  have hli := F.called_set.init.lookup
  have hbi := F.called_set.init.bind (.ref s.heap.objs.size)
  refine wpAny_call (codeAny_of_tree ?_)
  show wpAny _ _ (callAny (.type "set") _) _ _ _
  refine wpAny_pure ⟨Code.quiet_builtin _ (by decide +kernel), codeAny_builtin F.entry_type_call ?_⟩
  rw [Around.under_plain (weight_type_call_type "set" [.ref l] []) rfl]
  repeat (any_goals (first | assumption | wp_step))
  refine codeAny_mono (code_set_led1 (.ref l) (E := E) (Q₁ := fun obj s₁ => obj = .ref s.heap.objs.size ∧ s₁ = { s with heap := s.heap.push (bareSet w) }) ⟨rfl, rfl⟩) fun r s₁ hr => ?_
  rcases r with e | fl
  · exact hr
  cases fl with
  | ret obj =>
    obtain ⟨rfl, rfl⟩ := hr
    have hS : (s.heap.push (bareSet w)).get? s.heap.objs.size = some (bareSet w) := Heap.get?_push_size _ rfl
    have hT : Shared.TypeIs { s with heap := s.heap.push (bareSet w) } (.ref s.heap.objs.size) "set" := ⟨_, hS, rfl⟩
    repeat (any_goals (first | assumption | wp_step))
    refine codeAny_mono (init_ints (E := E) ns ?_ hl hit hb) fun r₂ s₂ hr₂ => ?_
    · simp [hh]
    rcases r₂ with e | fl₂
    · exact hr₂
    cases fl₂ with
    | ret r =>
      obtain ⟨rfl, hI⟩ := hr₂
      repeat (any_goals (first | assumption | wp_step))
      exact h _ hI
    | _ => exact hr₂.elim
  | _ => exact hr.elim
end
section
variable {X : Cx}
def rSetOfI (K : PySem.W.Frag) (w : World) : List V → Hp → VK → Prop := fun xs H Q => ∃ (l : Addr) (ns : List Int), xs = [V.ref l] ∧ SqL K H l (ns.map V.int) ∧ ns.length < 1000 ∧
  ∀ (a : Addr) (c : Nat), H a = none → c ≤ ns.length → Q (.ref a) (upd H a (SetO w a (fun j => decide (j ∈ ns)) c))
theorem cr_setOfI (hc : X.calm = true) : CallR X (.type "set") (rSetOfI X.K X.w) := by
  intro pins s σ H xs us Q I r h
  obtain ⟨l, ns, rfl, hl, hf, q⟩ := h
  rw [Vals.ref1 r]
  obtain ⟨its, rv, pl, hz⟩ := I.list hl
  have hn : H s.heap.objs.size = none := I.hok.fresh (Nat.le_refl _)
  refine call_set_intsL (P := X.prog) (w := X.w) ns (I.ok.hd hc) pl.isList (by simpa using intsAre_of rv) (by unfold scanBound; omega) fun s₂ hI => ?_
  obtain ⟨h', tk, c, rfl, R, hcn, k⟩ := hI
  exact ⟨.ref s.heap.objs.size, upd H s.heap.objs.size (SetO X.w s.heap.objs.size (fun j => decide (j ∈ ns)) c), I.laid (t' := tk) k (Nat.le_refl _) (setO_new R), rfl, q _ c hn hcn⟩
end
/-! ### a tank whose second number is greater -/
def Stk (H : Hp) (T : Addr) (c : Int) : Prop := ∃ x y z : Int, H T = some (.lst [.int x, .int y, .int z]) ∧ 0 ≤ x ∧ 0 ≤ y ∧ y < 170141183460469231731687303715884105727 ∧ 0 ≤ z ∧ z ≤ c
theorem Stk.some {H : Hp} {T : Addr} {c : Int} (h : Stk H T c) : ∃ o, H T = some o := let ⟨_, _, _, e, _⟩ := h; ⟨_, e⟩
theorem Stk.same {H H' : Hp} {T : Addr} {c : Int} (h : Stk H T c) (s : Same H H') : Stk H' T c := let ⟨x, y, z, e, r⟩ := h; ⟨x, y, z, s _ _ e, r⟩
theorem Stk.ne {H : Hp} {T p : Addr} {c : Int} (h : Stk H T c) (n : H p = none) : p ≠ T := fun e => by
  obtain ⟨o, q⟩ := h.some
  rw [e, q] at n
  cases n
theorem Stk.up {H : Hp} {T p : Addr} {c : Int} {o : HO} (h : Stk H T c) (n : H p = none) : Stk (upd H p o) T c := h.same (new_same n)
theorem Stk.mono {H : Hp} {T : Addr} {c d : Int} (h : Stk H T c) (l : c ≤ d) : Stk H T d := let ⟨x, y, z, e, a, b, r, f, g⟩ := h; ⟨x, y, z, e, a, b, r, f, by omega⟩
theorem Stk.over {H : Hp} {T p : Addr} {c : Int} {o : HO} (h : Stk H T c) (n : p ≠ T) : Stk (upd H p o) T c := let ⟨x, y, z, e, r⟩ := h; ⟨x, y, z, by rw [upd_ne n.symm]; exact e, r⟩
/-! ### a square of a great int -/
def CPow2 (i j : Int) : Prop := j = 2 ∧ 0 ≤ i ∧ i.natAbs < 2 ^ 200
theorem op_pow2 {X : Cx} : OpR X (binaryOp .Pow) (rI CPow2 fun i j => .int (i ^ j.toNat)) := opI fun i j t u s Q E hc q => by
  obtain ⟨rfl, h0, h1⟩ := hc
  by_cases e : (i == 0 || i == 1) = true
  · refine PySem.AutoIntOps.pow_1 (by decide) (by decide) e ?_
    have e2 : i ^ (2 : Int).toNat = i := by
      rcases (Bool.or_eq_true _ _).mp e with z | z
      · rw [eq_of_beq z]; rfl
      · rw [eq_of_beq z]; rfl
    rw [e2] at q
    exact q
  · refine PySem.AutoIntOps.pow_4 (by decide) (by decide) e ?_ ?_ q
    · intro z
      have := eq_of_beq z
      omega
    · intro z
      unfold Builtin.Int.intTooBig at z
      have z3 := of_decide_eq_true z
      have b : Builtin.Int.intBits i ≤ 201 := by
        unfold Builtin.Int.intBits
        have y := PySem.Flt.log2_lt_of (show 0 < 200 by decide) h1
        split <;> omega
      have e : bitsLine = 134217728 := by decide
      rw [e] at z3
      omega
/-! ### rows of bits, sums over bits -/
def bitR : Nat → Nat → List Int
  | 0, _ => []
  | n + 1, b => (((b / 2 ^ n) % 2 : Nat) : Int) :: bitR n b
theorem bitR_len : ∀ n b : Nat, (bitR n b).length = n
  | 0, _ => rfl
  | n + 1, b => by
    show (bitR n b).length + 1 = n + 1
    rw [bitR_len n b]
theorem bitR_at : ∀ {n b i : Nat}, i < n → (bitR n b)[i]? = some (((b / 2 ^ (n - 1 - i)) % 2 : Nat) : Int)
  | 0, _, _, h => absurd h (Nat.not_lt_zero _)
  | n + 1, b, 0, _ => by
    show some (((b / 2 ^ n) % 2 : Nat) : Int) = _
    rw [show n + 1 - 1 - 0 = n by omega]
  | n + 1, b, i + 1, h => by
    show (bitR n b)[i]? = _
    rw [bitR_at (show i < n by omega), show n + 1 - 1 - (i + 1) = n - 1 - i by omega]
theorem bitR_add : ∀ n q b : Nat, bitR n (2 ^ n * q + b) = bitR n b
  | 0, _, _ => rfl
  | n + 1, q, b => by
    show (((2 ^ (n + 1) * q + b) / 2 ^ n % 2 : Nat) : Int) :: bitR n (2 ^ (n + 1) * q + b) = ((b / 2 ^ n % 2 : Nat) : Int) :: bitR n b
    have e : 2 ^ (n + 1) * q = 2 ^ n * (2 * q) := by rw [Nat.pow_succ, Nat.mul_assoc]
    rw [e, bitR_add n (2 * q) b, Nat.mul_add_div (Nat.pow_pos (by decide)), Nat.mul_add_mod]
theorem bitR_01 : ∀ {n b : Nat} {x : Int}, x ∈ bitR n b → 0 ≤ x ∧ x ≤ 1
  | 0, _, _, h => absurd h List.not_mem_nil
  | n + 1, b, x, h => by
    rcases List.mem_cons.mp h with e | e
    · rw [e]
      have := Nat.mod_lt (b / 2 ^ n) (show 0 < 2 by decide)
      omega
    · exact bitR_01 e
def sumsB : List Int → List Int
  | [] => [0]
  | x :: r => sumsB r ++ (sumsB r).map (· + x)
theorem sumsB_len : ∀ xs : List Int, (sumsB xs).length = 2 ^ xs.length
  | [] => rfl
  | x :: r => by
    show (sumsB r ++ (sumsB r).map (· + x)).length = 2 ^ (r.length + 1)
    rw [List.length_append, List.length_map, sumsB_len r, Nat.pow_succ]
    omega
theorem sumsB_at : ∀ {xs : List Int} {b : Nat}, b < 2 ^ xs.length → (sumsB xs)[b]? = some (prods xs (bitR xs.length b)).sum
  | [], b, h => by
    obtain rfl : b = 0 := by
      have : b < 1 := h
      omega
    rfl
  | x :: r, b, h => by
    have h : b < 2 ^ (r.length + 1) := h
    rw [Nat.pow_succ] at h
    show (sumsB r ++ (sumsB r).map (· + x))[b]? = some (prods (x :: r) ((((b / 2 ^ r.length) % 2 : Nat) : Int) :: bitR r.length b)).sum
    show _ = some (x * (((b / 2 ^ r.length) % 2 : Nat) : Int) + (prods r (bitR r.length b)).sum)
    by_cases hb : b < 2 ^ r.length
    · rw [List.getElem?_append_left (by rw [sumsB_len]; exact hb), sumsB_at hb, Nat.div_eq_of_lt hb]
      show _ = some (x * 0 + _)
      rw [Int.mul_zero, Int.zero_add]
    · obtain ⟨c, rfl⟩ : ∃ c, b = 2 ^ r.length * 1 + c := ⟨b - 2 ^ r.length, by omega⟩
      have hc : c < 2 ^ r.length := by omega
      rw [List.getElem?_append_right (by rw [sumsB_len]; omega), sumsB_len, List.getElem?_map, show 2 ^ r.length * 1 + c - 2 ^ r.length = c by omega, sumsB_at hc, bitR_add, Nat.mul_add_div (Nat.pow_pos (by decide)), Nat.div_eq_of_lt hc]
      show some (_ + x) = some (x * 1 + _)
      rw [Int.mul_one, Int.add_comm]
theorem lights_at {ns : List Int} {t : Int} {b : Nat} (h1 : 1 ≤ ns.length) (h : b < 2 ^ ns.length) : (sumsB (rot ns (-t)))[b]? = some (lightV ns (bitR ns.length b) t) := by
  rw [sumsB_at (by rw [rot_len]; exact h), rot_len]
  have e := light_rot1 (ns := ns) (ms := bitR ns.length b) (bitR_len _ _).symm (-t) 0
  rw [show (0 : Int) - -t = t by omega] at e
  rw [← e]
  show _ = some (prods (rot ns (-t)) (rot (bitR ns.length b) 0)).sum
  rw [rot_zero]
/-- the numbers of the rows that fit -/
def okF (ns : List Int) (p : Int × Int) (b : Nat) : Bool := decide (lightV ns (bitR ns.length b) p.1 = p.2)
def fitsF (ns : List Int) (ps : List (Int × Int)) : List Nat := ps.foldl (fun F p => F.filter (okF ns p)) (List.range (2 ^ ns.length))
theorem fits_take {ns : List Int} {ps : List (Int × Int)} {i : Nat} {p : Int × Int} (h : ps[i]? = some p) : fitsF ns (ps.take (i + 1)) = (fitsF ns (ps.take i)).filter (okF ns p) := by
  unfold fitsF
  rw [List.take_add_one, h, List.foldl_append]
  rfl
theorem fits_all (ns : List Int) (ps : List (Int × Int)) : fitsF ns (ps.take ps.length) = fitsF ns ps := by rw [List.take_length]
theorem foldF_len {α : Type} (g : α → Nat → Bool) : ∀ (ps : List α) (F : List Nat), (ps.foldl (fun F p => F.filter (g p)) F).length ≤ F.length
  | [], F => Nat.le_refl _
  | p :: r, F => Nat.le_trans (foldF_len g r (F.filter (g p))) (List.length_filter_le _ _)
theorem foldF_mem {α : Type} (g : α → Nat → Bool) : ∀ (ps : List α) (F : List Nat) {b : Nat}, b ∈ ps.foldl (fun F p => F.filter (g p)) F → b ∈ F
  | [], F, _, h => h
  | p :: r, F, _, h => (List.mem_filter.mp (foldF_mem g r (F.filter (g p)) h)).1
theorem fits_len (ns : List Int) (ps : List (Int × Int)) : (fitsF ns ps).length ≤ 2 ^ ns.length := by
  have := foldF_len (okF ns) ps (List.range (2 ^ ns.length))
  rwa [List.length_range] at this
theorem fits_mem {ns : List Int} {ps : List (Int × Int)} {b : Nat} (h : b ∈ fitsF ns ps) : b < 2 ^ ns.length := List.mem_range.mp (foldF_mem (okF ns) ps _ h)
/-! ### lists of lists of ints -/
inductive LL (H : Hp) : List V → List (List Int) → Prop
  | nil : LL H [] []
  | cons {a : Addr} {r : List Int} {vs : List V} {S : List (List Int)} (h : H a = some (.lst (r.map V.int))) (t : LL H vs S) : LL H (.ref a :: vs) (r :: S)
theorem none_back {H H1 : Hp} {p : Addr} (s : Same H H1) (n : H1 p = none) : H p = none := by
  cases e : H p with
  | none => rfl
  | some o =>
    have := s _ _ e
    rw [n] at this
    cases this
theorem LL.up {H H1 : Hp} {vs : List V} {S : List (List Int)} (h : LL H vs S) (s : Same H H1) : LL H1 vs S := by
  induction h with
  | nil => exact .nil
  | cons h _ ih => exact .cons (s _ _ h) ih
theorem LL.len {H : Hp} {vs : List V} {S : List (List Int)} (h : LL H vs S) : vs.length = S.length := by
  induction h with
  | nil => rfl
  | cons _ _ ih => rw [List.length_cons, List.length_cons, ih]
theorem LL.at {H : Hp} {vs : List V} {S : List (List Int)} (h : LL H vs S) : ∀ {i : Nat} {v : V}, vs[i]? = some v → ∃ a r, v = .ref a ∧ S[i]? = some r ∧ H a = some (.lst (r.map V.int)) := by
  induction h with
  | nil => exact fun e => nomatch e
  | cons h _ ih =>
    intro i v e
    cases i with
    | zero => exact ⟨_, _, (Option.some.inj e).symm, rfl, h⟩
    | succ i => exact ih e
theorem LL.get {H : Hp} {vs : List V} {S : List (List Int)} (h : LL H vs S) : ∀ {i : Nat} {r : List Int}, S[i]? = some r → ∃ a, vs[i]? = some (.ref a) ∧ H a = some (.lst (r.map V.int)) := by
  induction h with
  | nil => exact fun e => nomatch e
  | cons h _ ih =>
    intro i v e
    cases i with
    | zero => exact ⟨_, rfl, by rw [← Option.some.inj e]; exact h⟩
    | succ i => exact ih e
theorem LL.snoc {H : Hp} {vs : List V} {S : List (List Int)} {a : Addr} {r : List Int} (h : LL H vs S) (e : H a = some (.lst (r.map V.int))) : LL H (vs ++ [.ref a]) (S ++ [r]) := by
  induction h with
  | nil => exact .cons e .nil
  | cons h _ ih => exact .cons h ih
end Sd

namespace Sd
open PySem PySem.Spec PyProof.Rows L2
/-! ### enumerate(tuple) -/
theorem meets_enum1 {v : Value} {o : Obj} {G : Heap → Prop} (B : Begins v o G) :
    Meets (Builtin.«enumerate.__new__» ⟨[.type "enumerate", v], []⟩) (fun _ R s => G s.heap ∧
      R (.ok (.ret (.ref (s.heap.push o).objs.size))) { s with heap := (s.heap.push o).push { cls := .type "enumerate", data := .fields #[.none, .bool false, .ref s.heap.objs.size, rawInt 0, .none, .none] } }) :=
  .of_wp fun prog w A R s h => by
    obtain ⟨hp, g, d, tk, os⟩ := s; obtain ⟨h1, h⟩ := h
    have hsub := sub_enumerate
    have go : ∀ {A' : Around} {E : Value → Shared → Prop} {Q : Value → Shared → Prop}, Q (.ref hp.objs.size) ⟨hp.push o, g, d, tk, os⟩ → wpAny (model prog w) A' (pyIter v) Q E ⟨hp, g, d, tk, os⟩ :=
      fun q => B.iter prog w _ _ ⟨hp, g, d, tk, os⟩ _ h1 q
    wp_walk using go
    refine wpAny_stack_any fun st => wpAny_pure ?_
    split
    · rename_i c _ _ _ _ _
      cases (c == Value.type "enumerate") <;>
      · wp_walk using go
        exact ⟨_, rfl, h⟩
    · wp_walk using go
      exact ⟨_, rfl, h⟩
section
variable {P : Program} {w : World} {A : Around} {E : Value → Shared → Prop} {s : Shared}
theorem enum1_begins {v : Value} {o : Obj} {G : Heap → Prop} {Q : Value → Shared → Prop} (B : Begins v o G) (h1 : G s.heap)
    (h : ∀ h', IsEnum h' (s.heap.objs.size + 1) s.heap.objs.size 0 .none → h'.get? s.heap.objs.size = some o → (∀ b u, s.heap.get? b = some u → h'.get? b = some u) → Q (.ref (s.heap.objs.size + 1)) { s with heap := h' }) :
    wpAny (model P w) A (call (.type "enumerate") [v]) Q E s := by
  refine callType_new F.called_enumerate (by decide) (F.typeCall_enumerate_1 _) (F.newCall_enumerate_1 _) (fun obj => F.args_object_init_2 obj _) F.entry_enumerate_new (meets_enum1 B) ⟨h1, ?_⟩
  have hz : (s.heap.push o).objs.size = s.heap.objs.size + 1 := Heap.size_push ..
  show _ ∧ _
  rw [hz]
  have he : IsEnum ((s.heap.push o).push { cls := .type "enumerate", data := .fields #[.none, .bool false, .ref s.heap.objs.size, rawInt 0, .none, .none] }) (s.heap.objs.size + 1) s.heap.objs.size 0 .none := by
    have q := Heap.get?_push_size (s.heap.push o) (o := { cls := .type "enumerate", data := .fields #[.none, .bool false, .ref s.heap.objs.size, rawInt 0, .none, .none] }) rfl
    rw [hz] at q
    exact q
  exact ⟨⟨_, he, rfl⟩, h _ he (Heap.get?_push_of_some _ (Heap.get?_push_size _ B.free)) fun b u x => Heap.get?_push_of_some _ (Heap.get?_push_of_some _ x)⟩
end
/-- a tuple's iterator behind its last item -/
theorem drawn_out {P : Program} {w : World} {A : Around} (hh : A.handled = none) (it t : Addr) (k : Nat) (items : Array Value) (hx : items[k]? = none) :
    Draws P w A it [it, t] 0 (fun _ _ => False) (fun _ h => h.IsTupleIter it t k ∧ h.IsTuple t items) where
  live := fun _ _ st => let ⟨o, ho, _⟩ := st.1; ⟨o, ho⟩
  frame := fun _ _ _ st hk => ⟨st.1.at fun o e => hk it (by simp) o e, st.2.at fun o e => hk t (by simp) o e⟩
  item := fun i s Q E hi => absurd hi (Nat.not_lt_zero _)
  done := fun s Q E st hE => wpAny_nextOf_tuple_end hh st.1 st.2 hx hE
/-- the tuple at a, each item in a new pair -/
def Iet (K : PySem.W.Frag) (a : Addr) : It :=
  ⟨fun i H => ∃ (xs : List V) (x : V), SqT K H a xs ∧ xs[i]? = some x, fun i H v H' => ∃ T x, v = .ref T ∧ H T = none ∧ H' = upd H T (.tup [.int (i : Nat), x]) ∧ ∀ xs, SqT K H a xs → xs[i]? = some x, fun i H => ∃ xs : List V, SqT K H a xs ∧ xs.length ≤ i⟩
theorem turn_enumT {P : Program} {w : World} {K : PySem.W.Frag} {elts : List Expr} {kk : Nat} {tpos : Pos} (a e it : Addr) (hea : e ≠ a) (hai : a ≠ it) :
    Turn P w K (.Tuple elts kk tpos) (Iet K a) [e, it] e (fun i h => (∃ old, IsEnum h e it ((i : Nat) : Int) old) ∧ h.IsTupleIter it a i ∧ e ≠ it) where
  mem := by simp
  obj := fun i h st b hb => by
    obtain ⟨⟨old, he⟩, ⟨o, ho, hc, hd⟩, _⟩ := st
    rcases (by simpa using hb : b = e ∨ b = it) with rfl | rfl
    · exact ⟨_, he, fun v q => nomatch q⟩
    · exact ⟨o, ho, fun v q => by rw [hd] at q; cases q⟩
  keep := fun i h h' st k => let ⟨⟨old, he⟩, hi, hne⟩ := st; ⟨⟨old, k e (by simp) _ he⟩, hi.at fun o q => k it (by simp) o q, hne⟩
  item := by
    intro X hP hw hK hc i pins s σ H E I hf st hg
    subst hP hw hK
    obtain ⟨⟨old, he⟩, hit, hne⟩ := st
    obtain ⟨xs, x, hq, hx⟩ := hg
    obtain ⟨its, rv, p, hz⟩ := I.tuple hq
    obtain ⟨u, hu, ru⟩ := rv.get hx
    have hel : e < s.heap.objs.size := Heap.lt_size he
    have hil : it < s.heap.objs.size := by obtain ⟨_, q, _⟩ := hit; exact Heap.lt_size q
    have pt : s.heap.IsTuple a its.toArray := p
    have hin : i < its.toArray.size := by
      have := (List.getElem?_eq_some_iff.mp hu).1
      simpa using this
    refine wpAny_pyNext_enum_itemC (Draws.tuple (prog := X.prog) (w := X.w) (A := X.A.in1) (by simp [I.ok.hd hc]) it a hai its.toArray) he ⟨hit, pt⟩ hin hne (by simp [hne, hea]) fun v h' tk hv ho hst' hT hsz hk => ?_
    obtain rfl : v = u := by
      have q : its.toArray[i]? = some v := hv
      rw [List.getElem?_toArray, hu] at q
      exact (Option.some.inj q).symm
    refine ⟨_, rfl, wpAny_letOwnedTupleGo_enum (s := { s with heap := h', toks := tk + 1 }) ho fun h'' he' sb => ?_⟩
    have hT2 : h''.get? s.heap.objs.size = some { cls := .type "tuple", data := .seq #[.int i tk, v] } := (sb.2 _ (Nat.ne_of_gt hel)).trans hT
    have new : ObjOk X.prog X.w (upd H s.heap.objs.size (.tup [.int (i : Nat), x])) h'' s.heap.objs.size (.tup [.int (i : Nat), x]) :=
      ⟨by show 2 ≤ sizeLine; decide, [.int i tk, v], .cons ⟨_, rfl⟩ (.cons ru .nil), ⟨_, hT2, rfl, _, rfl⟩⟩
    have I1 : Inv X pins σ (upd H s.heap.objs.size (.tup [.int (i : Nat), x])) { s with heap := h'', toks := tk + 1 } :=
      I.turnedNew (ch := [e, it]) (fun b ob hb q => (sb.2 b (fun z => hb (by simp [z]))).trans (hk b ob (fun z => hb (by simp [z])) (fun z => hb (by simp [z])) q)) hf (Nat.le_refl _) new
    refine ⟨.ref s.heap.objs.size, _, I1, rfl, ⟨_, x, rfl, I.hok.fresh (Nat.le_refl _), rfl, fun ys hy => by rw [I.tuple_inj hy hq]; exact hx⟩, ⟨⟨v, ?_⟩, hst'.1.at fun o q => (sb.2 it (Ne.symm hne)).trans q, hne⟩, fun b hb => ?_⟩
    · rw [show ((i + 1 : Nat) : Int) = (i : Int) + 1 by omega]
      exact he'
    · have hb' : b < s.heap.objs.size := by
        rcases (by simpa using hb : b = e ∨ b = it) with rfl | rfl
        · exact hel
        · exact hil
      rw [upd_ne (Nat.ne_of_lt hb')]
      exact (hf b hb).1
  done := by
    intro X hP hw hK hc i pins s σ H E I hf st hg
    subst hP hw hK
    obtain ⟨⟨old, he⟩, hit, hne⟩ := st
    obtain ⟨xs, hq, hx⟩ := hg
    obtain ⟨its, rv, p, hz⟩ := I.tuple hq
    obtain ⟨f0, f1, f2, f3, f4, f5⟩ := hf it (by simp)
    have hl := rv.length
    have pt : s.heap.IsTuple a its.toArray := p
    have hno : its.toArray[i]? = none := by
      rw [List.getElem?_toArray]
      exact List.getElem?_eq_none (by omega)
    exact wpAny_pyNext_enum_endD (drawn_out (by simp [I.ok.hd hc]) it a i its.toArray hno) he ⟨hit, pt⟩ fun h' eb => ⟨rfl, I.turned (t' := s.toks) (fun b o hb q => eb b o hb q) f0 f1 f3 f4 f5⟩
  self := fun A i s Q E st h => let ⟨⟨_, he⟩, _⟩ := st; wpAny_pyIter_enum he h
def iEnumT (K : PySem.W.Frag) (ta : TA) : TI := fun σ H R => ta σ H fun vs H1 => ∃ a xs, vs = [.ref a] ∧ SqT K H1 a xs ∧ R (Iet K a) H1
theorem pi_enumT {X : Cx} {e : Expr} {ta : TA} {p pos tpos : Pos} {elts : List Expr} {kk : Nat} (hg : Gl X "enumerate") (hm : X.mg "enumerate" = none) (ha : PA X [e] ta) (hs : starEach [e] X.env = [(false, eval e X.env)] := by rfl) :
    PI X (.Tuple elts kk tpos) (.Call (.Name "enumerate" p) [e] [] pos) (iEnumT X.K ta) := by
  refine ⟨fun pins s σ H R I h => ?_⟩
  refine Call_ (ld_blt I hg hm boot_enumerate (PyProof.Rows.callWith_type1 (thn (ha.run pos pins s σ H _ I h) fun us s1 ⟨vs, H1, I1, r1, q1⟩ => ?_) hs rfl))
  obtain ⟨a, xs, rfl, hq, q⟩ := q1
  rw [Vals.ref1 r1]
  obtain ⟨its, rv, p', hz⟩ := I1.tuple hq
  have pt : s1.heap.IsTuple a its.toArray := p'
  have hal : a < s1.heap.objs.size := by
    obtain ⟨o, ho, _⟩ := pt
    exact Heap.lt_size ho
  refine enum1_begins (begins_tuple a its.toArray) pt fun h' he hit hk => wpAny_pyIter_enum he ?_
  have I2 : Inv X pins σ H1 { s1 with heap := h' } := I1.kept (t' := s1.toks) hk
  refine ⟨s1.heap.objs.size + 1, [s1.heap.objs.size + 1, s1.heap.objs.size], _, _, H1, rfl, I2, turn_enumT a (s1.heap.objs.size + 1) s1.heap.objs.size (Nat.ne_of_gt (Nat.lt_succ_of_lt hal)) (Nat.ne_of_lt hal), ⟨⟨.none, he⟩, ⟨_, hit, rfl, rfl⟩, Nat.succ_ne_self _⟩, fun b hb => ?_, q⟩
  have hle : s1.heap.objs.size ≤ b := by
    rcases (by simpa using hb : b = s1.heap.objs.size + 1 ∨ b = s1.heap.objs.size) with z | z
    · rw [z]; exact Nat.le_add_right _ _
    · rw [z]; exact Nat.le_refl _
  exact I1.fpOk hle (I1.hok.fresh hle)
theorem enumT {X : Cx} {K : PySem.W.Frag} {elts : List Expr} {kk : Nat} {tpos p pos : Pos} {e : Expr} {ta : TA} (h : X.K = K) (hg : Gl X "enumerate") (hm : X.mg "enumerate" = none) (ha : PA X [e] ta)
    (hs : starEach [e] X.env = [(false, eval e X.env)] := by rfl) : PI X (.Tuple elts kk tpos) (.Call (.Name "enumerate" p) [e] [] pos) (iEnumT K ta) := h ▸ pi_enumT hg hm ha hs
theorem walk_enumT {K : PySem.W.Frag} {a : Addr} {xs : List V} : Walk (Iet K a) xs.length (fun H => SqT K H a xs) (YPair (fun i => some (.int (i : Nat))) (fun i => xs[i]?)) := by
  refine ⟨fun i _ hi q => ⟨xs, xs[i], q, by simp [hi]⟩, fun _ q => ⟨xs, q, Nat.le_refl _⟩, fun i H v H' _ q y => ?_⟩
  obtain ⟨T, x, h1, h2, h3, h4⟩ := y
  exact ⟨T, .int (i : Nat), x, h1, h2, h3, rfl, h4 xs q⟩
theorem ixTL {X : Cx} {K : PySem.W.Frag} (h : X.K = K) : IxR X (rIxT K) := h ▸ ix_tup
/-- numbers as ints -/
def natI (F : List Nat) : List Int := F.map fun (b : Nat) => (b : Int)
theorem natI_len (F : List Nat) : (natI F).length = F.length := List.length_map ..
theorem natI_at {F : List Nat} {i : Nat} {n : Int} (h : (natI F)[i]? = some n) : ∃ b, F[i]? = some b ∧ n = (b : Int) := by
  unfold natI at h
  rw [List.getElem?_map] at h
  cases e : F[i]? with
  | none => rw [e] at h; cases h
  | some b =>
    rw [e] at h
    exact ⟨b, rfl, (Option.some.inj h).symm⟩
theorem natI_get {F : List Nat} {i b : Nat} (h : F[i]? = some b) : (natI F)[i]? = some (b : Int) := by
  unfold natI
  rw [List.getElem?_map, h]
  rfl
theorem filt_next {α : Type} {F : List α} {g : α → Bool} {i : Nat} {b : α} (h : F[i]? = some b) : (F.take (i + 1)).filter g = (F.take i).filter g ++ (if g b = true then [b] else []) := by
  rw [List.take_add_one, h, List.filter_append]
  show _ ++ List.filter g [b] = _
  by_cases e : g b = true
  · rw [List.filter_cons, if_pos e, if_pos e]
    rfl
  · rw [List.filter_cons, if_neg e, if_neg e]
    rfl
theorem LL.put {H : Hp} {F : Addr} {us : List V} {o : HO} (e : H F = some (.lst us)) : ∀ {vs : List V} {S : List (List Int)}, LL H vs S → (∀ v ∈ vs, v ∈ us) → LL (upd H F o) vs S
  | _, _, .nil, _ => .nil
  | _, _, .cons (a := a) (r := r) h t, m => by
    refine .cons ?_ (LL.put e t fun v hv => m v (List.mem_cons_of_mem _ hv))
    rw [upd_ne fun z => ?_]
    · exact h
    · rw [z, e] at h
      have hm := m _ List.mem_cons_self
      have hr : us = r.map V.int := by
        injection h with h
        injection h
      rw [hr] at hm
      obtain ⟨x, _, q⟩ := List.mem_map.mp hm
      cases q
theorem prods01 {B : Int} : ∀ {ns ms : List Int}, (∀ n ∈ ns, 0 ≤ n ∧ n ≤ B) → (∀ m ∈ ms, 0 ≤ m ∧ m ≤ 1) → 0 ≤ (prods ns ms).sum ∧ (prods ns ms).sum ≤ B * ns.length
  | [], _, _, _ => ⟨Int.le_refl _, by show (0 : Int) ≤ B * 0; omega⟩
  | n :: ns, [], hn, _ => ⟨Int.le_refl _, by
      show (0 : Int) ≤ B * ((ns.length + 1 : Nat) : Int)
      have := hn n List.mem_cons_self
      exact Int.mul_nonneg (by omega) (by omega)⟩
  | n :: ns, m :: ms, hn, hm => by
    obtain ⟨h1, h2⟩ := prods01 (B := B) (ns := ns) (ms := ms) (fun x hx => hn x (List.mem_cons_of_mem _ hx)) (fun x hx => hm x (List.mem_cons_of_mem _ hx))
    have hn1 := hn n List.mem_cons_self
    have hm1 := hm m List.mem_cons_self
    show 0 ≤ n * m + (prods ns ms).sum ∧ n * m + (prods ns ms).sum ≤ B * ((ns.length + 1 : Nat) : Int)
    have hs : B * ((ns.length + 1 : Nat) : Int) = B * (ns.length : Int) + B := by
      rw [Int.natCast_add, Int.mul_add]
      show _ + B * 1 = _
      rw [Int.mul_one]
    rw [hs]
    rcases (show m = 0 ∨ m = 1 by omega) with rfl | rfl
    · rw [Int.mul_zero]
      omega
    · rw [Int.mul_one]
      omega
theorem light01 {ns ms : List Int} {t : Int} (hR : Rim ns) (hm : ∀ m ∈ ms, 0 ≤ m ∧ m ≤ 1) : 0 ≤ lightV ns ms t ∧ lightV ns ms t ≤ 1000000000000000000000000000000 * 40 := by
  obtain ⟨h1, h2⟩ := prods01 hR.all (rot_all (t := t) (P := fun m => 0 ≤ m ∧ m ≤ 1) hm)
  have h3 := hR.le
  refine ⟨h1, Int.le_trans h2 (Int.mul_le_mul_of_nonneg_left (by omega) (by decide))⟩
theorem ab01 {ms : List Int} (hm : ∀ m ∈ ms, 0 ≤ m ∧ m ≤ 1) : Ab 400 ms := fun m h => by
  have := hm m h
  exact Nat.lt_of_le_of_lt (m := 1) (by omega) (by decide +kernel)
theorem LL.but {t : Addr} {H H1 : Hp} (u : But t H H1) : ∀ {vs : List V} {S : List (List Int)}, LL H vs S → (∀ a, V.ref a ∈ vs → a ≠ t) → LL H1 vs S
  | _, _, .nil, _ => .nil
  | _, _, .cons h r, n => .cons (u _ _ h (n _ List.mem_cons_self)) (LL.but u r fun a ha => n a (List.mem_cons_of_mem _ ha))
theorem setOfIL {X : Cx} {K : PySem.W.Frag} {w : World} (h : X.K = K) (hw : X.w = w) (hc : X.calm = true) : CallR X (.type "set") (rSetOfI K w) := by
  subst h hw
  exact cr_setOfI hc
theorem sortedSetL {X : Cx} {w : World} (hw : X.w = w) (hc : X.calm = true) : CallR X (.builtin "sorted") (rSortedSet w) := by
  subst hw
  exact cr_sortedSet hc
end Sd

/-! ### errors of own classes as values: made, asked, read -/
namespace PySem
namespace HandSPX
open PySem.W PySem.Calls PyProof.Rows
section
variable {prog : Program} {w : World} {A : Around} {E : Value → Shared → Prop} {R : Result → Shared → Prop} {h : Heap} {g : Array GenState} {d : Drawn} {t : Nat} {os : OsState}
variable {nm q : Str} {C N : Addr} {bs bm bmB : List Value} {hdct : Bool} {sn : List Str} {sub : List Value} {ab : Bool} {col : Option Bool} {dd : Option Addr} {k0 k1 k2 k3 k5 : Option Value} {B newId initId : String} {kw : List (Str × Value)}
theorem sd_check_new (F : ExcBaseFacts B newId initId bmB) (hT : ∀ X : String, bm.contains (.type X) = bmB.contains (.type X)) {rest : List Value} {M : Model} {Q : Unit → Shared → Prop}
    (hC : h.get? C = some (excClassObj nm q C N bs bm hdct sn sub ab col dd k0 k1 k2 k3 k5 newId)) (hq : Q () ⟨h, g, d, t, os⟩) : wpAny M A (checkBuiltinCall newId ⟨.ref C :: rest, kw⟩) Q E ⟨h, g, d, t, os⟩ := by
  have hcont : (Value.ref C :: bm).contains (.type B) = true := by rw [List.contains_cons, hT, F.hasB, Bool.or_true]
  have hstar := F.noStar
  simp only [checkBuiltinCall, F.newKind, F.newSplit, F.newRow]
  repeat (first | refine wpAny_loadPart_at hC ?_ | (refine wpAny_isSubtype_exc hC ?_; rw [hcont]) | refine wpAny_staticBase_exc hC ?_ | refine wpAny_madeBy_exc hC ?_ | simp only [bne_self_eq_false, Bool.false_eq_true, if_false] | wp_step)
  exact hq
theorem sd_new (F : ExcBaseFacts B newId initId bmB) (hT : ∀ X : String, bm.contains (.type X) = bmB.contains (.type X)) {rest : List Value}
    (hC : h.get? C = some (excClassObj nm q C N bs bm hdct sn sub ab col dd k0 k1 k2 k3 k5 newId))
    (hq : R (.ok (.ret (.ref (h.objs.size + 1)))) ⟨(h.push { cls := .type "tuple", data := .seq rest.toArray }).push
      { cls := .ref C, data := .fields #[.ref h.objs.size, .none, .none, .none, .bool false, .none] }, g, d, t, os⟩) (hrest : rest.length ≤ sizeLine) :
    codeAny (model prog w) A (.builtin newId ⟨.ref C :: rest, kw⟩) R ⟨h, g, d, t, os⟩ := by
  have hends := F.ends
  have hcB : (Value.ref C :: bm).contains (.type B) = true := by rw [List.contains_cons, hT, F.hasB, Bool.or_true]
  have hcA : (Value.ref C :: bm).contains (.type "AttributeError") = false := by rw [List.contains_cons, hT, F.noAttr]; rfl
  have hcN : (Value.ref C :: bm).contains (.type "NameError") = false := by rw [List.contains_cons, hT, F.noName]; rfl
  refine codeAny_builtinAt F.entry ?_
  unfold Builtin.«BaseException.__new__»
  refine wpAt_bind ?_
  show wpAt _ _ _ (stack >>= _) _ _ _
  refine wpAt_bind (wpAt_stack fun p below => wpAt_of_wpAny ?_)
  wp_walk
  refine wpAt_of_wpAny ?_
  rw [F.owner]
  repeat (first | with_reducible refine wpAny_madeHere_exc F.canon hC ?_ | with_reducible refine wpAny_loadPart_at hC ?_ | (with_reducible refine wpAny_isSubtype_exc hC ?_; first | rw [hcB] | rw [hcA] | rw [hcN]) | wp_step)
  show R _ _
  rw [Heap.size_push]
  exact hq
theorem sd_type_call (F : ExcBaseFacts B newId initId bmB) (hT : ∀ X : String, bm.contains (.type X) = bmB.contains (.type X)) {rest : List Value} {fI : Addr} {Q : Fin → Shared → Prop}
    (hC : h.get? C = some (excClassObj nm q C N bs bm hdct sn sub ab col dd k0 k1 k2 k3 k5 newId))
    (hi : W.Looks (model prog w) h (typeLookup (.ref C) "__init__") (some (.ref fI))) (hb : ∀ self, W.Looks (model prog w) h (bindSpecial (.ref fI) self) (.ref fI, [self])) (hrest : rest.length ≤ sizeLine)
    (hq : codeAny (model prog w) A (.call (.ref fI) ⟨.ref (h.objs.size + 1) :: rest, kw⟩)
      (fun r s' => match r with | .ok (.ret v) => v = .none ∧ Q (.done (.ret (.ref (h.objs.size + 1)))) s' | .ok _ => False | .error e => E e s')
      ⟨(h.push (W.kdv_tup rest)).push (excO C h.objs.size), g, d, t, os⟩) :
    wpAny (model prog w) A (Builtin.«type.__call__» ⟨.ref C :: rest, kw⟩) Q E ⟨h, g, d, t, os⟩ := by
  repeat (first | with_reducible refine wpAny_loadPart_at hC ?_ | with_reducible refine wpAny_madeBy_exc hC ?_ | wp_step)
  refine codeAny_call_builtin_code (Code.quiet_builtin _ F.quiet) (sd_check_new F hT hC ?_)
  refine sd_new F hT hC ?_ hrest
  show wpAny _ _ _ _ _ _
  have k : ∀ b o, h.get? b = some o → ((h.push (W.kdv_tup rest)).push (excO C h.objs.size)).get? b = some o := fun b o e => Heap.get?_push_of_some _ (Heap.get?_push_of_some _ e)
  have hC₁ := k _ _ hC
  have hget : ((h.push (W.kdv_tup rest)).push (excO C h.objs.size)).get? (h.objs.size + 1) = some (excO C h.objs.size) := by heap_get
  have hcC : (Value.ref C :: bm).contains (.ref C) = true := by simp
  have i1 := hi.keeps k
  have b1 := (hb (.ref (h.objs.size + 1))).keeps k
  unfold isInstance
  repeat (first | with_reducible refine wpAny_loadPart_at hget ?_ | (with_reducible refine wpAny_isSubtype_exc hC₁ ?_; rw [hcC]) | wp_step)
  show wpAny _ _ (typeLookup (.ref C) _) _ _ _
  refine i1.at ?_
  refine wpAny_holding (wpAny_bind (b1.at ?_))
  refine wpAny_bind (wpAny_call (codeAny_mono hq fun r s' z => ?_))
  rcases r with e | (v | _ | _ | _) <;> first | exact z | exact z.elim | skip
  obtain ⟨rfl, z⟩ := z
  first
    | exact wpAny_pure (wpAny_pure z)
    | (wp_walk; exact z)
theorem sd_call (F : ExcBaseFacts B newId initId bmB) (hT : ∀ X : String, bm.contains (.type X) = bmB.contains (.type X)) {rest : List Value} {fI : Addr}
    (hC : h.get? C = some (excClassObj nm q C N bs bm hdct sn sub ab col dd k0 k1 k2 k3 k5 newId))
    (hi : W.Looks (model prog w) h (typeLookup (.ref C) "__init__") (some (.ref fI))) (hb : ∀ self, W.Looks (model prog w) h (bindSpecial (.ref fI) self) (.ref fI, [self])) (hrest : rest.length ≤ sizeLine)
    (hq : codeAny (model prog w) (A.under (.builtin "type.__call__" ⟨.ref C :: rest, kw⟩)) (.call (.ref fI) ⟨.ref (h.objs.size + 1) :: rest, kw⟩) (W.InitBack (h.objs.size + 1) R)
      ⟨(h.push (W.kdv_tup rest)).push (excO C h.objs.size), g, d, t, os⟩) :
    codeAny (model prog w) A (.call (.ref C) ⟨rest, kw⟩) R ⟨h, g, d, t, os⟩ := by
  have f1 := tc_lookup
  have f2 := tc_bind (.ref C)
  have hTy : (⟨h, g, d, t, os⟩ : Shared).TypeIs (.ref C) "type" := ⟨_, hC, rfl⟩
  refine codeAny_of_tree ?_
  show wpAny _ _ (callAny (.ref C) _) _ _ _
  repeat (any_goals (first | assumption | with_reducible refine wpAny_loadPart_at hC ?_ | wp_step))
  refine ⟨rfl, ?_⟩
  refine codeAny_call_builtin_at (Code.quiet_builtin _ (by decide +kernel)) entry_typeCall (wpAny_check_type_call_sub hC (sd_type_call F hT hC hi hb hrest ?_))
  refine codeAny_mono hq fun r s' z => ?_
  rcases r with e | (v | _ | _ | _) <;> exact z
end
end HandSPX
end PySem
namespace Sd
open PySem PySem.Spec PyProof.Rows L2
/-- an error as a value: its class and its fields -/
def ErrAt (H : Hp) (a D : Addr) (fs : List (Str × V)) : Prop := (fs = [] ∧ H a = some (ExO (.ref D) a)) ∨ ∃ dx, H a = some (exo a D (some dx)) ∧ H dx = some (exd dx fs)
section
variable {X : Cx} {pins : List (Addr × Obj)} {σ : L2.St} {H : Hp} {s : Shared} {a D : Addr} {fs : List (Str × V)}
theorem err_inst (I : Inv X pins σ H s) (e : ErrAt H a D fs) : ∃ ox od, PySem.W.InstAt s.heap a ox D od := by
  rcases e with ⟨_, e⟩ | ⟨dx, e, ed⟩
  · obtain ⟨⟨oe, vs, hget, hz, hv, _⟩, _, _⟩ := I.hok a _ e
    obtain ⟨oc, od, oda, osl⟩ := oe
    obtain ⟨h1, h2⟩ := hz
    dsimp only at h1 h2 hv
    subst h1 h2 hv
    exact ⟨_, none, hget, rfl, rfl, trivial⟩
  · obtain ⟨t1, ho⟩ := exo_at I.hok e
    obtain ⟨mA, hns, rel⟩ := exd_at I.hok ed
    obtain ⟨od, hod, _⟩ := lookIn_ns hns
    exact ⟨_, some od, ho, rfl, rfl, hod⟩
/-- isinstance(e, c) -/
def rIsX (K : PySem.W.Frag) : List V → Hp → VK → Prop := fun xs H Q => ∃ (a D : Addr) (fs : List (Str × V)) (c : V) (cv : Value) (b : Bool), xs = [.ref a, c] ∧ ErrAt H a D fs ∧ ExcC K D ∧ (∀ u, RelV c u → u = cv) ∧ PySem.W.kitOne K (.ref D) cv = some b ∧ Q (.bl b) H
theorem call_isX : CallR X (.builtin "isinstance") (rIsX X.K) := by
  intro pins s σ H xs us Q I r h
  obtain ⟨a, D, fs, c, cv, b, rfl, e, C, hcv, ek, q⟩ := h
  cases r with
  | cons rx rr =>
    cases rr with
    | cons rt rr =>
      cases rr
      cases rx
      have ec := hcv _ rt
      subst ec
      obtain ⟨ox, od, J⟩ := err_inst I e
      obtain ⟨cd, hcd, _⟩ := PySem.W.any_some C.hd
      exact PySem.W.kia_one (PySem.W.kitx_exc (ox := ox) (od := od) (by rw [hcd]; rfl) C.hg C.hk C.hs C.ha C.hn C.ht C.hm) I.kIn J ek (fun z => nomatch z) fun tk => ⟨.bl b, H, I.kept (t' := tk) fun _ _ z => z, rfl, q⟩
/-- e.f -/
def tErrF (K : PySem.W.Frag) (f : Str) (te : TE) : TE := fun σ H Q => te σ H fun x H1 => ∃ a D fs v, x = .ref a ∧ ErrAt H1 a D fs ∧ XfC K D ∧ PySem.W.findIn K (.ref D) f = some none ∧ fs.lookup f = some v ∧ Q v H1
theorem pe_errF {e : Expr} {te : TE} {pos : Pos} {n : Str} (he : PE X e te) (hb : attributeBase e n X.env (eval e X.env) = eval e X.env := by rfl) : PE X (.Attribute e n pos) (tErrF X.K n te) := by
  refine ⟨fun pins s σ H Q I h => ?_⟩
  refine attr_of hb (thn (he.run pins s σ H _ I h) fun u s1 hh => ?_)
  obtain ⟨x, H1, I1, rx, a, D, fs, v, ex, ea, T, hno, l, q⟩ := hh
  subst ex
  obtain rfl : u = Value.ref a := rx
  rcases ea with ⟨e0, _⟩ | ⟨dd, ea, ed⟩
  · rw [e0] at l
    cases l
  · obtain ⟨t1, ho⟩ := exo_at I1.hok ea
    obtain ⟨mA, hns, hr⟩ := exd_at I1.hok ed
    obtain ⟨od, hod, hl⟩ := lookIn_ns hns
    obtain ⟨u, hu, ru⟩ := RelO.some_of (v := v) (o := mA n) (by rw [← l]; exact hr n)
    have J : PySem.W.InstAt s1.heap a _ D (some od) := ⟨ho, rfl, rfl, hod⟩
    exact HandSPX.exc_get I1.kIn J T.ga T.gg T.exC (PySem.W.findObj_own T.hdC hno rfl (by rw [hl, hu])) (handed_of ru) ⟨v, H1, I1.tok _, ru, q⟩
end
/-- C(e, ..) or C(k = e) by an own __init__, as a value -/
def tMkV (C : Addr) (sp : Sp) (ta : TA) : TE := fun σ H Q => ta σ H fun vs H1 => vs.length = 1 ∧ ∀ a, H1 a = none → sp (.ref a :: vs) (upd H1 a (exo a C none)) (fun v H2 => v = .non ∧ Q (.ref a) H2) (fun _ _ _ => False)
section
variable {X : Cx} {CX : CXT} {x : Str} {C fI : Addr} {k : Nat} {fd : FuncData} {ps : List Str} {sp : Sp} {e : Expr} {es : List Expr} {p pos : Pos} {ta : TA}
theorem run_mkV {pins : List (Addr × Obj)} {σ : L2.St} {H1 : Hp} {s1 : Shared} {us us2 : List Value} {kw : List (Str × Value)} {vs : List V} {Q : VK} (T : OexC X.K C) (iC : PySem.W.findIn X.K (.ref C) "__init__" = some (some (.ref fI))) (tI : PySem.W.typeIn X.K (.ref fI) = some (.type "function"))
    (F1 : FnOk X.prog X.w X.K X.mg X.base CX k fI fd ps sp) (hr : Room (k + 1) X.A) (hx : Passes CX X (fun _ _ _ => False)) (hl1 : us.length ≤ 1000)
    (hb : ∀ (s : Shared) (a : Addr), X.K.In s.heap → BindsTo s fd ⟨Value.ref a :: us, kw⟩ (ps.zip (Value.ref a :: us2))) (r1 : Vals vs us2) (I1 : Inv X pins σ H1 s1)
    (q1 : ∀ a, H1 a = none → sp (.ref a :: vs) (upd H1 a (exo a C none)) (fun v H2 => v = .non ∧ Q (.ref a) H2) (fun _ _ _ => False)) :
    wpAny (model X.prog X.w) X.A (call (.ref C) us kw) (EP X pins σ Q) X.xe s1 := by
  obtain ⟨nm, q, N, bs, bm, sn, sub, ab, col, dd, k0, k1, k2, k3, k5, hC, hbm⟩ := T.cls
  obtain ⟨hp, g, dr, tk, os⟩ := s1
  have hsz : hp.objs.size ≤ hp.objs.size + 1 := Nat.le_succ _
  have hn : H1 (hp.objs.size + 1) = none := I1.hok.fresh hsz
  have hq := q1 (hp.objs.size + 1) hn
  have kk : ∀ b o, hp.get? b = some o → ((hp.push (PySem.W.kdv_tup us)).push (PySem.HandSPX.excO C hp.objs.size)).get? b = some o := fun b o e => Heap.get?_push_of_some _ (Heap.get?_push_of_some _ e)
  have hget : ((hp.push (PySem.W.kdv_tup us)).push (PySem.HandSPX.excO C hp.objs.size)).get? (hp.objs.size + 1) = some (PySem.HandSPX.excO C hp.objs.size) := by heap_get
  have I2 : Inv X pins σ (upd H1 (hp.objs.size + 1) (exo (hp.objs.size + 1) C none)) ⟨(hp.push (PySem.W.kdv_tup us)).push (PySem.HandSPX.excO C hp.objs.size), g, dr, tk, os⟩ :=
    I1.laid (t' := tk) (a := hp.objs.size + 1) (o := exo (hp.objs.size + 1) C none) (h' := (hp.push (PySem.W.kdv_tup us)).push (PySem.HandSPX.excO C hp.objs.size)) kk hsz (exo_ok hget)
  have r2 : Vals (V.ref (hp.objs.size + 1) :: vs) (Value.ref (hp.objs.size + 1) :: us2) := .cons rfl r1
  have hus : us.length ≤ sizeLine := by
    rw [sizeLine_eq]
    omega
  refine wpAny_call (PySem.HandSPX.sd_call F.excBase_ValueError (fun Y => PySem.HandSPX.refsVE_contains Y bm hbm) (I1.kIn _ _ hC) (PySem.W.looks_findIn I1.kIn iC) (fun self => PySem.W.bind_fn I1.kIn self tI) hus
    (codeAny_mono (F1.run _ X.stack _ _ ⟨Value.ref (hp.objs.size + 1) :: us, kw⟩ (Value.ref (hp.objs.size + 1) :: us2) _ _ (fun _ _ _ => False) (hr.make C us kw) (I2.env0.make C us kw) (hb _ _ I2.kIn) r2 hq) fun r s' hq' => ?_))
  cases r with
  | error er => exact hx pins σ _ _ er s' I2 hq'
  | ok fl =>
    cases fl with
    | ret u =>
      obtain ⟨v, H', I3, rv, ev, q3⟩ := I2.after hq'
      subst ev
      exact ⟨rv, ⟨V.ref (hp.objs.size + 1), H', I3, rfl, q3⟩⟩
    | next => exact False.elim hq'
    | brk => exact False.elim hq'
    | cont => exact False.elim hq'
/-- C(e) -/
theorem pe_mkV (T : OexC X.K C) (iC : PySem.W.findIn X.K (.ref C) "__init__" = some (some (.ref fI))) (tI : PySem.W.typeIn X.K (.ref fI) = some (.type "function"))
    (F1 : FnOk X.prog X.w X.K X.mg X.base CX k fI fd ps sp) (hr : Room (k + 1) X.A) (hb : Binds X.K fd ps []) (hx : Passes CX X (fun _ _ _ => False)) (hg : Gl X x) (hm : X.mg x = some (.ref C)) (hp2 : ps.length = 2) (ha : PA X (e :: es) ta)
    (hdb : (x == ("__debug__" : Str)) = false := by decide) (he : starEach (e :: es) X.env = (false, eval e X.env) :: starEach es X.env := by rfl) (hpl : (backTo pos (starEach es X.env)).any (·.1) = false := by rfl) :
    PE X (.Call (.Name x p) (e :: es) [] pos) (tMkV C sp ta) := by
  refine ⟨fun pins s σ H Q I h => ?_⟩
  refine wpAny_Call_Name_kw (ld_glob I hg hm ?_ hdb)
  refine PySem.W.callWith_K (h₀ := X.base) I.ok.mod.kin T.kC (thn (ha.run pos pins s σ H _ I h) fun us s1 ⟨vs, H1, I1, r1, hz, q1⟩ => ⟨I1.kIn, ?_⟩) he hpl
  have hu1 : us.length = 1 := by
    rw [← Paired.length r1]
    exact hz
  show wpAny _ _ (call (.ref C) us) _ _ _
  exact run_mkV (us := us) (us2 := us) T iC tI F1 hr hx (by omega) (fun s a Y => by
    have z := hb s (Value.ref a :: us) Y (by rw [List.append_nil, List.length_cons, hu1, hp2])
    rw [List.append_nil] at z
    exact z) r1 I1 q1
/-- C(k = e) -/
theorem pe_mkVW {ks : List Str} {kws : List Keyword} {g : List Value → List Value → List Value} {gV : List V → List V → List V} (T : OexC X.K C) (iC : PySem.W.findIn X.K (.ref C) "__init__" = some (some (.ref fI))) (tI : PySem.W.typeIn X.K (.ref fI) = some (.type "function"))
    (F1 : FnOk X.prog X.w X.K X.mg X.base CX k fI fd ps sp) (hr : Room (k + 1) X.A) (hb : KBn X.K fd ps 1 ks g gV) (hgg : ∀ a u, g [a] [u] = [a, u]) (hk1 : ks.length = 1) (hx : Passes CX X (fun _ _ _ => False)) (hg : Gl X x) (hm : X.mg x = some (.ref C)) (hkw : PK X kws ta)
    (hall : (backToKw pos (keywordEach kws X.env)).all (·.1.isSome) = true := by rfl) (hks : (backToKw pos (keywordEach kws X.env)).filterMap (·.1) = ks := by rfl) (hdb : (x == ("__debug__" : Str)) = false := by decide)
    (hpl : ((backTo pos (starEach [] X.env)).any (·.1) || (backToKw pos (keywordEach kws X.env)).any (·.1.isNone)) = false := by rfl) :
    PE X (.Call (.Name x p) [] kws pos) (tMkV C sp ta) := by
  refine ⟨fun pins s σ H Q I h => ?_⟩
  refine wpAny_Call_Name_kw (ld_glob I hg hm ?_ hdb)
  refine PySem.W.callWith_KW0 (h₀ := X.base) I.ok.mod.kin T.kC hall ?_ hpl
  refine thn (hkw.run pos pins s σ H _ I h) fun ws s2 ⟨zs, H2, I2, rz, l1, q2⟩ => ⟨I2.kIn, ?_⟩
  rw [hks]
  have hw1 : ws.length = 1 := by
    rw [← Paired.length rz]
    exact l1
  refine run_mkV (us := []) (us2 := ws) (kw := ks.zip ws) T iC tI F1 hr hx (Nat.zero_le _) (fun s a Y => ?_) rz I2 q2
  match ws, hw1 with
  | [u], _ =>
    have z := hb.to s [Value.ref a] [u] Y rfl (by rw [hk1]; rfl)
    rw [hgg] at z
    exact z
end

/-- {x}: None, a text or an int, as a text -/
def tFmtN (te : TE) : TE := fun σ H Q => te σ H fun x H1 => (x = .non ∧ Q (.str "None") H1) ∨ ∃ i : Int, x = .int i ∧ i.natAbs.log2 < 1920 ∧ Q (.str (toString i)) H1
theorem pe_fmtN {X : Cx} {e : Expr} {te : TE} {pos : Pos} (he : PE X e te) : PE X (.FormattedValue e (-1) none pos) (tFmtN te) := by
  refine ⟨fun pins s σ H Q I h => ?_⟩
  refine wpAny_FormattedValue_plain (thn (he.run pins s σ H _ I h) fun v s1 hv => ?_)
  obtain ⟨x, H1, I1, r1, q⟩ := hv
  rcases q with ⟨rfl, q⟩ | ⟨i, rfl, hz, q⟩
  · obtain rfl : v = Value.none := r1
    exact wpAny_formatField_none ⟨.str "None", H1, I1.tok _, ⟨_, rfl⟩, q⟩
  · obtain ⟨t, rfl⟩ := r1
    exact wpAny_formatField_int hz ⟨.str (toString i), H1, I1.tok _, ⟨_, rfl⟩, q⟩
section
variable {X : Cx} {o e : Expr} {es : List Expr} {ta : TA} {p1 p2 pos : Pos}
/-- D.__init__(self, ..), D an own class over ValueError without an own __init__ -/
theorem pe_dinit {D : Addr} {nm : Str} {mc : Value} {pl : Sem Bool} (hg : Gl X nm) (hm : X.mg nm = some (.ref D)) (r : ClX.CRead X.K D mc) (vV : PySem.W.findCls X.K (.ref D) mc "__init__" = some (.val (.builtin "ValueError.__init__"))) (ha : PA X (e :: es) ta)
    (hc : eval (.Call (.Attribute (.Name nm p1) "__init__" p2) (e :: es) [] pos) X.env = (do
      let ov ← eval (.Name nm p1) X.env
      standAt p2.atName
      let (f, first) ← holding [ov] (getMethod ov "__init__" pl)
      callWith pos f first (backTo pos (starEach (e :: es) X.env)) (backToKw pos (keywordEach [] X.env))) := by rfl)
    (hdb : (nm == ("__debug__" : Str)) = false := by decide)
    (he : starEach (e :: es) X.env = (false, eval e X.env) :: starEach es X.env := by rfl) (hpl : (backTo pos (starEach es X.env)).any (·.1) = false := by rfl) :
    PE X (.Call (.Attribute (.Name nm p1) "__init__" p2) (e :: es) [] pos) (tVeI X.K ta) := by
  refine ⟨fun pins s σ H Q I h => ?_⟩
  refine PySem.W.methodCall_KW (ld_glob I hg hm ?_ hdb) hc
  refine PySem.W.method_cls I.kIn r.ga (PySem.W.cls_value I.kIn r.rd vV (by decide +kernel) ?_)
  show wpAny _ _ (callWith pos (Value.builtin "ValueError.__init__") [] (backTo pos (starEach (e :: es) X.env)) []) _ _ _
  refine PyProof.Rows.callWith_method1 (thn (ha.run pos pins _ σ H _ (I.tok _) h) fun us s1 ⟨vs, H1, I1, r1, a, C, ws, ev, hl, T, ea, q⟩ => ?_) he hpl
  subst ev
  cases r1 with
  | @cons _ u0 _ ur ra rw' =>
    obtain rfl : u0 = Value.ref a := ra
    have hlen : ur.length ≤ sizeLine := by
      rw [← Paired.length rw', sizeLine_eq]
      omega
    exact oinit_ok T I1 ea hlen fun s' J => ⟨.non, H1, J, rfl, q⟩
end
/-! ### what the text must say of own classes of errors -/
/-- that C hangs on ValueError, keeps a dict, and is made by ValueError.__new__ -/
def sdOex (K : PySem.W.Frag) (C : Addr) : Bool := match K.lookup C with
  | some ⟨.type "type", _, .cls cd, sl⟩ => (match cd.mro, sl.toList with
    | .ref C' :: bm, [_, _, _, _, some (.builtin n), _] => C' == C && n == "ValueError.__new__" && !cd.hasDel && cd.hasDict && PySem.HandSPX.refsVE bm
    | _, _ => false)
  | _ => false
theorem oex_of {K : PySem.W.Frag} {C : Addr} (q : sdOex K C = true) (sa : PySem.W.findIn K (.ref C) "__setattr__" = some (some (.builtin "object.__setattr__"))) (exC : PySem.W.subIn K (.ref C) (.type "BaseException") = some true)
    (tyC : PySem.W.typeIn K (.ref C) = some (.type "type")) (kC : PySem.W.keepIn K (.ref C) = true) : OexC K C := by
  refine ⟨?_, sa, exC, tyC, kC⟩
  unfold sdOex at q
  split at q
  · rename_i dd cd sl ho
    split at q
    · rename_i C' bm k0 k1 k2 k3 n k5 hm hs
      simp only [Bool.and_eq_true, beq_iff_eq, Bool.not_eq_true'] at q
      obtain ⟨⟨⟨⟨rfl, rfl⟩, hdel⟩, hd⟩, hr⟩ := q
      obtain ⟨nm, bs, mro, ns, qn, hd', sn, sub, ab, col, del⟩ := cd
      dsimp only at hm hdel hd
      subst hm hdel hd
      have hsl : sl = #[k0, k1, k2, k3, some (.builtin "ValueError.__new__"), k5] := by
        obtain ⟨l⟩ := sl
        simp only at hs
        rw [hs]
      subst hsl
      exact ⟨_, _, _, _, _, _, _, _, _, _, _, _, _, _, _, ho, hr⟩
    · cases q
  · cases q
/-- what is asked of each of them -/
structure ErrC (K : PySem.W.Frag) (C : Addr) : Prop where
  exc : ExcC K C
  xf : XfC K C
  kp : PySem.W.keepIn K (.ref C) = true
theorem errC_of {K : PySem.W.Frag} {D : Addr} (hg : PySem.W.findIn K (.ref D) "__getattribute__" = some (some (.builtin "BaseException.__getattribute__"))) (hk : PySem.W.findIn K (.ref D) "__getattr__" = some none) (hs : PySem.W.subIn K (.ref D) (.type "BaseException") = some true)
    (hd : PySem.W.hasDictIn K D = true) (ha : PySem.W.findIn K (.ref D) "__class__" = some (some (.builtin "object.__class__"))) (hn : PySem.W.specialIn K (.builtin "object.__class__") "__get__" = some (some (.builtin "getset_descriptor.__get__")))
    (ht : PySem.W.takesIn K (.builtin "object.__class__") = some true) (hm : PySem.W.mroIn K D (.type "object") = some true) (kp : PySem.W.keepIn K (.ref D) = true) : ErrC K D :=
  ⟨⟨hg, hk, hs, hd, ha, hn, ht, hm⟩, ⟨hg, hk, hs, hd⟩, kp⟩
/-- isinstance(an instance of D, c) for each c -/
def Kits (K : PySem.W.Frag) (D : Addr) (cs : List Addr) (bs : List Bool) : Prop := cs.map (fun c => PySem.W.kitOne K (.ref D) (.ref c)) = bs.map some
theorem Kits.at {K : PySem.W.Frag} {D : Addr} {cs : List Addr} {bs : List Bool} (h : Kits K D cs bs) {i : Nat} {c : Addr} {b : Bool} (hc : cs[i]? = some c) (hb : bs[i]? = some b) : PySem.W.kitOne K (.ref D) (.ref c) = some b := by
  have e := congrArg (fun l => l[i]?) h
  (try dsimp only at e)
  rw [List.getElem?_map, List.getElem?_map, hc, hb] at e
  exact Option.some.inj e
theorem ErrAt.up {H H' : Hp} {a D : Addr} {fs : List (Str × V)} (e : ErrAt H a D fs) (s : Same H H') : ErrAt H' a D fs := by
  rcases e with ⟨e0, e⟩ | ⟨dx, e, ed⟩
  · exact .inl ⟨e0, s _ _ e⟩
  · exact .inr ⟨dx, s _ _ e, s _ _ ed⟩
theorem ErrAt.but {T : Addr} {c : Int} {H H' : Hp} {a D : Addr} {fs : List (Str × V)} (e : ErrAt H a D fs) (s : But T H H') (k : Stk H T c) : ErrAt H' a D fs := by
  obtain ⟨x, y, z', hT, _⟩ := k
  have ne : ∀ {b : Addr} {o : HO}, H b = some o → o ≠ .lst [.int x, .int y, .int z'] → b ≠ T := fun {b o} h n z => by
    rw [z, hT] at h
    exact n (Option.some.inj h).symm
  rcases e with ⟨e0, e⟩ | ⟨dx, e, ed⟩
  · exact .inl ⟨e0, s _ _ e (ne e fun z => by unfold ExO at z; cases z)⟩
  · exact .inr ⟨dx, s _ _ e (ne e fun z => by unfold exo at z; cases z), s _ _ ed (ne ed fun z => by unfold exd at z; cases z)⟩
theorem errFL {X : Cx} {K : PySem.W.Frag} {e : Expr} {te : TE} {pos : Pos} {n : Str} (h : X.K = K) (he : PE X e te) (hb : attributeBase e n X.env (eval e X.env) = eval e X.env := by rfl) : PE X (.Attribute e n pos) (tErrF K n te) := h ▸ pe_errF he hb
theorem isXL {X : Cx} {K : PySem.W.Frag} (h : X.K = K) : CallR X (.builtin "isinstance") (rIsX K) := h ▸ call_isX
end Sd

/-! ### lists gone over, tuples unpacked, lists comprehended while an error is handled -/
namespace HotX
open PySem PySem.Spec PyProof.Rows
section
variable {prog : Program} {w : World} {A : Around} {E : Value → Shared → Prop} {s : Shared}
theorem sd_list_end {it l x1 : Addr} {i : Nat} {items} {Q : Option Value → Shared → Prop} (hot : HotAt A x1 s.heap) (hne : x1 ≠ it)
    (hit : s.heap.IsListIter it l i) (hl : s.heap.IsList l items) (hx : items[i]? = none)
    (hQ : ∀ h', Heap.ExtBut it s.heap h' → Q none { s with heap := h' }) : wpAny (model prog w) A (pyNext (.ref it)) Q E s := by
  obtain ⟨o, ho, hc, hd⟩ := id hit
  obtain ⟨ol, hol, _, nl, hdl⟩ := hl
  obtain ⟨hh, o1, vs1, h1, d1, c1⟩ := hot
  unfold pyNext
  refine wpAny_bind (wpAny_attempt (wpAny_callSpecial?_slot (name := Str.ofString "__next__") hit.typeIs slot_listiter_next
    (wpAny_call_entry slot_listiter_next hit.typeIs entry_listiter_next ?_ (args_listiter_next _))))
  show wpAny _ _ (field (.ref it) 0 >>= _) _ _ s
  refine wpAny_bind (wpAny_field ho hd (x := .ref l) rfl ?_)
  show wpAny _ _ (if (Value.ref l == Value.none) = true then _ else _) _ _ s
  rw [if_neg (show ¬ ((Value.ref l == Value.none) = true) from Bool.false_ne_true)]
  show wpAny _ _ (field (.ref it) 1 >>= _) _ _ s
  refine wpAny_bind (wpAny_field ho hd (x := .int i 0) rfl ?_)
  show wpAny _ _ (seqItems? (.ref l) >>= _) _ _ s
  refine wpAny_bind (wpAny_seqItems hol hdl ?_)
  simp only [Int.toNat_natCast, hx]
  refine wpAny_bind (wpAny_rule (wpAny_bind (wpAny_setField ho hd (by simp) ?_)))
  show wpAny _ _ (newExc (.type "StopIteration") [] >>= _) _ _ _
  refine wpAny_bind ?_
  simp only [newExc, newTuple]
  refine wpAny_bind (wpAny_newObj_type ?_ (by size_fits))
  refine wpAny_bind (m := firstArgMember _ _) (wpAny_of_eq (a := Value.none) (by first | rfl | (simp only [firstArgMember]; rfl)) ?_)
  refine wpAny_newObj_type ?_ (by size_fits)
  generalize hu : s.heap.update it _ = hU
  have k0 : ∀ b o, b ≠ it → s.heap.get? b = some o → hU.get? b = some o := fun b o hb e => by
    rw [← hu, Heap.get?_update_other _ _ (Ne.symm hb)]
    exact e
  refine raiseNew_hot ⟨hh, o1, vs1, Heap.get?_push_of_some _ (Heap.get?_push_of_some _ (k0 _ _ hne h1)), d1, c1⟩ (Nat.ne_of_lt (Heap.lt_size (Heap.get?_push_of_some _ (k0 _ _ hne h1)))) (Heap.get?_push_size _ rfl) rfl (by first | (simp; done) | (simp; omega) | (simp only [Array.size_append]; simp; omega)) ?_
  refine wpAny_bind (wpAny_isInstance (T := "StopIteration") (b := true) ⟨_, Heap.get?_update_self _ (Heap.get?_push_size _ rfl) rfl, rfl⟩ isSubtype_stop ?_)
  refine wpAny_pure (hQ _ fun b o hb e => ?_)
  have e1 := Heap.get?_push_of_some { cls := .type "tuple", data := .seq ([] : List Value).toArray } (k0 b o hb e)
  rw [Heap.get?_update_other _ _ (Nat.ne_of_gt (Heap.lt_size (Heap.get?_push_of_some _ (k0 b o hb e))))]
  exact Heap.get?_push_of_some _ (Heap.get?_push_of_some _ (k0 b o hb e))
theorem sd_tup_end {it t x1 : Addr} {i : Nat} {items} {Q : Option Value → Shared → Prop} (hot : HotAt A x1 s.heap) (hne : x1 ≠ it)
    (hit : IsTupIter s.heap it t i) (ht : IsTup s.heap t items) (hx : items[i]? = none)
    (hQ : ∀ h', Heap.ExtBut it s.heap h' → Q none { s with heap := h' }) : wpAny (model prog w) A (pyNext (.ref it)) Q E s := by
  obtain ⟨o, ho, hc, hd⟩ := id hit
  obtain ⟨ol, hol, _, nl, hdl⟩ := ht
  obtain ⟨hh, o1, vs1, h1, d1, c1⟩ := hot
  unfold pyNext
  refine wpAny_bind (wpAny_attempt (wpAny_callSpecial?_slot (name := Str.ofString "__next__") hit.typeIs F.slot_tuple_iterator_next
    (wpAny_call_entry F.slot_tuple_iterator_next hit.typeIs F.entry_tuple_iterator_next ?_ (F.args_tuple_iterator_next_1 _))))
  show wpAny _ _ (field (.ref it) 0 >>= _) _ _ s
  refine wpAny_bind (wpAny_field ho hd (x := .ref t) rfl ?_)
  show wpAny _ _ (if (Value.ref t == Value.none) = true then _ else _) _ _ s
  rw [if_neg (show ¬ ((Value.ref t == Value.none) = true) from Bool.false_ne_true)]
  show wpAny _ _ (field (.ref it) 1 >>= _) _ _ s
  refine wpAny_bind (wpAny_field ho hd (x := .int i 0) rfl ?_)
  show wpAny _ _ (seqItems? (.ref t) >>= _) _ _ s
  refine wpAny_bind (wpAny_seqItems hol hdl ?_)
  simp only [Int.toNat_natCast, hx]
  refine wpAny_bind (wpAny_rule (wpAny_bind (wpAny_setField ho hd (by simp) ?_)))
  show wpAny _ _ (newExc (.type "StopIteration") [] >>= _) _ _ _
  refine wpAny_bind ?_
  simp only [newExc, newTuple]
  refine wpAny_bind (wpAny_newObj_type ?_ (by size_fits))
  refine wpAny_bind (m := firstArgMember _ _) (wpAny_of_eq (a := Value.none) (by first | rfl | (simp only [firstArgMember]; rfl)) ?_)
  refine wpAny_newObj_type ?_ (by size_fits)
  generalize hu : s.heap.update it _ = hU
  have k0 : ∀ b o, b ≠ it → s.heap.get? b = some o → hU.get? b = some o := fun b o hb e => by
    rw [← hu, Heap.get?_update_other _ _ (Ne.symm hb)]
    exact e
  have k2 := fun b o hb e => Heap.get?_push_of_some { cls := .type "tuple", data := .seq ([] : List Value).toArray } (k0 b o hb e)
  refine raiseNew_hot ⟨hh, o1, vs1, Heap.get?_push_of_some _ (k2 _ _ hne h1), d1, c1⟩ (Nat.ne_of_lt (Heap.lt_size (k2 _ _ hne h1))) (Heap.get?_push_size _ rfl) rfl (by first | (simp; done) | (simp; omega) | (simp only [Array.size_append]; simp; omega)) ?_
  refine wpAny_bind (wpAny_isInstance (T := "StopIteration") (b := true) ⟨_, Heap.get?_update_self _ (Heap.get?_push_size _ rfl) rfl, rfl⟩ isSubtype_stop ?_)
  refine wpAny_pure (hQ _ fun b o hb e => ?_)
  rw [Heap.get?_update_other _ _ (Nat.ne_of_gt (Heap.lt_size (k2 b o hb e)))]
  exact Heap.get?_push_of_some _ (k2 b o hb e)
/-- (..) = t, while an error is handled -/
theorem sd_unpack {env : Env} {elts : List Expr} {k : Nat} {pos : Pos} {t x1 : Addr} {items : Array Value} {Q : Unit → Shared → Prop} (hot : HotAt A x1 s.heap) (ht : IsTup s.heap t items)
    (hn : (assignEach elts env).length = items.size) (hstar : (assignEach elts env).findIdx? (·.1) = none)
    (h : ∀ h', Heap.ExtBut s.heap.objs.size s.heap h' → wpAny (model prog w) A (assignInOrder ((assignEach elts env).map (·.2)) items.toList) Q E { s with heap := h' }) :
    wpAny (model prog w) A (assign (.Tuple elts k pos) env (.ref t)) Q E s := by
  have lt : t ≠ s.heap.objs.size := by
    obtain ⟨o, ho, _⟩ := ht
    exact Nat.ne_of_lt (Heap.lt_size ho)
  rw [assign_Tuple]
  refine wpAny_bind (wpAny_standAt ?_)
  unfold unpack
  rw [hn, hstar]
  refine wpAny_bind (wpAny_holding ?_)
  unfold unpackItems
  refine wpAny_bind ?_
  unfold notIterableAtAll
  refine wpAny_bind (wpAny_specialOf ht.typeIs F.slot_tuple_iter.lookup ?_)
  refine wpAny_pure ?_
  simp only [Bool.false_eq_true, if_false]
  refine wpAny_bind (wpAny_holding (iter_tuple ht ?_))
  refine wpAny_bind (wpAny_holding (draw_tuple lt items.size 0 _ _ ⟨_, Heap.get?_push_size _ rfl, rfl, rfl⟩ (ht.push _) (by omega) fun h₁ hit₁ hs₁ => ?_))
  have all : List.take items.size (List.drop 0 items.toList) = items.toList := by
    rw [List.drop_zero]
    exact List.take_of_length_le (by simp)
  rw [all, if_neg (by simp)]
  obtain ⟨hh, o1, vs1, e1, d1, c1⟩ := hot
  have hot₁ : HotAt A x1 h₁ := ⟨hh, o1, vs1, hs₁.extBut _ _ (Nat.ne_of_lt (Heap.lt_size e1)) (Heap.get?_push_of_some _ e1), d1, c1⟩
  refine wpAny_bind (wpAny_holding (sd_tup_end hot₁ (Nat.ne_of_lt (Heap.lt_size e1)) hit₁ ((ht.push _).extBut hs₁.extBut lt) (by simp) fun h₂ he₂ => ?_))
  simp only [Option.isSome_none, Bool.false_eq_true, if_false]
  exact wpAny_pure (h h₂ fun b o hb e => he₂ b o hb (hs₁.extBut b o hb (Heap.get?_push_of_some _ e)))
end
end HotX
namespace Sd
open PySem PySem.Spec PyProof.Rows L2 L2H HotX
abbrev St' := L2.St
/-- wherever what the context says holds, the handled error stands, its own context None -/
def HotW (X : Cx) : Prop := ∀ (pins : List (Addr × Obj)) (σ : L2.St) (H : Hp) (s : Shared), L2.Inv X pins σ H s → ∃ x1, HotAt X.A x1 s.heap
theorem hotW_pn {X : Cx} (c : HotC X) : HotW X := fun _ _ _ _ I => c.at I
theorem hotW_blk {X : Cx} {pins : List (Addr × Obj)} {σ : L2.St} {H : Hp} {s : Shared} {scope : Scope} {ce : Env} {fp : List Addr} (c : HotC X) (I : L2.Inv X pins σ H s) (hfp : ∀ b ∈ fp, FpOk X pins H b) : HotW (X.blk s H scope ce fp) := fun _ _ _ s' J => by
  obtain ⟨p, ⟨hh, v1, e1, c1⟩, hp⟩ := c
  have P := I.pin p (List.mem_append_left _ hp)
  have n1 : p.1 ∉ (X.blk s H scope ce fp).fs := fun hm => (List.mem_cons.mp (I.stkSub p.1 hm)).elim P.2.2.1 P.2.2.2.1
  have n2 : p.1 ∉ (X.blk s H scope ce fp).ex := fun hm => (hfp p.1 hm).2.2.2.2.2 p (List.mem_append_left _ hp) rfl
  exact ⟨p.1, hh, p.2, v1, J.base.keep p.1 p.2 P.1 P.2.1 n1 n2, e1, c1⟩
section
variable {X : Cx}
/-- a, b = a tuple -/
theorem pg_tupZ {K : PySem.W.Frag} {es : List Expr} {k : Nat} {t : TGs} {n : Nat} {pos : Pos} (hK : X.K = K) (hz : HotW X) (h : PGs X es t)
    (hn : (assignEach es X.env).length = n := by rfl) (hst : (assignEach es X.env).findIdx? (·.1) = none := by rfl) : PG X (.Tuple es k pos) (gTup K n t) := by
  subst hK
  refine ⟨fun pins s σ H v u Q I r ⟨a, xs, e1, hq, hl, hw⟩ => ?_⟩
  subst e1
  cases r
  obtain ⟨its, rv, ht, _⟩ := I.tuple hq
  obtain ⟨x1, hot⟩ := hz pins σ H s I
  refine sd_unpack hot ht (by simp [hn, ← hl, rv.length]) hst fun h' hx => ?_
  exact h.run pins _ σ H xs _ Q (I.kept (t' := s.toks) fun b o e => hx b o (Nat.ne_of_lt (Heap.lt_size e)) e) (by simpa using rv) hw
end
/-- turns of an iterator while an error is handled -/
structure TurnZ (P : Program) (w : World) (K : PySem.W.Frag) (tg : Expr) (J : It) (fp : List Addr) (it : Addr) (tn : Nat → Heap → Prop) : Prop where
  obj : ∀ i h, tn i h → ∀ b ∈ fp, ∃ o, h.get? b = some o ∧ ∀ v, o.data ≠ .cell v
  keep : ∀ i h h', tn i h → (∀ b ∈ fp, ∀ o, h.get? b = some o → h'.get? b = some o) → tn i h'
  item : ∀ (X : Cx), X.prog = P → X.w = w → X.K = K → ∀ (i : Nat) (pins : List (Addr × Obj)) (s : Shared) (σ : L2.St) (H : Hp) (E : Value → Shared → Prop), L2.Inv X pins σ H s → (∀ b ∈ fp, FpOk X pins H b) → tn i s.heap → J.go i H →
    wpAny (model P w) X.A (pyNext (.ref it)) (fun r s1 => ∃ u, r = some u ∧
      wpAny (model P w) X.A (letOwnedTupleGo tg (.ref it) u) (fun _ s2 => ∃ x H', L2.Inv X pins σ H' s2 ∧ RelV x u ∧ J.yld i H x H' ∧ tn (i + 1) s2.heap ∧ ∀ b ∈ fp, H' b = none) E s1) E s
  done : ∀ (X : Cx), X.prog = P → X.w = w → X.K = K → ∀ (i : Nat) (pins : List (Addr × Obj)) (s : Shared) (σ : L2.St) (H : Hp) (E : Value → Shared → Prop) (x1 : Addr), HotAt X.A x1 s.heap → x1 ∉ fp → L2.Inv X pins σ H s → (∀ b ∈ fp, FpOk X pins H b) → tn i s.heap → J.stop i H →
    wpAny (model P w) X.A (pyNext (.ref it)) (fun r s1 => r = none ∧ L2.Inv X pins σ H s1) E s
  self : ∀ (A : Around) (i : Nat) (s : Shared) (Q : Value → Shared → Prop) (E : Value → Shared → Prop), tn i s.heap → Q (.ref it) s → wpAny (model P w) A (pyIter (.ref it)) Q E s
theorem turn_listZ {P : Program} {w : World} {K : PySem.W.Frag} {tg : Expr} (a it : Addr) : TurnZ P w K tg (Itl K a) [it] it (fun i h => h.IsListIter it a i) where
  obj := fun i h st b hb => by
    rw [List.mem_singleton.mp hb]
    obtain ⟨o, e, _, d⟩ := st
    exact ⟨o, e, fun v z => by rw [d] at z; cases z⟩
  keep := fun i h h' st k => st.at fun o e => k it (List.mem_singleton_self _) o e
  item := by
    intro X hP hw hK i pins s σ H E I hf st ⟨xs, x, hq, hx⟩
    subst hP hw hK
    obtain ⟨its, rv, p, _⟩ := I.list hq
    obtain ⟨u, hu, ru⟩ := rv.get hx
    obtain ⟨f0, f1, f2, f3, f4, f5⟩ := hf it (List.mem_singleton_self _)
    refine wpAny_pyNext_list_item st p.isList (x := u) (by simpa using hu) fun h' st' sb => ?_
    have I1 : L2.Inv X pins σ H { s with heap := h' } := I.turned (t' := s.toks) (fun b o hb e => (sb.2 b hb).trans e) f0 f1 f3 f4 f5
    obtain ⟨o, e, c, d⟩ := id st'
    exact ⟨u, rfl, go_of (s := { s with heap := h' }) e c d (by decide) ⟨x, H, I1, ru, ⟨rfl, fun ys hy => by rw [I.list_inj hy hq]; exact hx⟩, st', fun b hb => (hf b hb).1⟩⟩
  done := by
    intro X hP hw hK i pins s σ H E x1 hot nx I hf st ⟨xs, hq, hx⟩
    subst hP hw hK
    obtain ⟨its, rv, p, _⟩ := I.list hq
    obtain ⟨f0, f1, f2, f3, f4, f5⟩ := hf it (List.mem_singleton_self _)
    have hl := rv.length
    exact sd_list_end hot (fun z => nx (by rw [z]; exact List.mem_singleton_self _)) st p.isList (by simp; omega) fun h' eb => ⟨rfl, I.turned (t' := s.toks) (fun b o hb e => eb b o hb e) f0 f1 f3 f4 f5⟩
  self := fun _ _ _ _ _ st h => wpAny_pyIter_listiter st h
def PIEZ (X : Cx) (pins : List (Addr × Obj)) (σ : L2.St) (tg : Expr) (R : It → Hp → Prop) (itv : Value) (s2 : Shared) : Prop :=
  ∃ (it : Addr) (fp : List Addr) (tn : Nat → Heap → Prop) (J : It) (H' : Hp), itv = .ref it ∧ L2.Inv X pins σ H' s2 ∧ TurnZ X.prog X.w X.K tg J fp it tn ∧ tn 0 s2.heap ∧ (∀ b ∈ fp, FpOk X pins H' b) ∧ R J H'
structure PIZ (X : Cx) (tg iter : Expr) (wi : TI) : Prop where
  run : ∀ (pins : List (Addr × Obj)) (s : Shared) (σ : L2.St) (H : Hp) (R : It → Hp → Prop), L2.Inv X pins σ H s → wi σ H R →
    wpAny (model X.prog X.w) X.A (eval iter X.env) (fun v s1 => wpAny (model X.prog X.w) X.A (pyIter v) (PIEZ X pins σ tg R) X.xe s1) X.xe s
section
variable {X : Cx} {tg : Expr}
theorem pi_listZ {K : PySem.W.Frag} {l : Expr} {tl : TE} (hK : X.K = K) (hl : PE X l tl) : PIZ X tg l (iList K tl) := by
  subst hK
  refine ⟨fun pins s σ H R I h => thn (hl.run pins s σ H _ I h) fun v s1 ⟨x, H1, I1, r1, a, e, ⟨xs, hq⟩, q⟩ => ?_⟩
  subst e
  cases r1
  obtain ⟨its, rv, p, _⟩ := I1.list hq
  refine wpAny_pyIter_list p.isList ?_
  refine ⟨s1.heap.objs.size, [s1.heap.objs.size], _, _, H1, rfl, I1.kept (t' := s1.toks) fun b o e => Heap.get?_push_of_some _ e, turn_listZ a _, ⟨_, Heap.get?_push_size _ rfl, rfl, rfl⟩, fun b hb => ?_, q⟩
  rw [List.mem_singleton.mp hb]
  exact I1.fpOk (Nat.le_refl _) (I1.hok.fresh (Nat.le_refl _))
/-- the handled error, at a state -/
theorem hotC_at {pins : List (Addr × Obj)} {σ : L2.St} {H : Hp} {s : Shared} {fp : List Addr} {p : Addr × Obj} (hot : Hot1 X.A p) (hp : p ∈ X.pn) (I : L2.Inv X pins σ H s) (hf : ∀ b ∈ fp, FpOk X pins H b) : HotAt X.A p.1 s.heap ∧ p.1 ∉ fp := by
  obtain ⟨hh, v1, e1, c1⟩ := hot
  exact ⟨⟨hh, p.2, v1, (I.pin p (List.mem_append_left _ hp)).1, e1, c1⟩, fun hm => (hf p.1 hm).2.2.2.2.2 p (List.mem_append_left _ hp) rfl⟩
theorem ps_forZ {iter : Expr} {body : List Stmt} {wi : TI} {g : TG} {tb : TS} {pos : Pos} (hp : PassesOwn (model X.prog X.w) X.A X.env X.xe) (hc : HotC X) (hi : PIZ X tg iter wi) (hg : PG X tg g) (hb : PSs X body tb)
    (hs : ∀ x, foldedSetIterable iter X.env x = pure x := by intro _; rfl) : PS X (.For tg iter body [] pos) (tFor wi g tb) := by
  obtain ⟨p, hot, hpn⟩ := hc
  refine ⟨fun pins s σ H D I h => ?_⟩
  refine wpAny_For (thn (hi.run pins s σ H _ I h) fun v s1 h1 => thn h1 fun itv s2 ⟨it, fp, tn, J, H2, e, I2, T, st2, f2, W, ⟨m0, w0⟩, turn⟩ => ?_) hs
  subst e
  have stat : ∀ {H' : Hp}, (∀ b ∈ fp, H' b = none) → ∀ b ∈ fp, FpOk X pins H' b := fun hn b hb => ⟨hn b hb, (f2 b hb).2⟩
  refine codeAny_forLoop_any (fun n s' => ∃ i σ' H', L2.Inv X pins σ' H' s' ∧ tn i s'.heap ∧ (∀ b ∈ fp, H' b = none) ∧ W i n σ' H') (fun n s3 ⟨i, σ3, H3, I3, st3, fr3, w3⟩ => ?_) m0 ⟨0, σ, H2, I2, st2, fun b hb => (f2 b hb).1, w0⟩
  obtain ⟨ha, nx⟩ := hotC_at hot hpn I3 (stat fr3)
  rcases turn i n σ3 H3 w3 with ⟨stop, qn⟩ | ⟨go, N, hN, step⟩
  · refine wpAny_passesOwn hp (thn (T.done X rfl rfl rfl i pins s3 σ3 H3 X.xe p.1 ha nx I3 (stat fr3) st3 stop) fun r s4 ⟨hr, I4⟩ => ?_)
    subst hr
    exact wpAny_execs_nil ⟨σ3, H3, I4, qn⟩
  · refine wpAny_passesOwn hp (thn (T.item X rfl rfl rfl i pins s3 σ3 H3 X.xe I3 (stat fr3) st3 go) fun r s4 ⟨u, hr, h4⟩ => ?_)
    subst hr
    refine wpAny_passesOwn hp (thn h4 fun _ s5 ⟨x, H5, I5, r5, y5, st5, fr5⟩ => ?_)
    refine wpAny_passesOwn hp (thn (hg.run _ s5 σ3 H5 x u _ (I5.pinned (stat fr5) (T.obj _ _ st5)) r5 (step x H5 y5)) fun _ s6 ⟨σ6, H6, I6, q6⟩ => ?_)
    refine wpAny_passesOwn hp (thn (hb.run _ s6 σ6 H6 _ I6 q6) fun f s7 q7 => ?_)
    have again : ∀ {σ7 : L2.St} {H7 : Hp}, L2.Inv X (pins ++ pinsAt fp s5.heap) σ7 H7 s7 → N σ7 H7 → ∃ m, m < n ∧ ∃ i σ' H', L2.Inv X pins σ' H' s7 ∧ tn i s7.heap ∧ (∀ b ∈ fp, H' b = none) ∧ W i m σ' H' := fun {σ7 H7} I7 n7 => by
      obtain ⟨m', hm, w7⟩ := hN σ7 H7 n7
      have at7 : ∀ b ∈ fp, ∀ o, s5.heap.get? b = some o → s7.heap.get? b = some o ∧ H7 b = none := fun b hb o e =>
        ⟨(I7.pin (b, o) (List.mem_append_right _ (List.mem_append_right _ (mem_pinsAt hb e)))).1, (I7.pin (b, o) (List.mem_append_right _ (List.mem_append_right _ (mem_pinsAt hb e)))).2.1⟩
      refine ⟨m', hm, i + 1, σ7, H7, I7.unpinned, T.keep _ _ _ st5 fun b hb o e => (at7 b hb o e).1, fun b hb => ?_, w7⟩
      obtain ⟨o, e, _⟩ := T.obj _ _ st5 b hb
      exact (at7 b hb o e).2
    cases f with
    | next =>
      obtain ⟨_, _, I7, n7⟩ := q7
      exact again I7 n7
    | cont =>
      obtain ⟨_, _, I7, n7⟩ := q7
      exact again I7 n7
    | brk =>
      obtain ⟨σ7, H7, I7, q7⟩ := q7
      exact ⟨σ7, H7, I7.unpinned, q7⟩
    | ret v =>
      obtain ⟨x7, σ7, H7, I7, r7, q7⟩ := q7
      exact ⟨x7, σ7, H7, I7.unpinned, r7, q7⟩
section
variable {elt iter : Expr} {ifs : List Expr} {scope : Scope} {own : List (Str × Nat)} {pos : Pos} {wi : TI} {g : TG} {tt : TT} {te : TE}
/-- a comprehension's parts, in each block where the handled error stands -/
structure LcZ (X : Cx) (tg elt : Expr) (ifs : List Expr) (scope : Scope) (g : TG) (tt : TT) (te : TE) : Prop where
  tg : ∀ (s : Shared) (H : Hp) (C : Addr) (cl : List (Str × Addr)) (fp : List Addr), HotW (X.blk s H scope (compEnvC scope cl C X.env) fp) → PG (X.blk s H scope (compEnvC scope cl C X.env) fp) tg g
  ifs : ∀ (s : Shared) (H : Hp) (C : Addr) (cl : List (Str × Addr)) (fp : List Addr), PTs (X.blk s H scope (compEnvC scope cl C X.env) fp) ifs tt
  elt : ∀ (s : Shared) (H : Hp) (C : Addr) (cl : List (Str × Addr)) (fp : List Addr), PE (X.blk s H scope (compEnvC scope cl C X.env) fp) elt te
theorem lcZ_core {pins : List (Addr × Obj)} {s : Shared} {σ : L2.St} {H : Hp} {Q : VK} {pos' : Pos} {use : Option (Value → Sem Unit)} {Qf : Value → Shared → Prop}
    (hc : HotC X) (hN : X.N.Nodup) (I : L2.Inv X pins σ H s) (hi : PIZ X tg iter wi) (ok : BlkOk X.N X.env.scope scope own) (L : LcZ X tg elt ifs scope g tt te) (hs : ∀ x, foldedSetIterable iter X.env x = pure x)
    (h : tLc wi g tt te (own.map (·.2)) σ H Q)
    (fin : ∀ D C s' m H', L2.Inv X pins σ H' s' → Q (.ref D) H' → s'.heap.Ns C m → FpOk X pins H' C → compPost (model X.prog X.w) X.A X.xe use Qf (.ref D) C (.ok .next) s') :
    wpAny (model X.prog X.w) X.A (comprehension (.ListComp elt [⟨tg, iter, ifs, 0⟩] scope pos) scope X.env pos' (newList []) false (eval iter X.env) use) Qf X.xe s := by
  have hfree : ∀ y ∈ scope.names, y.2 = .free → ∃ c, X.env.cells.lookup y.1 = some c := fun y hy e => (ok.free y hy e).elim (fun k => I.ok.has _ (.inl k)) fun k => I.ok.has _ (.inr k)
  refine wpAny_comprehension_free (use := use) rfl hs (closure_ok hfree) ok.kind (fun y hy e => by rw [ok.uniq y hy, e])
    (thn (hi.run pins s σ H _ I h) fun xv s1 hx => thn hx fun itv s2 ⟨it, fp, tn, J, H2, e, I2, T, st2, f2, q⟩ => ?_)
  subst e
  refine wpAny_newObj_type (newEnv_comp ?_) (by show 0 ≤ sizeLine; decide)
  obtain ⟨W, ⟨m0, w0⟩, turn⟩ := q s2.heap.objs.size (I2.hok.fresh (Nat.le_refl _))
  -- the new list at D, its state s3
  obtain ⟨D, hD⟩ : ∃ D, D = s2.heap.objs.size := ⟨_, rfl⟩
  rw [← hD] at w0 turn
  have lt2 : ∀ b ∈ fp, b < s2.heap.objs.size := fun b hb => by
    obtain ⟨o, e, _⟩ := T.obj _ _ st2 b hb
    exact Heap.lt_size e
  obtain ⟨s3, hs3⟩ : ∃ s3 : Shared, s3 = { s2 with heap := s2.heap.push { cls := .type "list", data := .seq ([] : List Value).toArray } } := ⟨_, rfl⟩
  have h3 : s3.heap = s2.heap.push { cls := .type "list", data := .seq ([] : List Value).toArray } := by rw [hs3]
  have k3 : ∀ b o, s2.heap.get? b = some o → s3.heap.get? b = some o := fun b o e => by rw [h3]; exact Heap.get?_push_of_some _ e
  have I3 : L2.Inv X pins σ (upd H2 D (.lst [])) s3 := by
    rw [hs3]
    refine I2.laid (t' := s2.toks) (fun b o e => Heap.get?_push_of_some _ e) (Nat.le_of_eq hD.symm) ⟨Nat.zero_le _, [], 0, .nil, ?_⟩
    rw [hD]
    exact Heap.get?_push_size _ rfl
  obtain ⟨H3, hH3⟩ : ∃ H3, H3 = upd H2 D (.lst []) := ⟨_, rfl⟩
  rw [← hH3] at I3 w0
  have f3 : ∀ b ∈ fp, FpOk X pins H3 b ∧ b < s3.heap.objs.size := fun b hb => by
    refine ⟨⟨?_, (f2 b hb).2⟩, by rw [h3, Heap.size_push]; exact Nat.lt_succ_of_lt (lt2 b hb)⟩
    rw [hH3, upd_ne (by rw [hD]; exact Nat.ne_of_lt (lt2 b hb))]
    exact (f2 b hb).1
  have I4 := block_start I3 ok hN f3
  -- the block
  obtain ⟨cl, hcl⟩ : ∃ cl, cl = cellsFrom (s3.heap.objs.size + 1) scope.names (cloFrom X.env.cells scope.names []) := ⟨_, rfl⟩
  have hw := hotW_blk (scope := scope) (ce := compEnvC scope cl s3.heap.objs.size X.env) hc I3 fun b hb => (f3 b hb).1
  have pg := L.tg s3 H3 s3.heap.objs.size cl fp hw
  have pt := L.ifs s3 H3 s3.heap.objs.size cl fp
  have pe := L.elt s3 H3 s3.heap.objs.size cl fp
  rw [← hcl] at I4
  rw [← hs3] 
  rw [show s2.heap.objs.size = D from hD.symm]
  show codeAny _ _ (.compStart (.ListComp elt [⟨tg, iter, ifs, 0⟩] scope pos) 0 (.ref it) (.ref D) (compEnvC scope (cellsFrom (s3.heap.objs.size + 1) scope.names (cloFrom X.env.cells scope.names [])) s3.heap.objs.size X.env)) (compPost (model X.prog X.w) X.A X.xe use Qf (.ref D) s3.heap.objs.size) { s3 with heap := pushCells (s3.heap.push { cls := .type "dict", data := .dict #[] }) scope.names }
  rw [← hcl]
  obtain ⟨ce, hce⟩ : ∃ ce, ce = compEnvC scope cl s3.heap.objs.size X.env := ⟨_, rfl⟩
  have cL : ce.locals = s3.heap.objs.size := by rw [hce]; rfl
  rw [← hce] at I4 hw pg pt pe ⊢
  obtain ⟨s4, hs4⟩ : ∃ s4 : Shared, s4 = { s3 with heap := pushCells (s3.heap.push { cls := .type "dict", data := .dict #[] }) scope.names } := ⟨_, rfl⟩
  rw [← hs4] at I4 ⊢
  have st4 : tn 0 s4.heap := T.keep _ _ _ (T.keep _ _ _ st2 fun b _ o e => k3 b o e) fun b _ o e => by rw [hs4]; exact pushCells_keeps _ _ _ _ (Heap.get?_push_of_some _ e)
  have stat : ∀ {σ' : L2.St} {H' : Hp} {s' : Shared}, L2.Inv (X.blk s3 H3 scope ce fp) [] σ' H' s' → (∀ b ∈ fp, H' b = none) → ∀ b ∈ fp, FpOk (X.blk s3 H3 scope ce fp) [] H' b := fun {σ' H' s'} I' hn b hb =>
    ⟨hn b hb, (I'.ok.exf b hb).1, I'.ok.exfs b hb, .inl hb, fun x c e => (I'.ok.exf b hb).2 x c e, fun p hp => absurd (show p ∈ ([] : List (Addr × Obj)) ++ [] from hp) (by simp)⟩
  have loop : codeAny (model X.prog X.w) X.A (.compLoop (.ListComp elt [⟨tg, iter, ifs, 0⟩] scope pos) 0 (.ref it) (.ref D) ce) (compPost (model X.prog X.w) X.A X.xe use Qf (.ref D) s3.heap.objs.size) s4 := by
    refine compLoop_any (fun n s' => ∃ i H', L2.Inv (X.blk s3 H3 scope ce fp) [] (wipe σ (own.map (·.2))) H' s' ∧ tn i s'.heap ∧ (∀ b ∈ fp, H' b = none) ∧ W i n H') (fun n s5 ⟨i, H5, I5, st5, n5, w5⟩ => ?_) m0 ⟨0, H3, I4, st4, fun b hb => (f3 b hb).1.1, w0⟩
    rcases turn i n H5 w5 with ⟨stop, qq⟩ | ⟨go, Nx, hNx, step⟩
    · -- the end: back in the def
      obtain ⟨p, ⟨hh, v1, d1, c1⟩, hp⟩ := id hc
      have P := I3.pin p (List.mem_append_left _ hp)
      have nf : p.1 ∉ fp := fun hm => (f3 p.1 hm).1.2.2.2.2.2 p (List.mem_append_left _ hp) rfl
      have g5 := I5.base.keep p.1 p.2 P.1 P.2.1 (fun hm => (List.mem_cons.mp (I3.stkSub p.1 hm)).elim P.2.2.1 P.2.2.2.1) nf
      refine thnF (T.done (X.blk s3 H3 scope ce fp) rfl rfl rfl i [] s5 _ H5 (fun _ _ => False) p.1 ⟨hh, p.2, v1, g5, d1, c1⟩ nf I5 (stat I5 n5) st5 stop) fun r s6 ⟨hr, I6⟩ => ?_
      subst hr
      have I7 : L2.Inv X pins σ H5 s6 := I3.call' (ch := fp) I6.os I6.base I6.hok I6.bare fun b hb => ⟨(f3 b hb).1.2.2.2.1, (f3 b hb).1.2.1, (f3 b hb).1.2.2.2.2.1, (f3 b hb).1.2.2.2.2.2⟩
      have nC : H5 ce.locals = none := I6.free
      obtain ⟨m, hn, _⟩ := I6.loc
      have hn : s6.heap.Ns ce.locals m := hn
      rw [cL] at hn nC
      exact fin D s3.heap.objs.size s6 m H5 I7 qq hn (I3.fpOk (Nat.le_refl _) nC)
    · refine thnF (T.item (X.blk s3 H3 scope ce fp) rfl rfl rfl i [] s5 _ H5 (fun _ _ => False) I5 (stat I5 n5) st5 go) fun r s6 ⟨u, hr, h6⟩ => ?_
      subst hr
      refine thnF h6 fun _ s7 ⟨x, H7, I7, r7, y7, st7, n7⟩ => ?_
      refine thnF (pg.run _ s7 _ H7 x u _ (I7.pinned (stat I7 n7) (T.obj _ _ st7)) r7 (step x H7 y7)) fun _ s8 ⟨σ8, H8, I8, hw8, q8⟩ => ?_
      refine thnF (pt.run _ s8 σ8 H8 _ I8 q8) fun b s9 ⟨H9, I9, q9⟩ => ?_
      have again : ∀ {s' : Shared} {H' : Hp}, L2.Inv (X.blk s3 H3 scope ce fp) ([] ++ pinsAt fp s7.heap) σ8 H' s' → Nx H' → ∃ m, m < n ∧ ∃ i H', L2.Inv (X.blk s3 H3 scope ce fp) [] (wipe σ (own.map (·.2))) H' s' ∧ tn i s'.heap ∧ (∀ b ∈ fp, H' b = none) ∧ W i m H' := fun {s' H'} I' nx => by
        obtain ⟨m', hm, w'⟩ := hNx H' nx
        have at' : ∀ b ∈ fp, ∀ o, s7.heap.get? b = some o → s'.heap.get? b = some o ∧ H' b = none := fun b hb o e =>
          ⟨(I'.pin (b, o) (List.mem_append_right _ (List.mem_append_right _ (mem_pinsAt hb e)))).1, (I'.pin (b, o) (List.mem_append_right _ (List.mem_append_right _ (mem_pinsAt hb e)))).2.1⟩
        refine ⟨m', hm, i + 1, H', (I'.unpinned (pins := [])).weak (by rw [← hw8, wipe_length]) (fun j v e => ?_), T.keep _ _ _ st7 fun b hb o e => (at' b hb o e).1, fun b hb => ?_, w'⟩
        · rw [← hw8] at e
          exact (wipe_some e).1
        · obtain ⟨o, e, _⟩ := T.obj _ _ st7 b hb
          exact (at' b hb o e).2
      cases b with
      | false =>
        simp only [Bool.false_eq_true, if_false] at q9 ⊢
        exact again I9 q9
      | true =>
        simp only [if_true] at q9 ⊢
        refine thnF (pe.run _ s9 σ8 H9 _ I9 q9) fun z s10 ⟨yv, H10, I10, r10, acc, hD10, hz10, nx⟩ => ?_
        exact app_ok (X := X.blk s3 H3 scope ce fp) I10 hD10 hz10 r10 fun s11 I11 => again I11 nx
  exact codeAny_compStart_list loop (T.self X.A 0 _ _ _ st4 loop)
theorem pe_lcZ (hc : HotC X) (hN : X.N.Nodup) (hi : PIZ X tg iter wi) (ok : BlkOk X.N X.env.scope scope own) (L : LcZ X tg elt ifs scope g tt te) (hs : ∀ x, foldedSetIterable iter X.env x = pure x := by intro _; rfl) :
    PE X (.ListComp elt [⟨tg, iter, ifs, 0⟩] scope pos) (tLc wi g tt te (own.map (·.2))) := by
  refine ⟨fun pins s σ H Q I h => ?_⟩
  rw [eval_ListComp]
  refine lcZ_core hc hN I hi ok L hs h fun D C s' m H' I' q hn f => ⟨m, hn, fun h'' sb => ?_⟩
  obtain ⟨f0, f1, f2, f3, f4, f5⟩ := f
  exact ⟨.ref D, H', I'.turned (t' := s'.toks) (fun b o hb e => (sb.2 b hb).trans e) f0 f1 f3 f4 f5, rfl, q⟩
/-- name = [..] on one line -/
theorem ps_setLcZ {i : Nat} {y : Str} {py spos : Pos} (hc : HotC X) (hN : X.N.Nodup) (hy : X.N[i]? = some y) (hyl : X.env.scope.names.lookup y = some .local)
    (hsw : swapsWith (.ListComp elt [⟨tg, iter, ifs, 0⟩] scope pos) (some (.Name y py)) spos.line X.env = pure true) (hi : PIZ X tg iter wi) (ok : BlkOk X.N X.env.scope scope own) (L : LcZ X tg elt ifs scope g tt te) (hs : ∀ x, foldedSetIterable iter X.env x = pure x := by intro _; rfl) :
    PS X (.Assign [.Name y py] (.ListComp elt [⟨tg, iter, ifs, 0⟩] scope pos) spos) (tAsg (tLc wi g tt te (own.map (·.2))) (gName i)) := by
  refine ⟨fun pins s σ H D I h => ?_⟩
  rw [exec_Assign_Name_used _ _ _ _ hsw]
  refine wpAny_bind (wpAny_standAt (wpAny_bind ?_))
  show wpAny _ X.A (do let _ ← comprehension (.ListComp elt [⟨tg, iter, ifs, 0⟩] scope pos) scope X.env (firstIterPos [⟨tg, iter, ifs, 0⟩] pos) (newList []) false (eval iter X.env) (some (assign (.Name y py) X.env))) _ _ s
  have h : tLc wi g tt te (own.map (·.2)) σ H (fun x H1 => gName i x σ H1 D.nx) := h
  refine wpAny_bind (thn (lcZ_core (Qf := fun _ s' => SP X pins D .next s') hc hN I hi ok L hs h fun l C s' m H' I' q hn f => ?_) fun _ s' hq => wpAny_pure (wpAny_pure hq))
  show wpAny _ _ (assign (.Name y py) X.env (.ref l)) _ _ _
  refine wpAny_assign_Name (store_ok2 (v := V.ref l) I' hN hy (.inl hyl) rfl (fun s2 I2 ⟨a, sb, ha⟩ => ?_) (.inr hyl))
  obtain ⟨f0, f1, f2, f3, f4, f5⟩ := f
  have haC : C ≠ a := ha.elim (fun z => by rw [z]; exact f1) fun z => fun e => f4 y a z e.symm
  exact ⟨m, hn.sameBut sb haC, fun h3 sb3 => ⟨_, H', I2.turned (t' := s2.toks) (fun b o hb e => (sb3.2 b hb).trans e) f0 f1 f3 f4 f5, q⟩⟩
end
end
end Sd

/-! ### a def that is handed the handled error -/
namespace Sd
open PySem PySem.Spec PyProof.Rows L2 L2H HotX
/-- what a def promises that is called while p is handled; p stands beside what is tracked -/
structure FnZ (P : Program) (w : World) (K : PySem.W.Frag) (mg : Str → Option Value) (base : Heap) (CX : CXT) (k : Nat) (f : Addr) (fd : FuncData) (ps : List Str) (sp : Addr × Obj → Sp) : Prop where
  len : ∀ p vs H Q E, sp p vs H Q E → vs.length = ps.length
  run : ∀ (A : Around) (outer : List Env) (s : Shared) (H : Hp) (args : Args) (us : List Value) (vs : List V) (Q : VK) (E : XK) (p : Addr × Obj), RoomH k A → A.guards = some [] → Hot1 A p → PinOk outer H s p → Env0 P w K mg base A outer s H → BindsTo s fd args (ps.zip us) → Vals vs us → sp p vs H Q E →
    codeAny (model P w) A (.call (.ref f) args) (CR CX outer P w H s Q E) s
section
variable {P : Program} {w : World} {K : PySem.W.Frag} {mg : Str → Option Value} {base : Heap}
theorem okZ {x qual : Str} {st : Stmt} {f : Addr} {fd : FuncData} {N ps : List Str} {k : Nat} {sp : Addr × Obj → Sp} (F : Fun K x qual st f fd) (S : FnScope N ps (defScope st)) (len : ∀ p vs H Q E, sp p vs H Q E → vs.length = ps.length)
    (hb : ∀ (cd : Value) (A : Around) (outer : List Env) (s : Shared) (H : Hp) (vs : List V) (Q : VK) (E : XK) (p : Addr × Obj), A.guards = some [] → Hot1 A p → RoomH k (A.deeper (envOfC qual (defScope st) s.heap.objs.size f cd)) → sp p vs H Q E →
      ∃ t, PSs (cxH CX0 P w K mg base N qual (defScope st) f cd A outer s H E p).nox (defBody st) t ∧ t { nx := fun _ H' => Q .non H', rt := Q } (L2.start N vs) H) : FnZ P w K mg base CX0 (k + 1) f fd ps sp := by
  obtain ⟨oc, od, kV, doc, pm, an, cd, ct, osl, rfl, lk, hcd⟩ := F.ex
  refine ⟨fun p => len p, fun A outer s H args us vs Q E p hr hg hot hpin e0 hbi r hsp => ?_⟩
  have hl := len _ _ _ _ _ hsp
  have KX : K.In s.heap := e0.mod.kin.keeps fun b o e => (e0.bs b o e).1
  have lim : s.heap.NoLimit := e0.mod.nolimit.keeps fun b o e => (e0.bs b o e).1
  have hkind : ∀ y ∈ ps.zip us, (defScope st).names.lookup y.1 = some .local ∨ ((defScope st).names.lookup y.1 = some .cell ∧ ((cellsFrom (s.heap.objs.size + 1) (defScope st).names []).lookup y.1).isSome = true) := fun ⟨n, v⟩ hy =>
    (S.par n (List.of_mem_zip hy).1).elim .inl fun q => .inr ⟨q, PySem.W.cellsFrom_some _ _ _ (.inl q)⟩
  refine codeAny_call_function hr.depth (KX _ _ lk) rfl S.co S.gen rfl (PySem.W.codeRec_of KX hcd) (hbi _ _ _ _ ?_)
  refine wpAny_newFunctionEnv_cells S.kind hkind fun env he s1 y => ?_
  subst he
  refine ⟨lim.keeps y.toInCall.keep, codeAny_func ?_⟩
  obtain ⟨t, ht, hq⟩ := hb cd A outer s H vs Q E p hg hot (hr.deeper _) hsp
  have I : L2.Inv (cxH CX0 P w K mg base N qual (defScope st) f cd A outer s H E p) [] (L2.start N vs) H s1 := inv_startH S hpin e0 hl r y
  refine wpAny_mono (ht.nox.run [] s1 (L2.start N vs) H _ I hq) (fun fl s' hs => ?_) fun e s' hs => hs
  cases fl with
  | ret u =>
    obtain ⟨v, σ', H', J, rv, q⟩ := hs
    exact ⟨v, H', J.os, J.bare, J.base, J.hok, rv, q⟩
  | next =>
    obtain ⟨σ', H', J, q⟩ := hs
    exact ⟨V.non, H', J.os, J.bare, J.base, J.hok, rfl, q⟩
  | brk => exact hs.elim fun _ z => z.elim fun _ z => z.2.elim
  | cont => exact hs.elim fun _ z => z.elim fun _ z => z.2.elim
end
section
variable {X : Cx} {CX : CXT} {k : Nat} {f : Addr} {fd : FuncData} {ps : List Str} {sp : Addr × Obj → Sp} {E : L2.St → XK} {x : Str} {q pos : Pos} {e : Expr} {es : List Expr} {t : TA} {p : Addr × Obj}
/-- f(e, ..), p the handled error -/
def tCallZ (sp : Addr × Obj → Sp) (p : Addr × Obj) (E : L2.St → XK) (t : TA) : TE := fun σ H Q => t σ H fun vs H1 => sp p vs H1 Q (E σ)
theorem pe_callZ (F : FnZ X.prog X.w X.K X.mg X.base CX k f fd ps sp) (hr : RoomH k X.A) (hgd : X.A.guards = some []) (hot : Hot1 X.A p) (hp : p ∈ X.pn) (hg : Gl X x) (hm : X.mg x = some (.ref f)) (hk : PySem.W.keepIn X.K (.ref f) = true) (hb : Binds X.K fd ps []) (hx : ∀ σ, PassesAt CX X σ (E σ))
    (ha : PA X (e :: es) t) (hdb : (x == ("__debug__" : Str)) = false := by decide) (he : starEach (e :: es) X.env = (false, eval e X.env) :: starEach es X.env := by rfl) (hpl : (backTo pos (starEach es X.env)).any (·.1) = false := by rfl) :
    PE X (.Call (.Name x q) (e :: es) [] pos) (tCallZ sp p E t) := by
  refine ⟨fun pins s σ H Q I h => ?_⟩
  refine wpAny_Call_Name_kw (ld_glob I hg hm ?_ hdb)
  refine PySem.W.callWith_K (h₀ := X.base) I.ok.mod.kin hk (thn (ha.run pos pins s σ H _ I h) fun us s1 ⟨vs, H1, I1, r, q⟩ => ⟨I1.kIn, ?_⟩) he hpl
  show wpAny _ _ (call (.ref f) us) _ _ _
  have hl : us.length = ps.length := by rw [← r.length]; exact F.len _ _ _ _ _ q
  have b := hb s1 us I1.kIn (by rw [List.append_nil]; exact hl)
  rw [List.append_nil] at b
  have P1 := I1.pin p (List.mem_append_left _ hp)
  have hpin : PinOk X.stack H1 s1 p := ⟨P1.1, P1.2.1, fun hm => (List.mem_cons.mp (I1.stkSub p.1 hm)).elim P1.2.2.1 P1.2.2.2.1, P1.2.2.2.2⟩
  refine wpAny_call (codeAny_mono (F.run X.A X.stack s1 H1 ⟨us, []⟩ us vs Q (E σ) p hr hgd hot hpin I1.env0 b r q) fun r s' hq => ?_)
  cases r with
  | error e => exact hx σ pins H1 s1 e s' I1 hq
  | ok fl =>
    cases fl with
    | ret u => exact I1.after hq
    | next => exact False.elim hq
    | brk => exact False.elim hq
    | cont => exact False.elim hq
end
/-! ### the handled error, asked and read -/
/-- p is an error of the class at C with these fields -/
def PinE (H : Hp) (p : Addr × Obj) (C : Addr) (fs : List (Str × V)) : Prop := (∃ vs, p.2.data = .fields vs) ∧ ((fs = [] ∧ Zc (.ref C) none p.2) ∨ ∃ d, Zc (.ref C) (some d) p.2 ∧ H d = some (.xd fs))
theorem PinE.up {H H' : Hp} {p : Addr × Obj} {C : Addr} {fs : List (Str × V)} (h : PinE H p C fs) (s : Same H H') : PinE H' p C fs :=
  ⟨h.1, h.2.elim .inl fun ⟨d, z, e⟩ => .inr ⟨d, z, s _ _ e⟩⟩
section
variable {X : Cx} {pins : List (Addr × Obj)} {σ : L2.St} {H : Hp} {s : Shared} {p : Addr × Obj} {C : Addr} {fs : List (Str × V)}
theorem pin_inst (I : L2.Inv X pins σ H s) (hp : p ∈ X.pn) (e : PinE H p C fs) : ∃ od, PySem.W.InstAt s.heap p.1 p.2 C od ∧ (∀ f v, fs.lookup f = some v → ∃ o u, od = some o ∧ PySem.W.lookIn f o = some (some u) ∧ RelV v u) := by
  have P := (I.pin p (List.mem_append_left _ hp)).1
  obtain ⟨a, oc, od, oda, osl⟩ := p
  obtain ⟨⟨vs, hv⟩, h⟩ := e
  dsimp only at hv P h
  subst hv
  rcases h with ⟨e0, h1, h2⟩ | ⟨d, ⟨h1, h2⟩, ed⟩
  · dsimp only at h1 h2
    subst h1 h2
    refine ⟨none, ⟨P, rfl, rfl, trivial⟩, fun f v l => ?_⟩
    rw [e0] at l
    cases l
  · dsimp only at h1 h2
    subst h1 h2
    have hx : ObjOk X.prog X.w H s.heap d (.xd fs) := I.hok d _ ed
    obtain ⟨mA, hns, hr⟩ := hx
    obtain ⟨o, ho, hl⟩ := lookIn_ns hns
    refine ⟨some o, ⟨P, rfl, rfl, ho⟩, fun f v l => ?_⟩
    obtain ⟨u, hu, ru⟩ := RelO.some_of (v := v) (o := mA f) (by rw [← l]; exact hr f)
    exact ⟨o, u, rfl, by rw [hl, hu], ru⟩
/-- isinstance(e, c), e the handled error -/
def rIsP (K : PySem.W.Frag) (p : Addr × Obj) : List V → Hp → VK → Prop := fun xs H Q => ∃ (D : Addr) (fs : List (Str × V)) (c : V) (cv : Value) (b : Bool), xs = [.ref p.1, c] ∧ PinE H p D fs ∧ ExcC K D ∧ (∀ u, RelV c u → u = cv) ∧ PySem.W.kitOne K (.ref D) cv = some b ∧ Q (.bl b) H
theorem isPL {K : PySem.W.Frag} (hK : X.K = K) (hp : p ∈ X.pn) : CallR X (.builtin "isinstance") (rIsP K p) := by
  subst hK
  intro pins s σ H xs us Q I r ⟨D, fs, c, cv, b, exs, e, C, hcv, ek, q⟩
  subst exs
  cases r with
  | cons rx rr =>
    cases rr with
    | cons rt rr =>
      cases rr
      cases rx
      have ec := hcv _ rt
      subst ec
      obtain ⟨od, J, _⟩ := pin_inst I hp e
      obtain ⟨cd, hcd, _⟩ := PySem.W.any_some C.hd
      exact PySem.W.kia_one (PySem.W.kitx_exc (ox := p.2) (od := od) (by rw [hcd]; rfl) C.hg C.hk C.hs C.ha C.hn C.ht C.hm) I.kIn J ek (fun z => nomatch z) fun tk => ⟨.bl b, H, I.kept (t' := tk) fun _ _ z => z, rfl, q⟩
/-- e.f, e the handled error -/
def tPinF (K : PySem.W.Frag) (p : Addr × Obj) (f : Str) (te : TE) : TE := fun σ H Q => te σ H fun x H1 => ∃ D fs v, x = .ref p.1 ∧ PinE H1 p D fs ∧ XfC K D ∧ PySem.W.findIn K (.ref D) f = some none ∧ fs.lookup f = some v ∧ Q v H1
theorem pinFL {K : PySem.W.Frag} {e : Expr} {te : TE} {pos : Pos} {n : Str} (hK : X.K = K) (hp : p ∈ X.pn) (he : PE X e te) (hb : attributeBase e n X.env (eval e X.env) = eval e X.env := by rfl) : PE X (.Attribute e n pos) (tPinF K p n te) := by
  subst hK
  refine ⟨fun pins s σ H Q I h => ?_⟩
  refine attr_of hb (thn (he.run pins s σ H _ I h) fun u s1 ⟨x, H1, I1, rx, D, fs, v, ex, ea, T, hno, l, q⟩ => ?_)
  subst ex
  obtain rfl : u = Value.ref p.1 := rx
  obtain ⟨od, J, look⟩ := pin_inst I1 hp ea
  obtain ⟨o, u, eo, hl, ru⟩ := look n v l
  subst eo
  exact HandSPX.exc_get I1.kIn J T.ga T.gg T.exC (PySem.W.findObj_own T.hdC hno rfl hl) (handed_of ru) ⟨v, H1, I1.tok _, ru, q⟩
end
/-- repr(a field) -/
def rReprF : List V → Hp → VK → Prop := fun xs H Q => (xs = [.non] ∧ Q (.str "None") H) ∨ ∃ i : Int, xs = [.int i] ∧ i.natAbs.log2 < 1920 ∧ Q (.str (toString i)) H
theorem reprF {X : Cx} : CallR X (.builtin "repr") rReprF := by
  intro pins s σ H xs us Q I r h
  rcases h with ⟨rfl, q⟩ | ⟨i, rfl, hz, q⟩
  · cases r with
    | cons r1 r2 =>
      cases r2
      cases r1
      exact PySem.P.repr_of_none ⟨.str "None", H, I.tok _, ⟨_, rfl⟩, q⟩
  · cases r with
    | cons r1 r2 =>
      cases r2
      obtain ⟨t, rfl⟩ := r1
      exact PySem.P.repr_of_int hz ⟨.str _, H, I.tok _, ⟨_, rfl⟩, q⟩
end Sd

/-! ### errors with an own __init__ raised, their context None -/
namespace Sd
open PySem PySem.Spec PyProof.Rows L2 L2H HotX
section
variable {P : Program} {w : World} {K : PySem.W.Frag} {mg : Str → Option Value} {base : Heap}
theorem okXN {x qual : Str} {st : Stmt} {f : Addr} {fd : FuncData} {N ps : List Str} {k : Nat} {sp : Sp} (F : Fun K x qual st f fd) (S : FnScope N ps (defScope st)) (len : ∀ vs H Q E, sp vs H Q E → vs.length = ps.length)
    (hb : ∀ (cdv : Value) (A : Around) (outer : List Env) (s : Shared) (H : Hp) (vs : List V) (Q : VK) (E : XK), Room k (A.deeper (envOfC qual (defScope st) s.heap.objs.size f cdv)) → sp vs H Q E →
      ∃ t, PSs (cxOf (L2N.CX P w) P w K mg base N qual (defScope st) f cdv A outer s H E) (defBody st) t ∧ t { nx := fun _ H' => Q .non H', rt := Q } (L2.start N vs) H) : FnOk P w K mg base (L2N.CX P w) (k + 1) f fd ps sp := by
  obtain ⟨oc, od, kV, doc, pm, an, cdv, ct, osl, rfl, lk, hcd⟩ := F.ex
  exact fn_of lk hcd S len fun A outer s H vs Q E hr hsp => hb cdv A outer s H vs Q E hr hsp
end
theorem takesN0 {X : Cx} : L2N.Takes X (fun _ _ _ _ => False) := fun _ _ x => by
  obtain ⟨_, _, _, _, _, _, _, _, _, _, _, _, _, _, _, _, z⟩ := x
  exact z.elim
section
variable {X : Cx} {CX : CXT} {x : Str} {C fI : Addr} {k : Nat} {fd : FuncData} {ps : List Str} {sp : Sp} {e : Expr} {es : List Expr} {p pos : Pos} {ta : TA}
/-- C(e), to be raised -/
def tMkN (C : Addr) (sp : Sp) (ta : TA) : L2.St → Hp → XK → Prop := fun σ H Q => ta σ H fun vs H1 => vs.length = 1 ∧ ∀ a, H1 a = none → sp (.ref a :: vs) (upd H1 a (exo a C none))
  (fun v H2 => v = .non ∧ ∃ (d : Addr) (fs : List (Str × V)), H2 a = some (exo a C (some d)) ∧ H2 d = some (exd d fs) ∧ H1 d = none ∧ Q (.ref C) (some d) (upd (del H2 a) d (.xd fs))) (fun _ _ _ => False)
theorem pmk_oexN (T : OexC X.K C) (iC : PySem.W.findIn X.K (.ref C) "__init__" = some (some (.ref fI))) (tI : PySem.W.typeIn X.K (.ref fI) = some (.type "function"))
    (F1 : FnOk X.prog X.w X.K X.mg X.base CX k fI fd ps sp) (hr : Room (k + 1) X.A) (hb : Binds X.K fd ps []) (hx : Passes CX X (fun _ _ _ => False)) (hg : Gl X x) (hm : X.mg x = some (.ref C)) (hp2 : ps.length = 2) (ha : PA X (e :: es) ta)
    (hdb : (x == ("__debug__" : Str)) = false := by decide) (he : starEach (e :: es) X.env = (false, eval e X.env) :: starEach es X.env := by rfl) (hpl : (backTo pos (starEach es X.env)).any (·.1) = false := by rfl) :
    L2N.PMk X (.Call (.Name x p) (e :: es) [] pos) (tMkN C sp ta) := by
  intro pins s σ H Q I h
  obtain ⟨nm, q, N, bs, bm, sn, sub, ab, col, dd, k0, k1, k2, k3, k5, hC, hbm⟩ := T.cls
  refine wpAny_Call_Name_kw (ld_glob I hg hm ?_ hdb)
  refine PySem.W.callWith_K (h₀ := X.base) I.ok.mod.kin T.kC (thn (ha.run pos pins s σ H _ I h) fun us s1 ⟨vs, H1, I1, r1, hz, q1⟩ => ⟨I1.kIn, ?_⟩) he hpl
  show wpAny _ _ (call (.ref C) us) _ _ _
  have hu1 : us.length = 1 := by
    rw [← Paired.length r1]
    exact hz
  obtain ⟨hp, g, dr, tk, os⟩ := s1
  have hsz : hp.objs.size ≤ hp.objs.size + 1 := Nat.le_succ _
  have hq := q1 (hp.objs.size + 1) (I1.hok.fresh hsz)
  have kk : ∀ b o, hp.get? b = some o → ((hp.push (PySem.W.kdv_tup us)).push (PySem.HandSPX.excO C hp.objs.size)).get? b = some o := fun b o e => Heap.get?_push_of_some _ (Heap.get?_push_of_some _ e)
  have hget : ((hp.push (PySem.W.kdv_tup us)).push (PySem.HandSPX.excO C hp.objs.size)).get? (hp.objs.size + 1) = some (PySem.HandSPX.excO C hp.objs.size) := by heap_get
  have I2 : L2.Inv X pins σ (upd H1 (hp.objs.size + 1) (exo (hp.objs.size + 1) C none)) ⟨(hp.push (PySem.W.kdv_tup us)).push (PySem.HandSPX.excO C hp.objs.size), g, dr, tk, os⟩ :=
    I1.laid (t' := tk) (a := hp.objs.size + 1) (o := exo (hp.objs.size + 1) C none) (h' := (hp.push (PySem.W.kdv_tup us)).push (PySem.HandSPX.excO C hp.objs.size)) kk hsz (exo_ok hget)
  have b2 := hb _ (Value.ref (hp.objs.size + 1) :: us) I2.kIn (by rw [List.append_nil, List.length_cons, hu1, hp2])
  rw [List.append_nil] at b2
  have r2 : Vals (V.ref (hp.objs.size + 1) :: vs) (Value.ref (hp.objs.size + 1) :: us) := .cons rfl r1
  refine wpAny_call (PySem.HandSPX.sd_call F.excBase_ValueError (fun Y => PySem.HandSPX.refsVE_contains Y bm hbm) (I1.kIn _ _ hC) (PySem.W.looks_findIn I1.kIn iC) (fun self => PySem.W.bind_fn I1.kIn self tI) (by rw [sizeLine_eq]; omega)
    (codeAny_mono (F1.run _ X.stack _ _ ⟨Value.ref (hp.objs.size + 1) :: us, []⟩ (Value.ref (hp.objs.size + 1) :: us) _ _ (fun _ _ _ => False) (hr.make C us []) (I2.env0.make C us []) b2 r2 hq) fun r s' hq' => ?_))
  cases r with
  | error er => exact hx pins σ _ _ er s' I2 hq'
  | ok fl =>
    cases fl with
    | ret u =>
      obtain ⟨v, H2, os2, bare2, un2, hok2, rv, ev, d, fs, ea, ed, hd1, q2⟩ := hq'
      subst ev
      obtain ⟨h2, g2, d2, t2, os'⟩ := s'
      obtain ⟨t0, G, J, kG, ge, hoe, na⟩ := mk_end0 (d2 := d2) (t2 := t2) I1 hsz kk un2 hok2 os2 bare2 ea ed hd1
      exact ⟨rv, hp.objs.size + 1, _, _, ⟨G, g2, d2, t2, os'⟩, _, .ref C, some d, rfl, J, kG, ge, hoe, ⟨rfl, rfl, fun vs hv => by cases hv; rfl⟩, rfl, rfl, na, rfl, bare2, raises_own T.exC T.tyC, q2⟩
    | next => exact False.elim hq'
    | brk => exact False.elim hq'
    | cont => exact False.elim hq'
end
end Sd

/-! ### repr of things, a dict of one text among them -/
namespace Sd
open PySem PySem.Spec PyProof.Rows L2
section
variable {X : Cx} {pins : List (Addr × Obj)} {σ : L2.St} {H : Hp} {s : Shared}
theorem one_reads (I : L2.Inv X pins σ H s) {a : Addr} {k : Str} {n : Int} (h : H a = some (.dK [(.inr k, .int n)])) : Reads s.heap (.ref a) (.dict [(.str k, .int n)]) (a :: [] ++ []) ∧ sysModules ∉ (a :: [] ++ [] : List Addr) := by
  obtain ⟨_, hsys, vs, kv, o, es, ep, e, ex, ed, lo, pr, _⟩ := (show ObjOk X.prog X.w H s.heap a (.dK [(.inr k, .int n)]) from I.hok a _ h)
  cases kv with
  | @cons _ b _ _ h1 r =>
    cases r
    obtain ⟨b1, b2⟩ := b
    obtain ⟨ek, t, ev⟩ := h1
    dsimp only at ek ev
    subst ek ev
    cases hl : es.toList with
    | nil =>
      rw [hl] at pr
      cases pr
    | cons en l =>
      rw [hl] at pr
      cases pr with
      | cons pk pv pr2 =>
        cases pr2
        obtain ⟨i, t2, e1, _⟩ | ⟨y, t2, e1, e2⟩ := keyIs_shape (k := .inr k) (v := en.key) pk
        · cases e1
        · cases e1
          refine ⟨.dict e ex.1 ed (as := []) (bs := []) ?_ ?_, ?_⟩
          · rw [hl]
            show ReadsAll s.heap [en.key] [.str k] ([] ++ [])
            rw [e2]
            exact .cons (.str k t2) .nil
          · rw [hl]
            show ReadsAll s.heap [en.val] [.int n] ([] ++ [])
            rw [pv]
            exact .cons (.int n t) .nil
          · intro z
            simp only [List.append_nil, List.mem_cons, List.not_mem_nil, or_false] at z
            rw [← z] at hsys
            exact absurd hsys (by decide)
end
/-- repr tells x as s -/
def Rep (H : Hp) (x : V) (u : Str) : Prop := (∃ d : PyData, Dq H x d ∧ d.showable = true ∧ d.depth ≤ 32 ∧ d.shown.length ≤ sizeLine ∧ u = d.shown) ∨
  ∃ (a : Addr) (k : Str) (n : Int), x = .ref a ∧ H a = some (.dK [(.inr k, .int n)]) ∧ (PyData.dict [(.str k, .int n)]).showable = true ∧ (PyData.dict [(.str k, .int n)]).depth ≤ 32 ∧ (PyData.dict [(.str k, .int n)]).shown.length ≤ sizeLine ∧ u = (PyData.dict [(.str k, .int n)]).shown
theorem Rep.up {H H' : Hp} {x : V} {u : Str} (h : Rep H x u) (s : Same H H') : Rep H' x u := by
  rcases h with ⟨d, hd, r⟩ | ⟨a, k, n, e, ha, r⟩
  · exact .inl ⟨d, hd.same s, r⟩
  · exact .inr ⟨a, k, n, e, s _ _ ha, r⟩
def rReprT : List V → Hp → VK → Prop := fun xs H Q => ∃ (x : V) (u : Str), xs = [x] ∧ Rep H x u ∧ Q (.str u) H
theorem reprT {X : Cx} (hA : X.A.guards = some []) {k : Nat} (hr : Room k X.A) : CallR X (.builtin "repr") rReprT := by
  intro pins s σ H xs us Q I r ⟨x, u, ex, h, q⟩
  subst ex
  rcases h with ⟨d, hd, h1, h2, h3, eu⟩ | ⟨a, k, n, ea, ha, h1, hdep, h3, eu⟩
  · subst eu
    exact reprQ hA hr pins s σ H _ us Q I r ⟨x, d, rfl, hd, h1, h2, h3, q⟩
  · subst ea eu
    cases r with
    | cons r1 r2 =>
      cases r2
      cases r1
      have hu := hr.units
      obtain ⟨rd, ns⟩ := one_reads I ha
      exact repr_of_reads' rd h1 (fun _ => ns) hA (by omega) (fun _ _ e => e) (fun h' u tk kp => ⟨.str _, H, I.kept (t' := tk) kp, ⟨u, rfl⟩, q⟩) h3
end Sd

namespace Sd
open PySem PySem.Spec PyProof.Rows L2
def topS (i : Nat) : Stmt := PySem.Challenge.pw_slitdiscs_k50_errors_of_texts.main.body.getD i (.Pass ⟨0, 0, 0, 0⟩)
abbrev s_number_in : Stmt := topS 18
theorem sc_number_in : FnScope ["word", "digits"] ["word"] (defScope s_number_in) := ⟨rfl, rfl, rfl, by decide +kernel, rfl, by decide +kernel, by decide +kernel⟩
abbrev s_count_in : Stmt := topS 19
theorem sc_count_in : FnScope ["word", "number"] ["word"] (defScope s_count_in) := ⟨rfl, rfl, rfl, by decide +kernel, rfl, by decide +kernel, by decide +kernel⟩
abbrev s_parse_disc : Stmt := topS 21
theorem sc_parse_disc : FnScope ["text"] ["text"] (defScope s_parse_disc) := ⟨rfl, rfl, rfl, by decide +kernel, rfl, by decide +kernel, by decide +kernel⟩
abbrev s_parse_row : Stmt := topS 22
theorem sc_parse_row : FnScope ["text"] ["text"] (defScope s_parse_row) := ⟨rfl, rfl, rfl, by decide +kernel, rfl, by decide +kernel, by decide +kernel⟩
abbrev s_parse_looks : Stmt := topS 23
theorem sc_parse_looks : FnScope ["text"] ["text"] (defScope s_parse_looks) := ⟨rfl, rfl, rfl, by decide +kernel, rfl, by decide +kernel, by decide +kernel⟩
abbrev s_check_text : Stmt := topS 24
theorem sc_check_text : FnScope ["text"] ["text"] (defScope s_check_text) := ⟨rfl, rfl, rfl, by decide +kernel, rfl, by decide +kernel, by decide +kernel⟩
abbrev s_parse_words : Stmt := topS 25
theorem sc_parse_words : FnScope ["text", "value_in", "most", "values", "index", "word", "value"] ["text", "value_in", "most"] (defScope s_parse_words) := ⟨rfl, rfl, rfl, by decide +kernel, rfl, by decide +kernel, by decide +kernel⟩
abbrev s_slot_in : Stmt := topS 26
theorem sc_slot_in : FnScope ["word", "number"] ["word"] (defScope s_slot_in) := ⟨rfl, rfl, rfl, by decide +kernel, rfl, by decide +kernel, by decide +kernel⟩
abbrev s_look_in : Stmt := topS 27
theorem sc_look_in : FnScope ["word", "before", "_", "behind", "turn", "light"] ["word"] (defScope s_look_in) := ⟨rfl, rfl, rfl, by decide +kernel, rfl, by decide +kernel, by decide +kernel⟩
abbrev s_law_tank : Stmt := topS 29
theorem sc_law_tank : FnScope ["script", "at", "cell"] ["script", "at"] (defScope s_law_tank) := ⟨rfl, rfl, rfl, by decide +kernel, rfl, by decide +kernel, by decide +kernel⟩
abbrev s_law_tap : Stmt := topS 30
theorem sc_law_tap : FnScope ["tank", "many", "drawn", "mixed"] ["tank", "many"] (defScope s_law_tap) := ⟨rfl, rfl, rfl, by decide +kernel, rfl, by decide +kernel, by decide +kernel⟩
abbrev s_law_words : Stmt := topS 31
theorem sc_law_words : FnScope ["e", "plain", "found", "name", "is_one", "fields"] ["e"] (defScope s_law_words) := ⟨rfl, rfl, rfl, by decide +kernel, rfl, by decide +kernel, by decide +kernel⟩
abbrev s_law_raised : Stmt := topS 32
theorem sc_law_raised : FnScope ["kind", "thing", "kept", "found", "e"] ["kind", "thing"] (defScope s_law_raised) := ⟨rfl, rfl, rfl, by decide +kernel, rfl, by decide +kernel, by decide +kernel⟩
abbrev s_law : Stmt := topS 33
theorem sc_law : FnScope ["script", "things", "thing", "kind", "at", "tank", "turn", "count", "bad", "words", "spot", "told"] ["script"] (defScope s_law) := ⟨rfl, rfl, rfl, by decide +kernel, rfl, by decide +kernel, by decide +kernel⟩
abbrev s_InvalidDisc_init : Stmt := inClass (topS 8) 0
theorem sc_InvalidDisc_init : FnScope ["self", "index"] ["self", "index"] (defScope s_InvalidDisc_init) := ⟨rfl, rfl, rfl, by decide +kernel, rfl, by decide +kernel, by decide +kernel⟩
abbrev s_InvalidRow_init : Stmt := inClass (topS 9) 0
theorem sc_InvalidRow_init : FnScope ["self", "index"] ["self", "index"] (defScope s_InvalidRow_init) := ⟨rfl, rfl, rfl, by decide +kernel, rfl, by decide +kernel, by decide +kernel⟩
abbrev s_InvalidLights_init : Stmt := inClass (topS 10) 0
theorem sc_InvalidLights_init : FnScope ["self", "index"] ["self", "index"] (defScope s_InvalidLights_init) := ⟨rfl, rfl, rfl, by decide +kernel, rfl, by decide +kernel, by decide +kernel⟩
abbrev s_InvalidLooks_init : Stmt := inClass (topS 11) 0
theorem sc_InvalidLooks_init : FnScope ["self", "index"] ["self", "index"] (defScope s_InvalidLooks_init) := ⟨rfl, rfl, rfl, by decide +kernel, rfl, by decide +kernel, by decide +kernel⟩
abbrev s_InvalidSyntax_init : Stmt := inClass (topS 12) 0
theorem sc_InvalidSyntax_init : FnScope ["self", "word"] ["self", "word"] (defScope s_InvalidSyntax_init) := ⟨rfl, rfl, rfl, by decide +kernel, rfl, by decide +kernel, by decide +kernel⟩
/-- what the top has written -/
structure Txt (K : PySem.W.Frag) (mg : Str → Option Value) where
  a_number_in : Addr
  d_number_in : FuncData
  F_number_in : Fun K "number_in" "number_in" s_number_in a_number_in d_number_in
  b_number_in : Binds K d_number_in ["word"] []
  g_number_in : mg "number_in" = some (.ref a_number_in)
  a_count_in : Addr
  d_count_in : FuncData
  F_count_in : Fun K "count_in" "count_in" s_count_in a_count_in d_count_in
  b_count_in : Binds K d_count_in ["word"] []
  g_count_in : mg "count_in" = some (.ref a_count_in)
  a_parse_disc : Addr
  d_parse_disc : FuncData
  F_parse_disc : Fun K "parse_disc" "parse_disc" s_parse_disc a_parse_disc d_parse_disc
  b_parse_disc : Binds K d_parse_disc ["text"] []
  g_parse_disc : mg "parse_disc" = some (.ref a_parse_disc)
  a_parse_row : Addr
  d_parse_row : FuncData
  F_parse_row : Fun K "parse_row" "parse_row" s_parse_row a_parse_row d_parse_row
  b_parse_row : Binds K d_parse_row ["text"] []
  g_parse_row : mg "parse_row" = some (.ref a_parse_row)
  a_parse_looks : Addr
  d_parse_looks : FuncData
  F_parse_looks : Fun K "parse_looks" "parse_looks" s_parse_looks a_parse_looks d_parse_looks
  b_parse_looks : Binds K d_parse_looks ["text"] []
  g_parse_looks : mg "parse_looks" = some (.ref a_parse_looks)
  a_check_text : Addr
  d_check_text : FuncData
  F_check_text : Fun K "_check_text" "_check_text" s_check_text a_check_text d_check_text
  b_check_text : Binds K d_check_text ["text"] []
  g_check_text : mg "_check_text" = some (.ref a_check_text)
  a_parse_words : Addr
  d_parse_words : FuncData
  F_parse_words : Fun K "_parse_words" "_parse_words" s_parse_words a_parse_words d_parse_words
  b_parse_words : Binds K d_parse_words ["text", "value_in", "most"] []
  g_parse_words : mg "_parse_words" = some (.ref a_parse_words)
  a_slot_in : Addr
  d_slot_in : FuncData
  F_slot_in : Fun K "_slot_in" "_slot_in" s_slot_in a_slot_in d_slot_in
  b_slot_in : Binds K d_slot_in ["word"] []
  g_slot_in : mg "_slot_in" = some (.ref a_slot_in)
  a_look_in : Addr
  d_look_in : FuncData
  F_look_in : Fun K "_look_in" "_look_in" s_look_in a_look_in d_look_in
  b_look_in : Binds K d_look_in ["word"] []
  g_look_in : mg "_look_in" = some (.ref a_look_in)
  a_law_tank : Addr
  d_law_tank : FuncData
  F_law_tank : Fun K "_law_tank" "_law_tank" s_law_tank a_law_tank d_law_tank
  b_law_tank : Binds K d_law_tank ["script", "at"] []
  g_law_tank : mg "_law_tank" = some (.ref a_law_tank)
  a_law_tap : Addr
  d_law_tap : FuncData
  F_law_tap : Fun K "_law_tap" "_law_tap" s_law_tap a_law_tap d_law_tap
  b_law_tap : Binds K d_law_tap ["tank", "many"] []
  g_law_tap : mg "_law_tap" = some (.ref a_law_tap)
  a_law_words : Addr
  d_law_words : FuncData
  F_law_words : Fun K "_law_words" "_law_words" s_law_words a_law_words d_law_words
  b_law_words : Binds K d_law_words ["e"] []
  g_law_words : mg "_law_words" = some (.ref a_law_words)
  a_law_raised : Addr
  d_law_raised : FuncData
  F_law_raised : Fun K "_law_raised" "_law_raised" s_law_raised a_law_raised d_law_raised
  b_law_raised : Binds K d_law_raised ["kind", "thing"] []
  g_law_raised : mg "_law_raised" = some (.ref a_law_raised)
  a_law : Addr
  d_law : FuncData
  F_law : Fun K "law" "law" s_law a_law d_law
  g_law : mg "law" = some (.ref a_law)
  a_InvalidDisc_init : Addr
  d_InvalidDisc_init : FuncData
  F_InvalidDisc_init : Fun K "__init__" "InvalidDisc.__init__" s_InvalidDisc_init a_InvalidDisc_init d_InvalidDisc_init
  b_InvalidDisc_init : Binds K d_InvalidDisc_init ["self", "index"] []
  a_InvalidRow_init : Addr
  d_InvalidRow_init : FuncData
  F_InvalidRow_init : Fun K "__init__" "InvalidRow.__init__" s_InvalidRow_init a_InvalidRow_init d_InvalidRow_init
  b_InvalidRow_init : Binds K d_InvalidRow_init ["self", "index"] []
  a_InvalidLights_init : Addr
  d_InvalidLights_init : FuncData
  F_InvalidLights_init : Fun K "__init__" "InvalidLights.__init__" s_InvalidLights_init a_InvalidLights_init d_InvalidLights_init
  b_InvalidLights_init : Binds K d_InvalidLights_init ["self", "index"] []
  a_InvalidLooks_init : Addr
  d_InvalidLooks_init : FuncData
  F_InvalidLooks_init : Fun K "__init__" "InvalidLooks.__init__" s_InvalidLooks_init a_InvalidLooks_init d_InvalidLooks_init
  b_InvalidLooks_init : Binds K d_InvalidLooks_init ["self", "index"] []
  a_InvalidSyntax_init : Addr
  d_InvalidSyntax_init : FuncData
  F_InvalidSyntax_init : Fun K "__init__" "InvalidSyntax.__init__" s_InvalidSyntax_init a_InvalidSyntax_init d_InvalidSyntax_init
  b_InvalidSyntax_init : Binds K d_InvalidSyntax_init ["self", "word"] []
  C_DiscError : Addr
  g_DiscError : mg "DiscError" = some (.ref C_DiscError)
  ec_DiscError : ErrC K C_DiscError
  x_DiscError : PySem.W.excIn K C_DiscError [.type "ValueError", .type "Exception", .type "BaseException", .type "object"] "ValueError.__new__" = true
  C_InvalidNumber : Addr
  g_InvalidNumber : mg "InvalidNumber" = some (.ref C_InvalidNumber)
  ec_InvalidNumber : ErrC K C_InvalidNumber
  x_InvalidNumber : PySem.W.excIn K C_InvalidNumber [.type "ValueError", .type "Exception", .type "BaseException", .type "object"] "ValueError.__new__" = true
  C_InvalidTurn : Addr
  g_InvalidTurn : mg "InvalidTurn" = some (.ref C_InvalidTurn)
  ec_InvalidTurn : ErrC K C_InvalidTurn
  x_InvalidTurn : PySem.W.excIn K C_InvalidTurn [.type "ValueError", .type "Exception", .type "BaseException", .type "object"] "ValueError.__new__" = true
  C_InvalidSlot : Addr
  g_InvalidSlot : mg "InvalidSlot" = some (.ref C_InvalidSlot)
  ec_InvalidSlot : ErrC K C_InvalidSlot
  x_InvalidSlot : PySem.W.excIn K C_InvalidSlot [.type "ValueError", .type "Exception", .type "BaseException", .type "object"] "ValueError.__new__" = true
  C_Impossible : Addr
  g_Impossible : mg "Impossible" = some (.ref C_Impossible)
  ec_Impossible : ErrC K C_Impossible
  x_Impossible : PySem.W.excIn K C_Impossible [.type "ValueError", .type "Exception", .type "BaseException", .type "object"] "ValueError.__new__" = true
  C_NothingToUndo : Addr
  g_NothingToUndo : mg "NothingToUndo" = some (.ref C_NothingToUndo)
  ec_NothingToUndo : ErrC K C_NothingToUndo
  x_NothingToUndo : PySem.W.excIn K C_NothingToUndo [.type "ValueError", .type "Exception", .type "BaseException", .type "object"] "ValueError.__new__" = true
  C_InvalidCommand : Addr
  g_InvalidCommand : mg "InvalidCommand" = some (.ref C_InvalidCommand)
  ec_InvalidCommand : ErrC K C_InvalidCommand
  x_InvalidCommand : PySem.W.excIn K C_InvalidCommand [.type "ValueError", .type "Exception", .type "BaseException", .type "object"] "ValueError.__new__" = true
  C_InvalidDisc : Addr
  g_InvalidDisc : mg "InvalidDisc" = some (.ref C_InvalidDisc)
  ec_InvalidDisc : ErrC K C_InvalidDisc
  o_InvalidDisc : OexC K C_InvalidDisc
  i_InvalidDisc : PySem.W.findIn K (.ref C_InvalidDisc) "__init__" = some (some (.ref a_InvalidDisc_init))
  ti_InvalidDisc : PySem.W.typeIn K (.ref a_InvalidDisc_init) = some (.type "function")
  nf_InvalidDisc_index : PySem.W.findIn K (.ref C_InvalidDisc) "index" = some none
  C_InvalidRow : Addr
  g_InvalidRow : mg "InvalidRow" = some (.ref C_InvalidRow)
  ec_InvalidRow : ErrC K C_InvalidRow
  o_InvalidRow : OexC K C_InvalidRow
  i_InvalidRow : PySem.W.findIn K (.ref C_InvalidRow) "__init__" = some (some (.ref a_InvalidRow_init))
  ti_InvalidRow : PySem.W.typeIn K (.ref a_InvalidRow_init) = some (.type "function")
  nf_InvalidRow_index : PySem.W.findIn K (.ref C_InvalidRow) "index" = some none
  C_InvalidLights : Addr
  g_InvalidLights : mg "InvalidLights" = some (.ref C_InvalidLights)
  ec_InvalidLights : ErrC K C_InvalidLights
  o_InvalidLights : OexC K C_InvalidLights
  i_InvalidLights : PySem.W.findIn K (.ref C_InvalidLights) "__init__" = some (some (.ref a_InvalidLights_init))
  ti_InvalidLights : PySem.W.typeIn K (.ref a_InvalidLights_init) = some (.type "function")
  nf_InvalidLights_index : PySem.W.findIn K (.ref C_InvalidLights) "index" = some none
  C_InvalidLooks : Addr
  g_InvalidLooks : mg "InvalidLooks" = some (.ref C_InvalidLooks)
  ec_InvalidLooks : ErrC K C_InvalidLooks
  o_InvalidLooks : OexC K C_InvalidLooks
  i_InvalidLooks : PySem.W.findIn K (.ref C_InvalidLooks) "__init__" = some (some (.ref a_InvalidLooks_init))
  ti_InvalidLooks : PySem.W.typeIn K (.ref a_InvalidLooks_init) = some (.type "function")
  nf_InvalidLooks_index : PySem.W.findIn K (.ref C_InvalidLooks) "index" = some none
  C_InvalidSyntax : Addr
  g_InvalidSyntax : mg "InvalidSyntax" = some (.ref C_InvalidSyntax)
  ec_InvalidSyntax : ErrC K C_InvalidSyntax
  o_InvalidSyntax : OexC K C_InvalidSyntax
  i_InvalidSyntax : PySem.W.findIn K (.ref C_InvalidSyntax) "__init__" = some (some (.ref a_InvalidSyntax_init))
  ti_InvalidSyntax : PySem.W.typeIn K (.ref a_InvalidSyntax_init) = some (.type "function")
  nf_InvalidSyntax_word : PySem.W.findIn K (.ref C_InvalidSyntax) "word" = some none
  cr_DiscError : ClX.CRead K C_DiscError (.type "type")
  vi_DiscError : PySem.W.findCls K (.ref C_DiscError) (.type "type") "__init__" = some (.val (.builtin "ValueError.__init__"))
  ks_DiscError : Kits K C_DiscError [C_InvalidNumber, C_InvalidTurn, C_InvalidSlot, C_Impossible, C_NothingToUndo, C_InvalidCommand, C_InvalidDisc, C_InvalidRow, C_InvalidLights, C_InvalidLooks, C_InvalidSyntax] [false, false, false, false, false, false, false, false, false, false, false]
  kb_DiscError : PySem.W.kitOne K (.ref C_DiscError) (.ref C_DiscError) = some true
  kv_DiscError : PySem.W.kitOne K (.ref C_DiscError) (.type "ValueError") = some true
  xm_DiscError : PySem.W.exmOne K (.ref C_DiscError) (.ref C_DiscError) = some true
  ks_InvalidNumber : Kits K C_InvalidNumber [C_InvalidNumber, C_InvalidTurn, C_InvalidSlot, C_Impossible, C_NothingToUndo, C_InvalidCommand, C_InvalidDisc, C_InvalidRow, C_InvalidLights, C_InvalidLooks, C_InvalidSyntax] [true, false, false, false, false, false, false, false, false, false, false]
  kb_InvalidNumber : PySem.W.kitOne K (.ref C_InvalidNumber) (.ref C_DiscError) = some true
  kv_InvalidNumber : PySem.W.kitOne K (.ref C_InvalidNumber) (.type "ValueError") = some true
  xm_InvalidNumber : PySem.W.exmOne K (.ref C_InvalidNumber) (.ref C_DiscError) = some true
  ks_InvalidTurn : Kits K C_InvalidTurn [C_InvalidNumber, C_InvalidTurn, C_InvalidSlot, C_Impossible, C_NothingToUndo, C_InvalidCommand, C_InvalidDisc, C_InvalidRow, C_InvalidLights, C_InvalidLooks, C_InvalidSyntax] [false, true, false, false, false, false, false, false, false, false, false]
  kb_InvalidTurn : PySem.W.kitOne K (.ref C_InvalidTurn) (.ref C_DiscError) = some true
  kv_InvalidTurn : PySem.W.kitOne K (.ref C_InvalidTurn) (.type "ValueError") = some true
  xm_InvalidTurn : PySem.W.exmOne K (.ref C_InvalidTurn) (.ref C_DiscError) = some true
  ks_InvalidSlot : Kits K C_InvalidSlot [C_InvalidNumber, C_InvalidTurn, C_InvalidSlot, C_Impossible, C_NothingToUndo, C_InvalidCommand, C_InvalidDisc, C_InvalidRow, C_InvalidLights, C_InvalidLooks, C_InvalidSyntax] [false, false, true, false, false, false, false, false, false, false, false]
  kb_InvalidSlot : PySem.W.kitOne K (.ref C_InvalidSlot) (.ref C_DiscError) = some true
  kv_InvalidSlot : PySem.W.kitOne K (.ref C_InvalidSlot) (.type "ValueError") = some true
  xm_InvalidSlot : PySem.W.exmOne K (.ref C_InvalidSlot) (.ref C_DiscError) = some true
  ks_Impossible : Kits K C_Impossible [C_InvalidNumber, C_InvalidTurn, C_InvalidSlot, C_Impossible, C_NothingToUndo, C_InvalidCommand, C_InvalidDisc, C_InvalidRow, C_InvalidLights, C_InvalidLooks, C_InvalidSyntax] [false, false, false, true, false, false, false, false, false, false, false]
  kb_Impossible : PySem.W.kitOne K (.ref C_Impossible) (.ref C_DiscError) = some true
  kv_Impossible : PySem.W.kitOne K (.ref C_Impossible) (.type "ValueError") = some true
  xm_Impossible : PySem.W.exmOne K (.ref C_Impossible) (.ref C_DiscError) = some true
  ks_NothingToUndo : Kits K C_NothingToUndo [C_InvalidNumber, C_InvalidTurn, C_InvalidSlot, C_Impossible, C_NothingToUndo, C_InvalidCommand, C_InvalidDisc, C_InvalidRow, C_InvalidLights, C_InvalidLooks, C_InvalidSyntax] [false, false, false, false, true, false, false, false, false, false, false]
  kb_NothingToUndo : PySem.W.kitOne K (.ref C_NothingToUndo) (.ref C_DiscError) = some true
  kv_NothingToUndo : PySem.W.kitOne K (.ref C_NothingToUndo) (.type "ValueError") = some true
  xm_NothingToUndo : PySem.W.exmOne K (.ref C_NothingToUndo) (.ref C_DiscError) = some true
  ks_InvalidCommand : Kits K C_InvalidCommand [C_InvalidNumber, C_InvalidTurn, C_InvalidSlot, C_Impossible, C_NothingToUndo, C_InvalidCommand, C_InvalidDisc, C_InvalidRow, C_InvalidLights, C_InvalidLooks, C_InvalidSyntax] [false, false, false, false, false, true, false, false, false, false, false]
  kb_InvalidCommand : PySem.W.kitOne K (.ref C_InvalidCommand) (.ref C_DiscError) = some true
  kv_InvalidCommand : PySem.W.kitOne K (.ref C_InvalidCommand) (.type "ValueError") = some true
  xm_InvalidCommand : PySem.W.exmOne K (.ref C_InvalidCommand) (.ref C_DiscError) = some true
  ks_InvalidDisc : Kits K C_InvalidDisc [C_InvalidNumber, C_InvalidTurn, C_InvalidSlot, C_Impossible, C_NothingToUndo, C_InvalidCommand, C_InvalidDisc, C_InvalidRow, C_InvalidLights, C_InvalidLooks, C_InvalidSyntax] [false, false, false, false, false, false, true, false, false, false, false]
  kb_InvalidDisc : PySem.W.kitOne K (.ref C_InvalidDisc) (.ref C_DiscError) = some true
  kv_InvalidDisc : PySem.W.kitOne K (.ref C_InvalidDisc) (.type "ValueError") = some true
  xm_InvalidDisc : PySem.W.exmOne K (.ref C_InvalidDisc) (.ref C_DiscError) = some true
  ks_InvalidRow : Kits K C_InvalidRow [C_InvalidNumber, C_InvalidTurn, C_InvalidSlot, C_Impossible, C_NothingToUndo, C_InvalidCommand, C_InvalidDisc, C_InvalidRow, C_InvalidLights, C_InvalidLooks, C_InvalidSyntax] [false, false, false, false, false, false, false, true, false, false, false]
  kb_InvalidRow : PySem.W.kitOne K (.ref C_InvalidRow) (.ref C_DiscError) = some true
  kv_InvalidRow : PySem.W.kitOne K (.ref C_InvalidRow) (.type "ValueError") = some true
  xm_InvalidRow : PySem.W.exmOne K (.ref C_InvalidRow) (.ref C_DiscError) = some true
  ks_InvalidLights : Kits K C_InvalidLights [C_InvalidNumber, C_InvalidTurn, C_InvalidSlot, C_Impossible, C_NothingToUndo, C_InvalidCommand, C_InvalidDisc, C_InvalidRow, C_InvalidLights, C_InvalidLooks, C_InvalidSyntax] [false, false, false, false, false, false, false, false, true, false, false]
  kb_InvalidLights : PySem.W.kitOne K (.ref C_InvalidLights) (.ref C_DiscError) = some true
  kv_InvalidLights : PySem.W.kitOne K (.ref C_InvalidLights) (.type "ValueError") = some true
  xm_InvalidLights : PySem.W.exmOne K (.ref C_InvalidLights) (.ref C_DiscError) = some true
  ks_InvalidLooks : Kits K C_InvalidLooks [C_InvalidNumber, C_InvalidTurn, C_InvalidSlot, C_Impossible, C_NothingToUndo, C_InvalidCommand, C_InvalidDisc, C_InvalidRow, C_InvalidLights, C_InvalidLooks, C_InvalidSyntax] [false, false, false, false, false, false, false, false, false, true, false]
  kb_InvalidLooks : PySem.W.kitOne K (.ref C_InvalidLooks) (.ref C_DiscError) = some true
  kv_InvalidLooks : PySem.W.kitOne K (.ref C_InvalidLooks) (.type "ValueError") = some true
  xm_InvalidLooks : PySem.W.exmOne K (.ref C_InvalidLooks) (.ref C_DiscError) = some true
  ks_InvalidSyntax : Kits K C_InvalidSyntax [C_InvalidNumber, C_InvalidTurn, C_InvalidSlot, C_Impossible, C_NothingToUndo, C_InvalidCommand, C_InvalidDisc, C_InvalidRow, C_InvalidLights, C_InvalidLooks, C_InvalidSyntax] [false, false, false, false, false, false, false, false, false, false, true]
  kb_InvalidSyntax : PySem.W.kitOne K (.ref C_InvalidSyntax) (.ref C_DiscError) = some true
  kv_InvalidSyntax : PySem.W.kitOne K (.ref C_InvalidSyntax) (.type "ValueError") = some true
  xm_InvalidSyntax : PySem.W.exmOne K (.ref C_InvalidSyntax) (.ref C_DiscError) = some true
  t_MOST_SLOTS : Tok
  g_MOST_SLOTS : mg "MOST_SLOTS" = some (.int (40) t_MOST_SLOTS)
  t_MOST_LIGHT : Tok
  g_MOST_LIGHT : mg "MOST_LIGHT" = some (.int (1000000000000000000000000000000) t_MOST_LIGHT)
  t_MOST_LOOKS : Tok
  g_MOST_LOOKS : mg "MOST_LOOKS" = some (.int (40) t_MOST_LOOKS)
  t_MOST_DIGITS : Tok
  g_MOST_DIGITS : mg "MOST_DIGITS" = some (.int (40) t_MOST_DIGITS)
  n_ValueError : mg "ValueError" = none
  n_abs : mg "abs" = none
  n_enumerate : mg "enumerate" = none
  n_int : mg "int" = none
  n_isinstance : mg "isinstance" = none
  n_len : mg "len" = none
  n_max : mg "max" = none
  n_min : mg "min" = none
  n_range : mg "range" = none
  n_repr : mg "repr" = none
  n_str : mg "str" = none
section
variable {P : Program} {w : World} {K : PySem.W.Frag} {mg : Str → Option Value} {base : Heap}
/-! ### _law_tank, _law_tap -/
def mixA (y z : Int) : Int := (y + 350377 * z) ^ (3 : Int).toNat % 170141183460469231731687303715884105727
theorem mixA_in (y z : Int) : 0 ≤ mixA y z ∧ mixA y z < 170141183460469231731687303715884105727 := ⟨Int.emod_nonneg _ (by decide), Int.emod_lt_of_pos _ (by decide)⟩
def spTap : Sp := fun vs H Q _ => ∃ (T : Addr) (m c : Int), vs = [.ref T, .int m] ∧ 0 < m ∧ m < 2 ^ 200 ∧ Tank H T c ∧ c < 2 ^ 40 ∧
  ∀ (r : Int) (H' : Hp), 0 ≤ r → r < m → Tank H' T (c + 1) → But T H H' → Q (.int r) H'
theorem ok_law_tap (T : Txt K mg) : FnOk P w K mg base CX0 1 T.a_law_tap T.d_law_tap ["tank", "many"] spTap := by
  refine T.F_law_tap.ok sc_law_tap (fun vs H Q E h => ?_) (fun cdv A outer s H vs Q E hr h => ?_)
  · obtain ⟨_, _, _, rfl, _⟩ := h
    rfl
  · obtain ⟨t, m, c, rfl, hm0, hm, ⟨x, y, z, hT, hx, hy0, hy, hz0, hz⟩, hc, q⟩ := h
    refine ⟨_, (pss_cons (ps_if (pt_cmpR op_gt (pe_ix (ixL (K := K) rfl) (pv 0) pe_int (fun _ _ => rfl)) pe_int (nomark _)) (pss_cons (ps_set (i := 2) sc_law_tap.nd rfl (.inl rfl) (pe_op op_mod (pe_callTy call_int1 (by rfl) T.n_int (by decide +kernel) (pa_cons (pe_ix (ixL (K := K) rfl) (pv 0) pe_int (fun _ _ => rfl)) pa_nil)) (pv 1)))
      (pss_cons (ps_asg (pe_op op_fdivW (pe_ix (ixL (K := K) rfl) (pv 0) pe_int (fun _ _ => rfl)) (pv 1)) (pg_sub (pv 0) pe_int set_list))
      (pss_one (ps_ret (pv 2))))) pss_nil)
      (pss_cons (ps_asg (pe_op op_add (pe_ix (ixL (K := K) rfl) (pv 0) pe_int (fun _ _ => rfl)) pe_int) (pg_sub (pv 0) pe_int set_list))
      (pss_cons (ps_set (i := 3) sc_law_tap.nd rfl (.inl rfl) (pe_op op_mod (pe_callTy call_int1 (by rfl) T.n_int (by decide +kernel) (pa_cons (pe_op op_pow3 (pe_op op_add (pe_ix (ixL (K := K) rfl) (pv 0) pe_int (fun _ _ => rfl)) (pe_op op_mul pe_int (pe_ix (ixL (K := K) rfl) (pv 0) pe_int (fun _ _ => rfl)))) pe_int) pa_nil)) pe_int))
      (pss_cons (ps_set (i := 3) sc_law_tap.nd rfl (.inl rfl) (pe_op op_mod (pe_callTy call_int1 (by rfl) T.n_int (by decide +kernel) (pa_cons (pe_op op_pow3 (pe_op op_add (pv 3) (pe_op op_mul pe_int (pe_ix (ixL (K := K) rfl) (pv 0) pe_int (fun _ _ => rfl)))) pe_int) pa_nil)) (pe_op op_add (pe_op op_pow pe_int pe_int) pe_int)))
      (pss_one (ps_ret (pe_op op_mod (pe_callTy call_int1 (by rfl) T.n_int (by decide +kernel) (pa_cons (pe_op op_fdivW (pv 3) pe_int) pa_nil)) (pv 1)))))))), ?_⟩
    refine ⟨.ref t, rfl, t, _, 0, .int x, rfl, rfl, SqL.of hT, rfl, x, 0, rfl, rfl, _, rfl, ite2 (fun h => ?_) (fun h => ?_)⟩
    · have hx1 : 0 < x := of_decide_eq_true h
      refine ⟨.ref t, rfl, t, _, 0, .int x, rfl, rfl, SqL.of hT, rfl, .inl ⟨x, rfl, .int m, rfl, x, m, rfl, rfl, hm0, ?_⟩⟩
      refine ⟨.ref t, rfl, t, _, 0, .int x, rfl, rfl, SqL.of hT, rfl, .int m, rfl, x, m, rfl, rfl, wide_div (b := 200) hm0 (by omega) (by decide) (by decide), ?_⟩
      refine ⟨.ref t, rfl, t, _, 0, 0, rfl, rfl, hT, rfl, ?_⟩
      refine ⟨.int (x % m), rfl, q _ _ (Int.emod_nonneg _ (by omega)) (Int.emod_lt_of_pos _ hm0) ⟨x / m, y, z, upd_same, Int.ediv_nonneg hx (by omega), hy0, hy, hz0, by omega⟩ upd_but⟩
    · refine ⟨.ref t, rfl, t, _, 2, .int z, rfl, rfl, SqL.of hT, rfl, z, 1, rfl, rfl, ?_⟩
      refine ⟨.ref t, rfl, t, _, 2, 2, rfl, rfl, hT, rfl, ?_⟩
      have hT2 : (upd H t (.lst [.int x, .int y, .int (z + 1)])) t = some (.lst [.int x, .int y, .int (z + 1)]) := upd_same
      refine ⟨.ref t, rfl, t, _, 1, .int y, rfl, rfl, SqL.of hT2, rfl, .ref t, rfl, t, _, 2, .int (z + 1), rfl, rfl, SqL.of hT2, rfl, 350377, z + 1, rfl, rfl, .inl ⟨by decide, by decide⟩, ?_⟩
      refine ⟨y, 350377 * (z + 1), rfl, rfl, _, 3, rfl, rfl, ⟨rfl, by omega, by omega⟩, .inl ⟨_, rfl, _, 170141183460469231731687303715884105727, rfl, rfl, (by show (0 : Int) < 170141183460469231731687303715884105727; decide), ?_⟩⟩
      obtain ⟨g0, g1⟩ := mixA_in y (z + 1)
      refine ⟨.int (mixA y (z + 1)), rfl, .ref t, rfl, t, _, 2, .int (z + 1), rfl, rfl, SqL.of hT2, rfl, 27644437, z + 1, rfl, rfl, .inl ⟨by decide, by decide⟩, ?_⟩
      refine ⟨mixA y (z + 1), 27644437 * (z + 1), rfl, rfl, _, 3, rfl, rfl, ⟨rfl, by omega, by omega⟩, .inl ⟨_, rfl, 10, 46, rfl, rfl, ⟨by decide, by decide, by decide⟩, _, 9, rfl, rfl, _, _, rfl, rfl, (by show (0 : Int) < 10 ^ (46 : Int).toNat + 9; decide +kernel), ?_⟩⟩
      refine ⟨_, rfl, _, 524288, rfl, rfl, wide_div (b := 30) (by decide) (by decide) (by decide) (by decide), .inl ⟨_, rfl, .int m, rfl, _, m, rfl, rfl, hm0, ?_⟩⟩
      exact q _ _ (Int.emod_nonneg _ (by omega)) (Int.emod_lt_of_pos _ hm0) ⟨x, y, z + 1, upd_same, hx, hy0, hy, by omega, by omega⟩ upd_but
def spTank (K : PySem.W.Frag) : Sp := fun vs H Q _ => ∃ (a : Addr) (ns : List Int) (i : Int), vs = [.ref a, .int i] ∧ SqL K H a (ns.map V.int) ∧ 0 ≤ i ∧ i < 100 ∧
  ∀ (t : Addr) (H' : Hp), Same H H' → H t = none → Tank H' t 0 → Q (.ref t) H'
theorem ok_law_tank (T : Txt K mg) : FnOk P w K mg base CX0 1 T.a_law_tank T.d_law_tank ["script", "at"] (spTank K) := by
  refine T.F_law_tank.ok sc_law_tank (fun vs H Q E h => ?_) (fun cdv A outer s H vs Q E hr h => ?_)
  · obtain ⟨_, _, _, rfl, _⟩ := h
    rfl
  · obtain ⟨a, ns, i, rfl, hS, hi0, hi, q⟩ := h
    refine ⟨_, (pss_cons (ps_set (i := 2) sc_law_tank.nd rfl (.inl rfl) (pe_ifExp (pt_cmpR op_lt (pv 1) (pe_callB (lenL (K := K) rfl) (by rfl) T.n_len (by decide +kernel) (pa_cons (pv 0) pa_nil)) (nomark _)) (pe_ix (ixL (K := K) rfl) (pv 0) (pv 1) (fun _ _ => rfl)) pe_int))
      (pss_one (ps_ret (pe_lst (pa_cons (pe_callB (call_max2 rfl) (by rfl) T.n_max (by decide +kernel) (pa_cons pe_int (pa_cons (pe_op op_sub (pe_callB call_abs (by rfl) T.n_abs (by decide +kernel) (pa_cons (pv 2) pa_nil)) (pe_op op_pow pe_int pe_int)) pa_nil))) (pa_cons (pe_op op_add (pe_op op_mod (pe_callTy call_int1 (by rfl) T.n_int (by decide +kernel) (pa_cons (pv 2) pa_nil)) pe_int) (pe_op op_mul pe_int (pe_op op_add (pv 1) pe_int))) (pa_cons pe_int pa_nil))))))), ?_⟩
    have fin : ∀ c : Int, (fun σ H' => ∃ y2, σ = [some (.ref a), some (.int i), some y2] ∧ y2 = V.int c ∧ H' = H) [some (.ref a), some (.int i), some (V.int c)] H := fun c => ⟨_, rfl, rfl, rfl⟩
    have key : ∀ c : Int, (0 : Int) ≤ max 0 ((if c < 0 then -c else c) - 10 ^ 18) := fun c => Int.le_max_left _ _
    refine ⟨.int i, rfl, .ref a, rfl, a, _, rfl, .inl hS, i, _, rfl, rfl, _, rfl, ite2 (fun h => ?_) (fun h => ?_)⟩
    · have h1 : i < ns.length := by
        have := of_decide_eq_true h
        rw [List.length_map] at this
        exact this
      obtain ⟨c, hc, hat⟩ := at_in hi0 h1
      refine ⟨.ref a, rfl, .int i, rfl, a, _, i, .int c, rfl, rfl, hS, hat, ?_⟩
      refine ⟨.int c, rfl, c, rfl, 10, 18, rfl, rfl, ⟨by decide, by decide, by decide⟩, _, _, rfl, rfl, 0, _, rfl, ?_⟩
      refine ⟨.int c, rfl, .inl ⟨c, rfl, c, 1000000000000000003, rfl, rfl, (by show (0 : Int) < 1000000000000000003; decide), .int i, rfl, i, 1, rfl, rfl, 104729, i + 1, rfl, rfl, .inl ⟨by decide, by decide⟩, _, _, rfl, rfl, (by show 3 ≤ sizeLine; decide), fun t ht => ?_⟩⟩
      have m0 := Int.emod_nonneg c (show (1000000000000000003 : Int) ≠ 0 by decide)
      have m1 := Int.emod_lt_of_pos c (show (0 : Int) < 1000000000000000003 by decide)
      refine q t _ (new_same ht) ht ⟨_, _, 0, upd_same, ?_, by omega, by omega, by omega, by omega⟩
      split <;> omega
    · refine ⟨.int 0, rfl, 0, rfl, 10, 18, rfl, rfl, ⟨by decide, by decide, by decide⟩, _, _, rfl, rfl, 0, _, rfl, ?_⟩
      refine ⟨.int 0, rfl, .inl ⟨0, rfl, 0, 1000000000000000003, rfl, rfl, (by show (0 : Int) < 1000000000000000003; decide), .int i, rfl, i, 1, rfl, rfl, 104729, i + 1, rfl, rfl, .inl ⟨by decide, by decide⟩, _, _, rfl, rfl, (by show 3 ≤ sizeLine; decide), fun t ht => ?_⟩⟩
      refine q t _ (new_same ht) ht ⟨_, _, 0, upd_same, ?_, by omega, by omega, by omega, by omega⟩
      split <;> omega

/-! ### number_in, count_in -/
theorem hd_intL {n : Int} : (intL n).head? = some 45 ↔ n < 0 := by
  by_cases h : n < 0
  · rw [intL_neg h]
    exact ⟨fun _ => h, fun _ => rfl⟩
  · rw [intL_pos (by omega)]
    refine ⟨fun e => ?_, fun e => absurd e h⟩
    have hm : (45 : Nat) ∈ TL.numL n.natAbs := by
      cases e2 : TL.numL n.natAbs with
      | nil => rw [e2] at e; cases e
      | cons c r =>
        rw [e2] at e
        rw [← Option.some.inj e]
        exact List.mem_cons_self
    exact absurd hm (TL.numL_free (.inl (by decide)))
def spNumIn : Sp := fun vs H Q _ => ∃ n : Int, vs = [.str (intS n)] ∧ n.natAbs < 10 ^ 40 ∧ Q (.int n) H
theorem ok_number_in (T : Txt K mg) : FnOk P w K mg base CX0 1 T.a_number_in T.d_number_in ["word"] spNumIn := by
  refine T.F_number_in.ok sc_number_in (fun vs H Q E h => ?_) (fun cdv A outer s H vs Q E hr h => ?_)
  · obtain ⟨_, rfl, _⟩ := h
    rfl
  · obtain ⟨n, rfl, hn, q⟩ := h
    refine ⟨_, (pss_cons (ps_set (i := 1) sc_number_in.nd rfl (.inl rfl) (pe_ifExp (pt_val (pe_m1 PySem.F.slot_str_startswith PySem.F.type_str_startswith mt_startswith (pv 0) pe_str)) (pe_slice sl_str (pv 0) (po_some pe_int) po_none) (pv 0)))
      (pss_cons (ps_if (PW.pt (pw_or (pt_not (pt_val (pe_m0 PySem.F.slot_str_isascii PySem.F.type_str_isascii mt_isascii (pv 1)))) (pw_or (pt_not (pt_val (pe_m0 PySem.F.slot_str_isdigit PySem.F.type_str_isdigit mt_isdigit (pv 1)))) (pw_or1 (pt_cmpR op_gt (pe_callB call_len_str (by rfl) T.n_len (by decide +kernel) (pa_cons (pv 1) pa_nil)) (pe_glob (v := .int (40)) rfl T.g_MOST_DIGITS ⟨_, rfl⟩) (nomark _)))))) (pss_one (ps_ret pe_non)) pss_nil)
      (pss_cons (ps_if (PW.pt (pw_and (pt_val (pe_m1 PySem.F.slot_str_startswith PySem.F.type_str_startswith mt_startswith (pv 1) pe_str)) (pw_and1 (pt_cmpR op_ne (pv 0) pe_str (nomark _))))) (pss_one (ps_ret pe_non)) pss_nil)
      (pss_one (ps_ret (pe_callTy call_int_str (by rfl) T.n_int (by decide +kernel) (pa_cons (pv 0) pa_nil))))))), ?_⟩
    have il : (intS n).length ≤ 41 := by
      show (mkS (intL n)).length ≤ 41
      rw [mk_len]
      exact intL_len (by decide) hn
    have dl := TL.numL_len (k := 40) (by decide) hn
    refine ⟨.str (intS n), rfl, ⟨_, rfl⟩, intS n, mkS [45], rfl, by rw [cDash], _, rfl, ?_⟩
    have es : Txt.startswith (intS n) (mkS [45]) = decide (n < 0) := by
      show Txt.startswith (mkS (intL n)) (mkS [45]) = _
      rw [starts_one]
      exact decide_eq_decide.mpr hd_intL
    rw [es]
    by_cases hn1 : n < 0
    · rw [decide_eq_true hn1]
      refine iteT ?_
      refine ⟨.str (intS n), rfl, 1, rfl, intS n, rfl, spl_le il (by decide), ?_⟩
      have ec : cutS (intS n) (some 1) none = mkS (TL.numL n.natAbs) := by
        show cutS (mkS (intL n)) (some 1) none = _
        rw [intL_neg hn1, cut_tail]
      rw [ec]
      refine ⟨.str (mkS (TL.numL n.natAbs)), rfl, ⟨_, rfl⟩, _, rfl, rfl, trivial, _, rfl, ?_⟩
      rw [dig_isascii]
      refine iteF ?_
      refine ⟨.str (mkS (TL.numL n.natAbs)), rfl, ⟨_, rfl⟩, _, rfl, rfl, trivial, _, rfl, ?_⟩
      rw [dig_isdigit]
      refine iteF ?_
      refine ⟨.str (mkS (TL.numL n.natAbs)), rfl, _, rfl, spl_le (by rw [mk_len]; exact dl) (by decide), _, 40, rfl, rfl, _, rfl, ite2 (fun h => absurd (of_decide_eq_true h) (by rw [mk_len]; omega)) (fun _ => ?_)⟩
      refine ⟨.str (mkS (TL.numL n.natAbs)), rfl, ⟨_, rfl⟩, _, mkS [48], rfl, by rw [cZero], _, rfl, ?_⟩
      rw [starts_one]
      by_cases hz : (TL.numL n.natAbs).head? = some 48
      · rw [decide_eq_true hz]
        refine iteT ?_
        have hn0 : n = 0 := by
          refine Classical.byContradiction fun e => numL_head n.natAbs (by omega) hz
        have ew : V.str (intS n) = V.str (Str.ofString "0") := by
          rw [cZero, hn0]
          rfl
        refine ⟨.str (intS n), rfl, rfl, _, rfl, iteNS ew ?_⟩
        exact ⟨.str (intS n), rfl, _, n, rfl, int_reads (Nat.lt_of_lt_of_le hn (Nat.pow_le_pow_right (by decide) (by decide))), by omega, q⟩
      · rw [decide_eq_false hz]
        refine iteF (iteF ?_)
        exact ⟨.str (intS n), rfl, _, n, rfl, int_reads (Nat.lt_of_lt_of_le hn (Nat.pow_le_pow_right (by decide) (by decide))), by omega, q⟩
    · rw [decide_eq_false hn1]
      refine iteF ?_
      refine ⟨.str (intS n), rfl, ?_⟩
      have ed : intS n = mkS (TL.numL n.natAbs) := by
        show mkS (intL n) = _
        rw [intL_pos (by omega)]
      show gName 1 (V.str (intS n)) _ _ _
      rw [show gName 1 (V.str (intS n)) = gName 1 (V.str (mkS (TL.numL n.natAbs))) from congrArg (fun z => gName 1 (V.str z)) ed]
      refine ⟨.str (mkS (TL.numL n.natAbs)), rfl, ⟨_, rfl⟩, _, rfl, rfl, trivial, _, rfl, ?_⟩
      rw [dig_isascii]
      refine iteF ?_
      refine ⟨.str (mkS (TL.numL n.natAbs)), rfl, ⟨_, rfl⟩, _, rfl, rfl, trivial, _, rfl, ?_⟩
      rw [dig_isdigit]
      refine iteF ?_
      refine ⟨.str (mkS (TL.numL n.natAbs)), rfl, _, rfl, spl_le (by rw [mk_len]; exact dl) (by decide), _, 40, rfl, rfl, _, rfl, ite2 (fun h => absurd (of_decide_eq_true h) (by rw [mk_len]; omega)) (fun _ => ?_)⟩
      refine ⟨.str (mkS (TL.numL n.natAbs)), rfl, ⟨_, rfl⟩, _, mkS [48], rfl, by rw [cZero], _, rfl, ?_⟩
      rw [starts_one]
      by_cases hz : (TL.numL n.natAbs).head? = some 48
      · rw [decide_eq_true hz]
        refine iteT ?_
        have hn0 : n = 0 := by
          refine Classical.byContradiction fun e => numL_head n.natAbs (by omega) hz
        have ew : V.str (intS n) = V.str (Str.ofString "0") := by
          rw [cZero, hn0]
          rfl
        refine ⟨.str (intS n), rfl, rfl, _, rfl, iteNS ew ?_⟩
        exact ⟨.str (intS n), rfl, _, n, rfl, int_reads (Nat.lt_of_lt_of_le hn (Nat.pow_le_pow_right (by decide) (by decide))), by omega, q⟩
      · rw [decide_eq_false hz]
        refine iteF (iteF ?_)
        exact ⟨.str (intS n), rfl, _, n, rfl, int_reads (Nat.lt_of_lt_of_le hn (Nat.pow_le_pow_right (by decide) (by decide))), by omega, q⟩
def spCountIn : Sp := fun vs H Q _ => ∃ n : Int, vs = [.str (intS n)] ∧ 0 ≤ n ∧ n.natAbs < 10 ^ 40 ∧ Q (.int n) H
theorem ok_count_in (T : Txt K mg) : FnOk P w K mg base CX0 2 T.a_count_in T.d_count_in ["word"] spCountIn := by
  have G_number_in := ok_number_in (P := P) (w := w) (base := base) T
  refine T.F_count_in.ok sc_count_in (fun vs H Q E h => ?_) (fun cdv A outer s H vs Q E hr h => ?_)
  · obtain ⟨_, rfl, _⟩ := h
    rfl
  · obtain ⟨n, rfl, h0, hn, q⟩ := h
    refine ⟨_, (pss_cons (ps_set (i := 1) sc_count_in.nd rfl (.inl rfl) (pe_call G_number_in hr (by rfl) T.g_number_in T.F_number_in.kp T.b_number_in .nil pass0 (pa_cons (pv 0) pa_nil)))
      (pss_one (ps_ret (pe_ifExp (PW.pt (pw_or (pt_cmpR op_isN (pv 1) pe_non (nomark _)) (pw_or1 (pt_cmpR op_lt (pv 1) pe_int (nomark _))))) pe_non (pv 1))))), ?_⟩
    refine ⟨.str (intS n), rfl, n, rfl, hn, ?_⟩
    refine ⟨.int n, rfl, rfl, _, rfl, ?_⟩
    show (if decide (V.int n = V.non) = true then _ else _)
    rw [decide_eq_false (fun e => nomatch e)]
    refine iteF ?_
    refine ⟨.int n, rfl, n, 0, rfl, rfl, _, rfl, ite2 (fun h => absurd (of_decide_eq_true h) (by omega)) (fun _ => ?_)⟩
    exact ⟨.int n, rfl, q⟩
/-! ### read -/
def spSlotIn : Sp := fun vs H Q _ => ∃ n : Int, vs = [.str (intS n)] ∧ 0 ≤ n ∧ n ≤ 1000000000000000000000000000000 ∧ Q (.int n) H
theorem rim_small {n : Int} (h0 : 0 ≤ n) (h : n ≤ 1000000000000000000000000000000) : n.natAbs < 10 ^ 40 := by
  have e : (10 : Nat) ^ 40 = 10000000000000000000000000000000000000000 := by decide +kernel
  rw [e]
  omega
theorem ok_slot_in (T : Txt K mg) : FnOk P w K mg base CX0 3 T.a_slot_in T.d_slot_in ["word"] spSlotIn := by
  have G_count_in := ok_count_in (P := P) (w := w) (base := base) T
  refine T.F_slot_in.ok sc_slot_in (fun vs H Q E h => ?_) (fun cdv A outer s H vs Q E hr h => ?_)
  · obtain ⟨_, rfl, _⟩ := h
    rfl
  · obtain ⟨n, rfl, h0, hn, q⟩ := h
    refine ⟨_, (pss_cons (ps_set (i := 1) sc_slot_in.nd rfl (.inl rfl) (pe_call G_count_in hr (by rfl) T.g_count_in T.F_count_in.kp T.b_count_in .nil pass0 (pa_cons (pv 0) pa_nil)))
      (pss_one (ps_ret (pe_ifExp (PW.pt (pw_or (pt_cmpR op_isN (pv 1) pe_non (nomark _)) (pw_or1 (pt_cmpR op_gt (pv 1) (pe_glob (v := .int (1000000000000000000000000000000)) rfl T.g_MOST_LIGHT ⟨_, rfl⟩) (nomark _))))) pe_non (pv 1))))), ?_⟩
    refine ⟨.str (intS n), rfl, n, rfl, h0, rim_small h0 hn, ?_⟩
    refine ⟨.int n, rfl, rfl, _, rfl, ?_⟩
    show (if decide (V.int n = V.non) = true then _ else _)
    rw [decide_eq_false (fun e => nomatch e)]
    refine iteF ?_
    refine ⟨.int n, rfl, n, _, rfl, rfl, _, rfl, ite2 (fun h => absurd (of_decide_eq_true h) (by omega)) (fun _ => ?_)⟩
    exact ⟨.int n, rfl, q⟩
def spLookIn : Sp := fun vs H Q _ => ∃ p : Int × Int, vs = [.str (mkS (lookL p))] ∧ p.1.natAbs < 10 ^ 40 ∧ 0 ≤ p.2 ∧ p.2.natAbs < 10 ^ 40 ∧ ∀ (t : Addr) (H' : Hp), Same H H' → H' t = some (.tup [.int p.1, .int p.2]) → Q (.ref t) H'
theorem ok_look_in (T : Txt K mg) : FnOk P w K mg base CX0 3 T.a_look_in T.d_look_in ["word"] spLookIn := by
  have G_number_in := ok_number_in (P := P) (w := w) (base := base) T
  have G_count_in := ok_count_in (P := P) (w := w) (base := base) T
  refine T.F_look_in.ok sc_look_in (fun vs H Q E h => ?_) (fun cdv A outer s H vs Q E hr h => ?_)
  · obtain ⟨_, rfl, _⟩ := h
    rfl
  · obtain ⟨p, rfl, b1, b0, b2, q⟩ := h
    refine ⟨_, (pss_cons (ps_asg (pe_partition (pv 0) pe_str) (pg_tupL (K := K) (n := 3) rfl rfl (pgs_cons (pg_name (i := 1) sc_look_in.nd rfl (.inl rfl)) (pgs_cons (pg_name (i := 2) sc_look_in.nd rfl (.inl rfl)) (pgs_cons (pg_name (i := 3) sc_look_in.nd rfl (.inl rfl)) pgs_nil)))))
      (pss_cons (ps_par (i := 4) (j := 5) (by rfl) sc_look_in.nd rfl rfl (by decide) rfl rfl (pa_cons (pe_call G_number_in (hr.mono (by decide)) (by rfl) T.g_number_in T.F_number_in.kp T.b_number_in .nil pass0 (pa_cons (pv 1) pa_nil)) (pa_cons (pe_call G_count_in hr (by rfl) T.g_count_in T.F_count_in.kp T.b_count_in .nil pass0 (pa_cons (pv 3) pa_nil)) pa_nil)) (by rfl))
      (pss_one (ps_ret (pe_ifExp (PW.pt (pw_or (pt_cmpR op_isN (pv 4) pe_non (nomark _)) (pw_or1 (pt_cmpR op_isN (pv 5) pe_non (nomark _))))) pe_non (pe_tup (pa_cons (pv 4) (pa_cons (pv 5) pa_nil)))))))), ?_⟩
    have ll := look_len (k := 40) (by decide) b1 b2
    refine ⟨.str (mkS (lookL p)), rfl, ⟨_, rfl⟩, mkS (lookL p), mkS [61], rfl, by rw [cEq], rfl, by rw [mk_len]; exact spl_le ll (by decide), fun t ht => ?_⟩
    rw [look_cut]
    have s1 := new_same (o := .tup [.str (intS p.1), .str (mkS [61]), .str (intS p.2)]) ht
    refine ⟨t, _, rfl, SqT.of upd_same, rfl, _, _, rfl, _, _, rfl, _, _, rfl, rfl, ?_⟩
    refine ⟨.str (intS p.1), rfl, p.1, rfl, b1, .str (intS p.2), rfl, p.2, rfl, b0, b2, _, _, rfl, ?_⟩
    refine ⟨.int p.1, rfl, rfl, _, rfl, ?_⟩
    show (if decide (V.int p.1 = V.non) = true then _ else _)
    rw [decide_eq_false (fun e => nomatch e)]
    refine iteF ?_
    refine ⟨.int p.2, rfl, rfl, _, rfl, ?_⟩
    show (if decide (V.int p.2 = V.non) = true then _ else _)
    rw [decide_eq_false (fun e => nomatch e)]
    refine iteF ?_
    refine ⟨.int p.1, rfl, .int p.2, rfl, (by show 2 ≤ sizeLine; decide), fun t2 ht2 => ?_⟩
    exact q t2 _ (s1.trans (new_same ht2)) upd_same
def spCheckText : Sp := fun vs H Q _ => ∃ x : Str, vs = [.str x] ∧ Q .non H
theorem kit_str_str {K : PySem.W.Frag} : PySem.W.kitOne K (.type "str") (.type "str") = some true := kit_ty (by decide +kernel)
theorem ok_check_text (T : Txt K mg) : FnOk P w K mg base CX0 3 T.a_check_text T.d_check_text ["text"] spCheckText := by
  refine T.F_check_text.ok sc_check_text (fun vs H Q E h => ?_) (fun cdv A outer s H vs Q E hr h => ?_)
  · obtain ⟨_, rfl, _⟩ := h
    rfl
  · obtain ⟨x, rfl, q⟩ := h
    refine ⟨_, (pss_one (ps_if (pt_not (pt_val (pe_callB (isiL (K := K) rfl) (by rfl) T.n_isinstance (by decide +kernel) (pa_cons (pv 0) (pa_cons (pe_bltn (v := .ty "str") (u := Value.type "str") rfl T.n_str (by decide +kernel) rfl) pa_nil))))) (pss_one ps_never) pss_nil)), ?_⟩
    exact ⟨.str x, rfl, .str x, .ty "str", _, _, true, rfl, .ty _, .base (.str x), kit_str_str, true, rfl, iteF q⟩

/-! ### the errors' own __init__ -/
def FieldOk (x : V) : Prop := x = .non ∨ ∃ i : Int, x = .int i ∧ i.natAbs < 10 ^ 30
/-- f: the field -/
def spInit (K : PySem.W.Frag) (C : Addr) (f : Str) : Sp := fun vs H Q _ => ∃ (a : Addr) (x : V), vs = [.ref a, x] ∧ H a = some (exo a C none) ∧ FieldOk x ∧
  ∀ dx, H dx = none → dx ≠ a → Q .non (upd (upd H dx (exd dx [(f, x)])) a (exo a C (some dx)))
theorem field_log {i : Int} (h : i.natAbs < 10 ^ 30) : i.natAbs.log2 < 1920 := by
  have h2 : i.natAbs < 2 ^ 1919 := Nat.lt_trans h (by decide +kernel)
  by_cases e : i.natAbs = 0
  · rw [e]
    decide
  · exact Nat.lt_trans ((Nat.log2_lt e).mpr h2) (by decide)
theorem field_len {i : Int} (h : i.natAbs < 10 ^ 30) : (Str.ofString (toString i)).length ≤ 31 := by
  rw [str_int]
  show (mkS (intL i)).length ≤ 31
  rw [mk_len]
  exact intL_len (by decide) h
theorem fld_sz {t : Str} {n : Nat} (h : t.length ≤ n) (hn : n ≤ 1000) : t.length ≤ sizeLine := by
  rw [sizeLine_eq]
  omega
/-- the three parts of the text -/
theorem fld_join {t1 t3 : Str} {te : TE} {x : V} {σ : L2.St} {H : Hp} {Q : VK} (hx : FieldOk x) (h1 : t1.length ≤ 100) (h3 : t3.length ≤ 100) (he : ∀ R : VK, R x H → te σ H R) (q : ∀ y, Q (.str y) H) : tJoined [tC (.str t1), tFmtN te, tC (.str t3)] σ H Q := by
  have l0 : (Str.empty ++ t1).length ≤ 100 := by
    rw [Str.length_append]
    show 0 + t1.length ≤ 100
    omega
  refine ⟨t1, rfl, fld_sz l0 (by decide), ?_⟩
  refine he _ ?_
  rcases hx with rfl | ⟨i, rfl, hi⟩
  · refine .inl ⟨rfl, _, rfl, ?_, _, rfl, ?_, q _⟩
    · exact fld_sz (n := 200) (by rw [Str.length_append]; show _ + 4 ≤ 200; omega) (by decide)
    · exact fld_sz (n := 300) (by rw [Str.length_append, Str.length_append]; show _ + 4 + _ ≤ 300; omega) (by decide)
  · have hl := field_len hi
    refine .inr ⟨i, rfl, field_log hi, _, rfl, ?_, _, rfl, ?_, q _⟩
    · exact fld_sz (n := 200) (by rw [Str.length_append]; omega) (by decide)
    · exact fld_sz (n := 300) (by rw [Str.length_append, Str.length_append]; omega) (by decide)
theorem ok_InvalidSyntax_init (T : Txt K mg) : FnOk P w K mg base CX0 1 T.a_InvalidSyntax_init T.d_InvalidSyntax_init ["self", "word"] (spInit K T.C_InvalidSyntax "word") := by
  refine T.F_InvalidSyntax_init.ok sc_InvalidSyntax_init (fun vs H Q E h => ?_) (fun cdv A outer s H vs Q E hr h => ?_)
  · obtain ⟨_, _, rfl, _⟩ := h
    rfl
  · obtain ⟨a, x, rfl, hA, hx, q⟩ := h
    refine ⟨_, (pss_cons (ps_expr (pe_dinit (by rfl) T.g_DiscError T.cr_DiscError T.vi_DiscError (pa_cons (pv 0) (pa_cons (pe_joinedN (PJ.cons pe_str (PJ.cons (pe_fmtN (pv 1)) (PJ.cons pe_str PJ.nil)))) pa_nil))))
      (pss_one (ps_ost (pv 0) (pv 1)))), ?_⟩
    refine ⟨.ref a, rfl, ?_⟩
    refine fld_join hx (by decide +kernel) (by decide +kernel) (fun R h => ⟨x, rfl, h⟩) fun y => ?_
    refine ⟨a, T.C_InvalidSyntax, [.str y], rfl, (by show 1 ≤ 1000; decide), T.o_InvalidSyntax, hA, ?_⟩
    exact ⟨x, rfl, .ref a, rfl, a, T.C_InvalidSyntax, rfl, T.o_InvalidSyntax, T.nf_InvalidSyntax_word, .inl ⟨hA, fun dx h1 h2 => q dx h1 h2⟩⟩

/-! ### words that are no numbers -/
theorem fnok_or {CX : CXT} {k : Nat} {f : Addr} {fd : FuncData} {ps : List Str} {sp1 sp2 : Sp} (F : FnOk P w K mg base CX k f fd ps sp1) (G : FnOk P w K mg base CX k f fd ps sp2) : FnOk P w K mg base CX k f fd ps (fun vs H Q E => sp1 vs H Q E ∨ sp2 vs H Q E) := by
  refine ⟨fun vs H Q E h => h.elim (F.len vs H Q E) (G.len vs H Q E), ?_⟩
  intro A outer s H args us vs Q E hr e0 b r h
  exact h.elim (F.run A outer s H args us vs Q E hr e0 b r) (G.run A outer s H args us vs Q E hr e0 b r)
def digS (u : Str) : Str := if Txt.startswith u (mkS [45]) = true then cutS u (some 1) none else u
/-- what number_in tells from a word by its signs -/
def numBad (u : Str) : Bool := !Txt.isascii (digS u) || !Txt.isdigit (digS u) || decide (40 < (digS u).length) || (Txt.startswith (digS u) (mkS [48]) && decide (u ≠ Str.ofString "0"))
def spNumBad : Sp := fun vs H Q _ => ∃ u : Str, vs = [.str u] ∧ u.length ≤ 20000 ∧ (digS u).length ≤ 20000 ∧ numBad u = true ∧ Q .non H
theorem ok_number_bad (T : Txt K mg) : FnOk P w K mg base CX0 1 T.a_number_in T.d_number_in ["word"] spNumBad := by
  refine T.F_number_in.ok sc_number_in (fun vs H Q E h => ?_) (fun cdv A outer s H vs Q E hr h => ?_)
  · obtain ⟨_, rfl, _⟩ := h
    rfl
  · obtain ⟨u, rfl, hl, hd, hb, q⟩ := h
    refine ⟨_, (pss_cons (ps_set (i := 1) sc_number_in.nd rfl (.inl rfl) (pe_ifExp (pt_val (pe_m1 PySem.F.slot_str_startswith PySem.F.type_str_startswith mt_startswith (pv 0) pe_str)) (pe_slice sl_str (pv 0) (po_some pe_int) po_none) (pv 0)))
      (pss_cons (ps_if (PW.pt (pw_or (pt_not (pt_val (pe_m0 PySem.F.slot_str_isascii PySem.F.type_str_isascii mt_isascii (pv 1)))) (pw_or (pt_not (pt_val (pe_m0 PySem.F.slot_str_isdigit PySem.F.type_str_isdigit mt_isdigit (pv 1)))) (pw_or1 (pt_cmpR op_gt (pe_callB call_len_str (by rfl) T.n_len (by decide +kernel) (pa_cons (pv 1) pa_nil)) (pe_glob (v := .int (40)) rfl T.g_MOST_DIGITS ⟨_, rfl⟩) (nomark _)))))) (pss_one (ps_ret pe_non)) pss_nil)
      (pss_cons (ps_if (PW.pt (pw_and (pt_val (pe_m1 PySem.F.slot_str_startswith PySem.F.type_str_startswith mt_startswith (pv 1) pe_str)) (pw_and1 (pt_cmpR op_ne (pv 0) pe_str (nomark _))))) (pss_one (ps_ret pe_non)) pss_nil)
      (pss_one (ps_ret (pe_callTy call_int_str (by rfl) T.n_int (by decide +kernel) (pa_cons (pv 0) pa_nil))))))), ?_⟩
    have hsz : u.length ≤ sizeLine := spl_le hl (by decide)
    refine ⟨.str u, rfl, ⟨_, rfl⟩, u, mkS [45], rfl, by rw [cDash], _, rfl, ?_⟩
    unfold numBad at hb
    unfold digS at hb hd
    by_cases h1 : Txt.startswith u (mkS [45]) = true
    · rw [if_pos h1] at hb hd
      rw [h1]
      refine iteT ?_
      refine ⟨.str u, rfl, 1, rfl, u, rfl, hsz, ?_⟩
      generalize cutS u (some 1) none = D at hb hd ⊢
      refine ⟨.str D, rfl, ⟨_, rfl⟩, _, rfl, rfl, trivial, _, rfl, ?_⟩
      cases ea : Txt.isascii D with
      | false => exact iteT q
      | true =>
        refine iteF ?_
        refine ⟨.str D, rfl, ⟨_, rfl⟩, _, rfl, rfl, trivial, _, rfl, ?_⟩
        cases ei : Txt.isdigit D with
        | false => exact iteT q
        | true =>
          refine iteF ?_
          refine ⟨.str D, rfl, _, rfl, spl_le hd (by decide), _, 40, rfl, rfl, _, rfl, ite2 (fun _ => q) (fun h40 => ?_)⟩
          refine ⟨.str D, rfl, ⟨_, rfl⟩, _, mkS [48], rfl, by rw [cZero], _, rfl, ?_⟩
          have h40 : ¬ 40 < D.length := fun z => h40 (decide_eq_true (by omega))
          rw [ea, ei, decide_eq_false h40] at hb
          cases es : Txt.startswith D (mkS [48]) with
          | false =>
            rw [es] at hb
            cases hb
          | true =>
            rw [es] at hb
            have hne : u ≠ Str.ofString "0" := of_decide_eq_true hb
            refine iteT ?_
            refine ⟨.str u, rfl, rfl, _, rfl, ite2 (fun _ => q) (fun h => absurd (fun z => hne (V.str.inj z)) fun z => h (by simpa using fun y => z (by rw [y])))⟩
    · rw [if_neg h1] at hb hd
      rw [Bool.eq_false_iff.mpr h1]
      refine iteF ?_
      refine ⟨.str u, rfl, ?_⟩
      obtain ⟨D, hD⟩ : ∃ D, D = u := ⟨_, rfl⟩
      have hb : (!Txt.isascii D || !Txt.isdigit D || decide (40 < D.length) || (Txt.startswith D (mkS [48]) && decide (u ≠ Str.ofString "0"))) = true := by rw [hD]; exact hb
      have hd : D.length ≤ 20000 := by rw [hD]; exact hd
      show gName 1 (V.str u) _ _ _
      rw [show gName 1 (V.str u) = gName 1 (V.str D) from congrArg (fun z => gName 1 (V.str z)) hD.symm]
      refine ⟨.str D, rfl, ⟨_, rfl⟩, _, rfl, rfl, trivial, _, rfl, ?_⟩
      cases ea : Txt.isascii D with
      | false => exact iteT q
      | true =>
        refine iteF ?_
        refine ⟨.str D, rfl, ⟨_, rfl⟩, _, rfl, rfl, trivial, _, rfl, ?_⟩
        cases ei : Txt.isdigit D with
        | false => exact iteT q
        | true =>
          refine iteF ?_
          refine ⟨.str D, rfl, _, rfl, spl_le hd (by decide), _, 40, rfl, rfl, _, rfl, ite2 (fun _ => q) (fun h40 => ?_)⟩
          refine ⟨.str D, rfl, ⟨_, rfl⟩, _, mkS [48], rfl, by rw [cZero], _, rfl, ?_⟩
          have h40 : ¬ 40 < D.length := fun z => h40 (decide_eq_true (by omega))
          rw [ea, ei, decide_eq_false h40] at hb
          cases es : Txt.startswith D (mkS [48]) with
          | false =>
            rw [es] at hb
            cases hb
          | true =>
            rw [es] at hb
            have hne : u ≠ Str.ofString "0" := of_decide_eq_true hb
            refine iteT ?_
            refine ⟨.str u, rfl, rfl, _, rfl, ite2 (fun _ => q) (fun h => absurd (fun z => hne (V.str.inj z)) fun z => h (by simpa using fun y => z (by rw [y])))⟩
def NB (u : Str) : Prop := u.length ≤ 20000 ∧ (digS u).length ≤ 20000 ∧ numBad u = true
def NG (u : Str) : Prop := ∃ n : Int, u = intS n ∧ n.natAbs < 10 ^ 40
def CB (u : Str) : Prop := NB u ∨ ∃ n : Int, u = intS n ∧ n < 0 ∧ n.natAbs < 10 ^ 40
def CG (u : Str) : Prop := ∃ n : Int, u = intS n ∧ 0 ≤ n ∧ n.natAbs < 10 ^ 40
def spCountBad : Sp := fun vs H Q _ => ∃ u : Str, vs = [.str u] ∧ CB u ∧ Q .non H
theorem ok_count_bad (T : Txt K mg) : FnOk P w K mg base CX0 2 T.a_count_in T.d_count_in ["word"] spCountBad := by
  have G_number_in := fnok_or (ok_number_in (P := P) (w := w) (base := base) T) (ok_number_bad T)
  refine T.F_count_in.ok sc_count_in (fun vs H Q E h => ?_) (fun cdv A outer s H vs Q E hr h => ?_)
  · obtain ⟨_, rfl, _⟩ := h
    rfl
  · obtain ⟨u, rfl, hb, q⟩ := h
    refine ⟨_, (pss_cons (ps_set (i := 1) sc_count_in.nd rfl (.inl rfl) (pe_call G_number_in hr (by rfl) T.g_number_in T.F_number_in.kp T.b_number_in .nil pass0 (pa_cons (pv 0) pa_nil)))
      (pss_one (ps_ret (pe_ifExp (PW.pt (pw_or (pt_cmpR op_isN (pv 1) pe_non (nomark _)) (pw_or1 (pt_cmpR op_lt (pv 1) pe_int (nomark _))))) pe_non (pv 1))))), ?_⟩
    rcases hb with ⟨h1, h2, h3⟩ | ⟨n, rfl, hn0, hn⟩
    · refine ⟨.str u, rfl, .inr ⟨u, rfl, h1, h2, h3, ?_⟩⟩
      refine ⟨.non, rfl, rfl, _, rfl, ?_⟩
      show (if decide (V.non = V.non) = true then _ else _)
      rw [decide_eq_true rfl]
      exact iteT q
    · refine ⟨.str (intS n), rfl, .inl ⟨n, rfl, hn, ?_⟩⟩
      refine ⟨.int n, rfl, rfl, _, rfl, ?_⟩
      show (if decide (V.int n = V.non) = true then _ else _)
      rw [decide_eq_false (fun e => nomatch e)]
      refine iteF ?_
      exact ⟨.int n, rfl, n, 0, rfl, rfl, _, rfl, ite2 (fun _ => q) (fun h => absurd (decide_eq_true hn0) h)⟩
def spSlotBad : Sp := fun vs H Q _ => ∃ u : Str, vs = [.str u] ∧ CB u ∧ Q .non H
theorem ok_slot_bad (T : Txt K mg) : FnOk P w K mg base CX0 3 T.a_slot_in T.d_slot_in ["word"] spSlotBad := by
  have G_count_in := ok_count_bad (P := P) (w := w) (base := base) T
  refine T.F_slot_in.ok sc_slot_in (fun vs H Q E h => ?_) (fun cdv A outer s H vs Q E hr h => ?_)
  · obtain ⟨_, rfl, _⟩ := h
    rfl
  · obtain ⟨u, rfl, hb, q⟩ := h
    refine ⟨_, (pss_cons (ps_set (i := 1) sc_slot_in.nd rfl (.inl rfl) (pe_call G_count_in hr (by rfl) T.g_count_in T.F_count_in.kp T.b_count_in .nil pass0 (pa_cons (pv 0) pa_nil)))
      (pss_one (ps_ret (pe_ifExp (PW.pt (pw_or (pt_cmpR op_isN (pv 1) pe_non (nomark _)) (pw_or1 (pt_cmpR op_gt (pv 1) (pe_glob (v := .int (1000000000000000000000000000000)) rfl T.g_MOST_LIGHT ⟨_, rfl⟩) (nomark _))))) pe_non (pv 1))))), ?_⟩
    refine ⟨.str u, rfl, u, rfl, hb, ?_⟩
    refine ⟨.non, rfl, rfl, _, rfl, ?_⟩
    show (if decide (V.non = V.non) = true then _ else _)
    rw [decide_eq_true rfl]
    exact iteT q
/-- the parts of a look that is none -/
def LB (u : Str) : Prop := u.length ≤ 20000 ∧ ((NB (Txt.partition u (mkS [61])).1 ∧ (CB (Txt.partition u (mkS [61])).2.2 ∨ CG (Txt.partition u (mkS [61])).2.2)) ∨ (NG (Txt.partition u (mkS [61])).1 ∧ CB (Txt.partition u (mkS [61])).2.2))
def spLookBad : Sp := fun vs H Q _ => ∃ u : Str, vs = [.str u] ∧ LB u ∧ ∀ H', Same H H' → Q .non H'
theorem ok_look_bad (T : Txt K mg) : FnOk P w K mg base CX0 3 T.a_look_in T.d_look_in ["word"] spLookBad := by
  have G_number_in := fnok_or (ok_number_in (P := P) (w := w) (base := base) T) (ok_number_bad T)
  have G_count_in := fnok_or (ok_count_in (P := P) (w := w) (base := base) T) (ok_count_bad T)
  refine T.F_look_in.ok sc_look_in (fun vs H Q E h => ?_) (fun cdv A outer s H vs Q E hr h => ?_)
  · obtain ⟨_, rfl, _⟩ := h
    rfl
  · obtain ⟨u, rfl, ⟨hl, hb⟩, q⟩ := h
    refine ⟨_, (pss_cons (ps_asg (pe_partition (pv 0) pe_str) (pg_tupL (K := K) (n := 3) rfl rfl (pgs_cons (pg_name (i := 1) sc_look_in.nd rfl (.inl rfl)) (pgs_cons (pg_name (i := 2) sc_look_in.nd rfl (.inl rfl)) (pgs_cons (pg_name (i := 3) sc_look_in.nd rfl (.inl rfl)) pgs_nil)))))
      (pss_cons (ps_par (i := 4) (j := 5) (by rfl) sc_look_in.nd rfl rfl (by decide) rfl rfl (pa_cons (pe_call G_number_in (hr.mono (by decide)) (by rfl) T.g_number_in T.F_number_in.kp T.b_number_in .nil pass0 (pa_cons (pv 1) pa_nil)) (pa_cons (pe_call G_count_in hr (by rfl) T.g_count_in T.F_count_in.kp T.b_count_in .nil pass0 (pa_cons (pv 3) pa_nil)) pa_nil)) (by rfl))
      (pss_one (ps_ret (pe_ifExp (PW.pt (pw_or (pt_cmpR op_isN (pv 4) pe_non (nomark _)) (pw_or1 (pt_cmpR op_isN (pv 5) pe_non (nomark _))))) pe_non (pe_tup (pa_cons (pv 4) (pa_cons (pv 5) pa_nil)))))))), ?_⟩
    refine ⟨.str u, rfl, ⟨_, rfl⟩, u, mkS [61], rfl, by rw [cEq], rfl, spl_le hl (by decide), fun t ht => ?_⟩
    generalize Txt.partition u (mkS [61]) = tr at hb ⊢
    obtain ⟨b, m, e⟩ := tr
    have s1 := new_same (o := .tup [.str b, .str m, .str e]) ht
    refine ⟨t, _, rfl, SqT.of upd_same, rfl, _, _, rfl, _, _, rfl, _, _, rfl, rfl, ?_⟩
    generalize upd H t (.tup [.str b, .str m, .str e]) = H1 at s1 ⊢
    rcases hb with ⟨⟨h1, h2, h3⟩, hc⟩ | ⟨⟨n, en, hn⟩, hc⟩
    · refine ⟨.str b, rfl, .inr ⟨b, rfl, h1, h2, h3, ?_⟩⟩
      rcases hc with hc | ⟨k, ek, k0, kb⟩
      · refine ⟨.str e, rfl, .inr ⟨e, rfl, hc, ?_⟩⟩
        refine ⟨_, _, rfl, ?_⟩
        refine ⟨.non, rfl, rfl, _, rfl, ?_⟩
        show (if decide (V.non = V.non) = true then _ else _)
        rw [decide_eq_true rfl]
        exact iteT (q _ s1)
      · have ek : e = intS k := ek
        refine ⟨.str e, rfl, .inl ⟨k, by rw [ek]; rfl, k0, kb, ?_⟩⟩
        refine ⟨_, _, rfl, ?_⟩
        refine ⟨.non, rfl, rfl, _, rfl, ?_⟩
        show (if decide (V.non = V.non) = true then _ else _)
        rw [decide_eq_true rfl]
        exact iteT (q _ s1)
    · have en : b = intS n := en
      refine ⟨.str b, rfl, .inl ⟨n, by rw [en]; rfl, hn, ?_⟩⟩
      refine ⟨.str e, rfl, .inr ⟨e, rfl, hc, ?_⟩⟩
      refine ⟨_, _, rfl, ?_⟩
      refine ⟨.int n, rfl, rfl, _, rfl, ?_⟩
      show (if decide (V.int n = V.non) = true then _ else _)
      rw [decide_eq_false (fun e => nomatch e)]
      refine iteF ?_
      refine ⟨.non, rfl, rfl, _, rfl, ?_⟩
      show (if decide (V.non = V.non) = true then _ else _)
      rw [decide_eq_true rfl]
      exact iteT (q _ s1)

/-! ### _law_words, handed an InvalidSyntax -/
def kindsT (T : Txt K mg) : List Addr := [T.C_InvalidNumber, T.C_InvalidTurn, T.C_InvalidSlot, T.C_Impossible, T.C_NothingToUndo, T.C_InvalidCommand, T.C_InvalidDisc, T.C_InvalidRow, T.C_InvalidLights, T.C_InvalidLooks, T.C_InvalidSyntax]
def sX : V → Str
  | .int i => toString i
  | _ => "None"
theorem sX_len {x : V} (hx : FieldOk x) : (sX x).length ≤ 100 := by
  rcases hx with rfl | ⟨i, rfl, h⟩
  · exact (by decide +kernel : (Str.ofString "None").length ≤ 100)
  · exact Nat.le_trans (field_len h) (by decide)
theorem reprF_of {x : V} {H : Hp} {Q : VK} (hx : FieldOk x) (q : Q (.str (sX x)) H) : rReprF [x] H Q := by
  rcases hx with rfl | ⟨i, rfl, h⟩
  · exact .inl ⟨rfl, q⟩
  · exact .inr ⟨i, rfl, field_log h, q⟩
theorem fl_look {f : Str} {x : V} : List.lookup f [(f, x)] = some x := by rw [lookup_put, if_pos rfl]
def spWords (T : Txt K mg) : Addr × Obj → Sp := fun p vs H Q _ => ∃ x : V, vs = [.ref p.1] ∧ PinE H p T.C_InvalidSyntax [("word", x)] ∧ FieldOk x ∧
  ∀ (l : Addr) (H' : Hp), Same H H' → H l = none → H' l = some (.lst [.str ("syntax " ++ sX x)]) → Q (.ref l) H'
theorem ok_law_words (T : Txt K mg) : FnZ P w K mg base CX0 1 T.a_law_words T.d_law_words ["e"] (spWords T) := by
  refine okZ T.F_law_words sc_law_words (fun p vs H Q E h => ?_) (fun cd A outer s H vs Q E p hg hot hr h => ?_)
  · obtain ⟨_, rfl, _⟩ := h
    rfl
  · obtain ⟨x, rfl, hE, hx, q⟩ := h
    refine ⟨_, (pss_cons (ps_set (i := 1) sc_law_words.nd rfl (.inl rfl) (pe_lst (pa_cons (pe_tup (pa_cons pe_str (pa_cons (pe_callB (isPL (K := K) (p := p) rfl List.mem_cons_self) (by rfl) T.n_isinstance (by decide +kernel) (pa_cons (pv 0) (pa_cons (pe_glob (v := .ref T.C_InvalidNumber) rfl T.g_InvalidNumber rfl) pa_nil))) pa_nil))) (pa_cons (pe_tup (pa_cons pe_str (pa_cons (pe_callB (isPL (K := K) (p := p) rfl List.mem_cons_self) (by rfl) T.n_isinstance (by decide +kernel) (pa_cons (pv 0) (pa_cons (pe_glob (v := .ref T.C_InvalidTurn) rfl T.g_InvalidTurn rfl) pa_nil))) pa_nil))) pa_nil))))
      (pss_cons (ps_set (i := 1) sc_law_words.nd rfl (.inl rfl) (pe_op op_cat (pv 1) (pe_lst (pa_cons (pe_tup (pa_cons pe_str (pa_cons (pe_callB (isPL (K := K) (p := p) rfl List.mem_cons_self) (by rfl) T.n_isinstance (by decide +kernel) (pa_cons (pv 0) (pa_cons (pe_glob (v := .ref T.C_InvalidSlot) rfl T.g_InvalidSlot rfl) pa_nil))) pa_nil))) (pa_cons (pe_tup (pa_cons pe_str (pa_cons (pe_callB (isPL (K := K) (p := p) rfl List.mem_cons_self) (by rfl) T.n_isinstance (by decide +kernel) (pa_cons (pv 0) (pa_cons (pe_glob (v := .ref T.C_Impossible) rfl T.g_Impossible rfl) pa_nil))) pa_nil))) pa_nil)))))
      (pss_cons (ps_set (i := 1) sc_law_words.nd rfl (.inl rfl) (pe_op op_cat (pv 1) (pe_lst (pa_cons (pe_tup (pa_cons pe_str (pa_cons (pe_callB (isPL (K := K) (p := p) rfl List.mem_cons_self) (by rfl) T.n_isinstance (by decide +kernel) (pa_cons (pv 0) (pa_cons (pe_glob (v := .ref T.C_NothingToUndo) rfl T.g_NothingToUndo rfl) pa_nil))) pa_nil))) (pa_cons (pe_tup (pa_cons pe_str (pa_cons (pe_callB (isPL (K := K) (p := p) rfl List.mem_cons_self) (by rfl) T.n_isinstance (by decide +kernel) (pa_cons (pv 0) (pa_cons (pe_glob (v := .ref T.C_InvalidCommand) rfl T.g_InvalidCommand rfl) pa_nil))) pa_nil))) pa_nil)))))
      (pss_cons (ps_setLcZ (i := 2) (own := [("name", 3), ("is_one", 4)]) ⟨p, hot, List.mem_cons_self⟩ sc_law_words.nd rfl rfl (sw_true rfl rfl rfl (by decide +kernel)) (pi_listZ (K := K) rfl (pv 1)) (blkOk_by (own := [("name", 3), ("is_one", 4)]) (N := ["e", "plain", "found", "name", "is_one", "fields"]) (sc := defScope s_law_words) (by decide +kernel)) ⟨fun _ _ _ _ _ hz => (pg_tupZ (K := K) (n := 2) rfl hz (pgs_cons (pg_name (i := 3) sc_law_words.nd rfl (.inl rfl)) (pgs_cons (pg_name (i := 4) sc_law_words.nd rfl (.inl rfl)) pgs_nil))), fun _ _ _ _ _ => (pts_one (pt_val (pv 4))), fun _ _ _ _ _ => (pv 3)⟩)
      (pss_cons (ps_set (i := 5) sc_law_words.nd rfl (.inl rfl) (pe_lst (pa_cons (pe_tup (pa_cons pe_str (pa_cons (pe_callB (isPL (K := K) (p := p) rfl List.mem_cons_self) (by rfl) T.n_isinstance (by decide +kernel) (pa_cons (pv 0) (pa_cons (pe_glob (v := .ref T.C_InvalidDisc) rfl T.g_InvalidDisc rfl) pa_nil))) pa_nil))) (pa_cons (pe_tup (pa_cons pe_str (pa_cons (pe_callB (isPL (K := K) (p := p) rfl List.mem_cons_self) (by rfl) T.n_isinstance (by decide +kernel) (pa_cons (pv 0) (pa_cons (pe_glob (v := .ref T.C_InvalidRow) rfl T.g_InvalidRow rfl) pa_nil))) pa_nil))) pa_nil))))
      (pss_cons (ps_set (i := 5) sc_law_words.nd rfl (.inl rfl) (pe_op op_cat (pv 5) (pe_lst (pa_cons (pe_tup (pa_cons pe_str (pa_cons (pe_callB (isPL (K := K) (p := p) rfl List.mem_cons_self) (by rfl) T.n_isinstance (by decide +kernel) (pa_cons (pv 0) (pa_cons (pe_glob (v := .ref T.C_InvalidLights) rfl T.g_InvalidLights rfl) pa_nil))) pa_nil))) (pa_cons (pe_tup (pa_cons pe_str (pa_cons (pe_callB (isPL (K := K) (p := p) rfl List.mem_cons_self) (by rfl) T.n_isinstance (by decide +kernel) (pa_cons (pv 0) (pa_cons (pe_glob (v := .ref T.C_InvalidLooks) rfl T.g_InvalidLooks rfl) pa_nil))) pa_nil))) pa_nil)))))
      (pss_cons (ps_forZ PassesOwn.never ⟨p, hot, List.mem_cons_self⟩ (pi_listZ (K := K) rfl (pv 5)) (pg_tupZ (K := K) (n := 2) rfl (hotW_pn ⟨p, hot, List.mem_cons_self⟩) (pgs_cons (pg_name (i := 3) sc_law_words.nd rfl (.inl rfl)) (pgs_cons (pg_name (i := 4) sc_law_words.nd rfl (.inl rfl)) pgs_nil))) (pss_one (ps_if (pt_val (pv 4)) (pss_one (ps_set (i := 2) sc_law_words.nd rfl (.inl rfl) (pe_op op_cat (pv 2) (pe_lst (pa_cons (pe_op op_add_str (pe_op op_add_str (pv 3) pe_str) (pe_callB reprF (by rfl) T.n_repr (by decide +kernel) (pa_cons (pinFL (K := K) (p := p) rfl List.mem_cons_self (pv 0)) pa_nil))) pa_nil))))) pss_nil)))
      (pss_mid (ps_if (pt_val (pe_callB (isPL (K := K) (p := p) rfl List.mem_cons_self) (by rfl) T.n_isinstance (by decide +kernel) (pa_cons (pv 0) (pa_cons (pe_glob (v := .ref T.C_InvalidSyntax) rfl T.g_InvalidSyntax rfl) pa_nil)))) (pss_one (ps_set (i := 2) sc_law_words.nd rfl (.inl rfl) (pe_op op_cat (pv 2) (pe_lst (pa_cons (pe_op op_add_str pe_str (pe_callB reprF (by rfl) T.n_repr (by decide +kernel) (pa_cons (pinFL (K := K) (p := p) rfl List.mem_cons_self (pv 0)) pa_nil))) pa_nil))))) pss_nil)
      (pss_one (ps_ret (pe_ifExp (pt_val (pe_callB (isPL (K := K) (p := p) rfl List.mem_cons_self) (by rfl) T.n_isinstance (by decide +kernel) (pa_cons (pv 0) (pa_cons (pe_bltn (v := .ty "ValueError") (u := Value.type "ValueError") rfl T.n_ValueError (by decide +kernel) rfl) pa_nil)))) (pv 2) (pe_lst (pa_cons pe_str pa_nil))))))))))))), ?_⟩
    have rf : ∀ (C : Addr) (u : Value), RelV (.ref C) u → u = .ref C := fun C u h => h
    have hC := T.ec_InvalidSyntax.exc
    have hK : Kits K T.C_InvalidSyntax (kindsT T) [false, false, false, false, false, false, false, false, false, false, true] := T.ks_InvalidSyntax
    -- plain
    have s0 : Same H H := fun _ _ e => e
    refine ⟨.ref p.1, rfl, T.C_InvalidSyntax, _, .ref T.C_InvalidNumber, .ref T.C_InvalidNumber, false, rfl, hE, hC, rf _, hK.at (i := 0) rfl rfl, (by show 2 ≤ sizeLine; decide), fun t0 ht0 => ?_⟩
    have n := new_same (o := .tup [.str "number", .bl false]) ht0
    have gt0 : (upd H t0 (.tup [.str "number", .bl false])) t0 = some (.tup [.str "number", .bl false]) := upd_same
    generalize upd H t0 (.tup [.str "number", .bl false]) = H1 at n gt0 ⊢
    have s1 := s0.trans n
    have hE := hE.up n
    refine ⟨.ref p.1, rfl, T.C_InvalidSyntax, _, .ref T.C_InvalidTurn, .ref T.C_InvalidTurn, false, rfl, hE, hC, rf _, hK.at (i := 1) rfl rfl, (by show 2 ≤ sizeLine; decide), fun t1 ht1 => ?_⟩
    have n := new_same (o := .tup [.str "turn", .bl false]) ht1
    have gt1 : (upd H1 t1 (.tup [.str "turn", .bl false])) t1 = some (.tup [.str "turn", .bl false]) := upd_same
    generalize upd H1 t1 (.tup [.str "turn", .bl false]) = H2 at n gt1 ⊢
    have s2 := s1.trans n
    have hE := hE.up n
    have gt0 := n _ _ gt0
    refine ⟨(by show 2 ≤ sizeLine; decide), fun q0 hq0 => ?_⟩
    have n := new_same (o := .lst [.ref t0, .ref t1]) hq0
    have gq0 : (upd H2 q0 (.lst [.ref t0, .ref t1])) q0 = some (.lst [.ref t0, .ref t1]) := upd_same
    generalize upd H2 q0 (.lst [.ref t0, .ref t1]) = H3 at n gq0 ⊢
    have s3 := s2.trans n
    have hE := hE.up n
    have gt0 := n _ _ gt0
    have gt1 := n _ _ gt1
    refine ⟨.ref q0, rfl, .ref p.1, rfl, T.C_InvalidSyntax, _, .ref T.C_InvalidSlot, .ref T.C_InvalidSlot, false, rfl, hE, hC, rf _, hK.at (i := 2) rfl rfl, (by show 2 ≤ sizeLine; decide), fun t2 ht2 => ?_⟩
    have n := new_same (o := .tup [.str "slot", .bl false]) ht2
    have gt2 : (upd H3 t2 (.tup [.str "slot", .bl false])) t2 = some (.tup [.str "slot", .bl false]) := upd_same
    generalize upd H3 t2 (.tup [.str "slot", .bl false]) = H4 at n gt2 ⊢
    have s4 := s3.trans n
    have hE := hE.up n
    have gt0 := n _ _ gt0
    have gt1 := n _ _ gt1
    have gq0 := n _ _ gq0
    refine ⟨.ref p.1, rfl, T.C_InvalidSyntax, _, .ref T.C_Impossible, .ref T.C_Impossible, false, rfl, hE, hC, rf _, hK.at (i := 3) rfl rfl, (by show 2 ≤ sizeLine; decide), fun t3 ht3 => ?_⟩
    have n := new_same (o := .tup [.str "impossible", .bl false]) ht3
    have gt3 : (upd H4 t3 (.tup [.str "impossible", .bl false])) t3 = some (.tup [.str "impossible", .bl false]) := upd_same
    generalize upd H4 t3 (.tup [.str "impossible", .bl false]) = H5 at n gt3 ⊢
    have s5 := s4.trans n
    have hE := hE.up n
    have gt0 := n _ _ gt0
    have gt1 := n _ _ gt1
    have gq0 := n _ _ gq0
    have gt2 := n _ _ gt2
    refine ⟨(by show 2 ≤ sizeLine; decide), fun q1 hq1 => ?_⟩
    have n := new_same (o := .lst [.ref t2, .ref t3]) hq1
    have gq1 : (upd H5 q1 (.lst [.ref t2, .ref t3])) q1 = some (.lst [.ref t2, .ref t3]) := upd_same
    generalize upd H5 q1 (.lst [.ref t2, .ref t3]) = H6 at n gq1 ⊢
    have s6 := s5.trans n
    have hE := hE.up n
    have gt0 := n _ _ gt0
    have gt1 := n _ _ gt1
    have gq0 := n _ _ gq0
    have gt2 := n _ _ gt2
    have gt3 := n _ _ gt3
    refine ⟨q0, q1, _, _, rfl, rfl, gq0, gq1, (by show 2 + 2 ≤ sizeLine; decide), fun q2 hq2 => ?_⟩
    have n := new_same (o := .lst ([.ref t0, .ref t1] ++ [.ref t2, .ref t3])) hq2
    have gq2 : (upd H6 q2 (.lst ([.ref t0, .ref t1] ++ [.ref t2, .ref t3]))) q2 = some (.lst ([.ref t0, .ref t1] ++ [.ref t2, .ref t3])) := upd_same
    generalize upd H6 q2 (.lst ([.ref t0, .ref t1] ++ [.ref t2, .ref t3])) = H7 at n gq2 ⊢
    have s7 := s6.trans n
    have hE := hE.up n
    have gt0 := n _ _ gt0
    have gt1 := n _ _ gt1
    have gq0 := n _ _ gq0
    have gt2 := n _ _ gt2
    have gt3 := n _ _ gt3
    have gq1 := n _ _ gq1
    have gq2 : H7 q2 = some (.lst [.ref t0, .ref t1, .ref t2, .ref t3]) := gq2
    refine ⟨.ref q2, rfl, .ref p.1, rfl, T.C_InvalidSyntax, _, .ref T.C_NothingToUndo, .ref T.C_NothingToUndo, false, rfl, hE, hC, rf _, hK.at (i := 4) rfl rfl, (by show 2 ≤ sizeLine; decide), fun t4 ht4 => ?_⟩
    have n := new_same (o := .tup [.str "undo", .bl false]) ht4
    have gt4 : (upd H7 t4 (.tup [.str "undo", .bl false])) t4 = some (.tup [.str "undo", .bl false]) := upd_same
    generalize upd H7 t4 (.tup [.str "undo", .bl false]) = H8 at n gt4 ⊢
    have s8 := s7.trans n
    have hE := hE.up n
    have gt0 := n _ _ gt0
    have gt1 := n _ _ gt1
    have gq0 := n _ _ gq0
    have gt2 := n _ _ gt2
    have gt3 := n _ _ gt3
    have gq1 := n _ _ gq1
    have gq2 := n _ _ gq2
    refine ⟨.ref p.1, rfl, T.C_InvalidSyntax, _, .ref T.C_InvalidCommand, .ref T.C_InvalidCommand, false, rfl, hE, hC, rf _, hK.at (i := 5) rfl rfl, (by show 2 ≤ sizeLine; decide), fun t5 ht5 => ?_⟩
    have n := new_same (o := .tup [.str "command", .bl false]) ht5
    have gt5 : (upd H8 t5 (.tup [.str "command", .bl false])) t5 = some (.tup [.str "command", .bl false]) := upd_same
    generalize upd H8 t5 (.tup [.str "command", .bl false]) = H9 at n gt5 ⊢
    have s9 := s8.trans n
    have hE := hE.up n
    have gt0 := n _ _ gt0
    have gt1 := n _ _ gt1
    have gq0 := n _ _ gq0
    have gt2 := n _ _ gt2
    have gt3 := n _ _ gt3
    have gq1 := n _ _ gq1
    have gq2 := n _ _ gq2
    have gt4 := n _ _ gt4
    refine ⟨(by show 2 ≤ sizeLine; decide), fun q3 hq3 => ?_⟩
    have n := new_same (o := .lst [.ref t4, .ref t5]) hq3
    have gq3 : (upd H9 q3 (.lst [.ref t4, .ref t5])) q3 = some (.lst [.ref t4, .ref t5]) := upd_same
    generalize upd H9 q3 (.lst [.ref t4, .ref t5]) = H10 at n gq3 ⊢
    have s10 := s9.trans n
    have hE := hE.up n
    have gt0 := n _ _ gt0
    have gt1 := n _ _ gt1
    have gq0 := n _ _ gq0
    have gt2 := n _ _ gt2
    have gt3 := n _ _ gt3
    have gq1 := n _ _ gq1
    have gq2 := n _ _ gq2
    have gt4 := n _ _ gt4
    have gt5 := n _ _ gt5
    refine ⟨q2, q3, _, _, rfl, rfl, gq2, gq3, (by show 4 + 2 ≤ sizeLine; decide), fun q4 hq4 => ?_⟩
    have n := new_same (o := .lst ([.ref t0, .ref t1, .ref t2, .ref t3] ++ [.ref t4, .ref t5])) hq4
    have gq4 : (upd H10 q4 (.lst ([.ref t0, .ref t1, .ref t2, .ref t3] ++ [.ref t4, .ref t5]))) q4 = some (.lst ([.ref t0, .ref t1, .ref t2, .ref t3] ++ [.ref t4, .ref t5])) := upd_same
    generalize upd H10 q4 (.lst ([.ref t0, .ref t1, .ref t2, .ref t3] ++ [.ref t4, .ref t5])) = H11 at n gq4 ⊢
    have s11 := s10.trans n
    have hE := hE.up n
    have gt0 := n _ _ gt0
    have gt1 := n _ _ gt1
    have gq0 := n _ _ gq0
    have gt2 := n _ _ gt2
    have gt3 := n _ _ gt3
    have gq1 := n _ _ gq1
    have gq2 := n _ _ gq2
    have gt4 := n _ _ gt4
    have gt5 := n _ _ gt5
    have gq3 := n _ _ gq3
    have gq4 : H11 q4 = some (.lst [.ref t0, .ref t1, .ref t2, .ref t3, .ref t4, .ref t5]) := gq4
    -- the comprehension
    have each : ∀ (i : Nat) (v : V), ([.ref t0, .ref t1, .ref t2, .ref t3, .ref t4, .ref t5] : List V)[i]? = some v → ∃ t n, v = .ref t ∧ H11 t = some (.tup [.str n, .bl false]) := fun i v h => by
      match i, h with
      | 0, h => cases h; exact ⟨_, _, rfl, gt0⟩
      | 1, h => cases h; exact ⟨_, _, rfl, gt1⟩
      | 2, h => cases h; exact ⟨_, _, rfl, gt2⟩
      | 3, h => cases h; exact ⟨_, _, rfl, gt3⟩
      | 4, h => cases h; exact ⟨_, _, rfl, gt4⟩
      | 5, h => cases h; exact ⟨_, _, rfl, gt5⟩
    refine ⟨.ref q4, rfl, q4, rfl, ⟨_, SqL.of gq4⟩, fun F hF => ?_⟩
    have eachF : ∀ (i : Nat) (v : V), ([.ref t0, .ref t1, .ref t2, .ref t3, .ref t4, .ref t5] : List V)[i]? = some v → ∃ t n, v = .ref t ∧ (upd H11 F (.lst [])) t = some (.tup [.str n, .bl false]) := fun i v h => by
      obtain ⟨t, n, e, g⟩ := each i v h
      exact ⟨t, n, e, new_same hF _ _ g⟩
    refine lc_list (K := K) (a := q4) (xs := [.ref t0, .ref t1, .ref t2, .ref t3, .ref t4, .ref t5]) (fun i H' => H' = upd H11 F (.lst []))
      rfl (fun i H' _ hP => by rw [hP]; exact SqL.of (new_same hF _ _ gq4)) (fun i v H2 hv hQ => ?_) (fun H2 hQ => ?_)
    · subst hQ
      obtain ⟨t, n, rfl, g⟩ := eachF i v hv
      refine ⟨t, _, rfl, SqT.of g, rfl, _, _, rfl, _, _, rfl, rfl, rfl, .bl false, rfl, false, rfl, ?_⟩
      rfl
    subst hQ
    have n := new_same (o := .lst []) hF
    have gF : (upd H11 F (.lst [])) F = some (.lst []) := upd_same
    generalize upd H11 F (.lst []) = H12 at n gF ⊢
    have s12 := s11.trans n
    have hE := hE.up n
    refine ⟨.ref p.1, rfl, T.C_InvalidSyntax, _, .ref T.C_InvalidDisc, .ref T.C_InvalidDisc, false, rfl, hE, hC, rf _, hK.at (i := 6) rfl rfl, (by show 2 ≤ sizeLine; decide), fun t6 ht6 => ?_⟩
    have n := new_same (o := .tup [.str "disc", .bl false]) ht6
    have gt6 : (upd H12 t6 (.tup [.str "disc", .bl false])) t6 = some (.tup [.str "disc", .bl false]) := upd_same
    generalize upd H12 t6 (.tup [.str "disc", .bl false]) = H13 at n gt6 ⊢
    have s13 := s12.trans n
    have hE := hE.up n
    have gF := n _ _ gF
    refine ⟨.ref p.1, rfl, T.C_InvalidSyntax, _, .ref T.C_InvalidRow, .ref T.C_InvalidRow, false, rfl, hE, hC, rf _, hK.at (i := 7) rfl rfl, (by show 2 ≤ sizeLine; decide), fun t7 ht7 => ?_⟩
    have n := new_same (o := .tup [.str "row", .bl false]) ht7
    have gt7 : (upd H13 t7 (.tup [.str "row", .bl false])) t7 = some (.tup [.str "row", .bl false]) := upd_same
    generalize upd H13 t7 (.tup [.str "row", .bl false]) = H14 at n gt7 ⊢
    have s14 := s13.trans n
    have hE := hE.up n
    have gF := n _ _ gF
    have gt6 := n _ _ gt6
    refine ⟨(by show 2 ≤ sizeLine; decide), fun q5 hq5 => ?_⟩
    have n := new_same (o := .lst [.ref t6, .ref t7]) hq5
    have gq5 : (upd H14 q5 (.lst [.ref t6, .ref t7])) q5 = some (.lst [.ref t6, .ref t7]) := upd_same
    generalize upd H14 q5 (.lst [.ref t6, .ref t7]) = H15 at n gq5 ⊢
    have s15 := s14.trans n
    have hE := hE.up n
    have gF := n _ _ gF
    have gt6 := n _ _ gt6
    have gt7 := n _ _ gt7
    refine ⟨.ref q5, rfl, .ref p.1, rfl, T.C_InvalidSyntax, _, .ref T.C_InvalidLights, .ref T.C_InvalidLights, false, rfl, hE, hC, rf _, hK.at (i := 8) rfl rfl, (by show 2 ≤ sizeLine; decide), fun t8 ht8 => ?_⟩
    have n := new_same (o := .tup [.str "lights", .bl false]) ht8
    have gt8 : (upd H15 t8 (.tup [.str "lights", .bl false])) t8 = some (.tup [.str "lights", .bl false]) := upd_same
    generalize upd H15 t8 (.tup [.str "lights", .bl false]) = H16 at n gt8 ⊢
    have s16 := s15.trans n
    have hE := hE.up n
    have gF := n _ _ gF
    have gt6 := n _ _ gt6
    have gt7 := n _ _ gt7
    have gq5 := n _ _ gq5
    refine ⟨.ref p.1, rfl, T.C_InvalidSyntax, _, .ref T.C_InvalidLooks, .ref T.C_InvalidLooks, false, rfl, hE, hC, rf _, hK.at (i := 9) rfl rfl, (by show 2 ≤ sizeLine; decide), fun t9 ht9 => ?_⟩
    have n := new_same (o := .tup [.str "looks", .bl false]) ht9
    have gt9 : (upd H16 t9 (.tup [.str "looks", .bl false])) t9 = some (.tup [.str "looks", .bl false]) := upd_same
    generalize upd H16 t9 (.tup [.str "looks", .bl false]) = H17 at n gt9 ⊢
    have s17 := s16.trans n
    have hE := hE.up n
    have gF := n _ _ gF
    have gt6 := n _ _ gt6
    have gt7 := n _ _ gt7
    have gq5 := n _ _ gq5
    have gt8 := n _ _ gt8
    refine ⟨(by show 2 ≤ sizeLine; decide), fun q6 hq6 => ?_⟩
    have n := new_same (o := .lst [.ref t8, .ref t9]) hq6
    have gq6 : (upd H17 q6 (.lst [.ref t8, .ref t9])) q6 = some (.lst [.ref t8, .ref t9]) := upd_same
    generalize upd H17 q6 (.lst [.ref t8, .ref t9]) = H18 at n gq6 ⊢
    have s18 := s17.trans n
    have hE := hE.up n
    have gF := n _ _ gF
    have gt6 := n _ _ gt6
    have gt7 := n _ _ gt7
    have gq5 := n _ _ gq5
    have gt8 := n _ _ gt8
    have gt9 := n _ _ gt9
    refine ⟨q5, q6, _, _, rfl, rfl, gq5, gq6, (by show 2 + 2 ≤ sizeLine; decide), fun q7 hq7 => ?_⟩
    have n := new_same (o := .lst ([.ref t6, .ref t7] ++ [.ref t8, .ref t9])) hq7
    have gq7 : (upd H18 q7 (.lst ([.ref t6, .ref t7] ++ [.ref t8, .ref t9]))) q7 = some (.lst ([.ref t6, .ref t7] ++ [.ref t8, .ref t9])) := upd_same
    generalize upd H18 q7 (.lst ([.ref t6, .ref t7] ++ [.ref t8, .ref t9])) = H19 at n gq7 ⊢
    have s19 := s18.trans n
    have hE := hE.up n
    have gF := n _ _ gF
    have gt6 := n _ _ gt6
    have gt7 := n _ _ gt7
    have gq5 := n _ _ gq5
    have gt8 := n _ _ gt8
    have gt9 := n _ _ gt9
    have gq6 := n _ _ gq6
    have gq7 : H19 q7 = some (.lst [.ref t6, .ref t7, .ref t8, .ref t9]) := gq7
    have each : ∀ (i : Nat) (v : V), ([.ref t6, .ref t7, .ref t8, .ref t9] : List V)[i]? = some v → ∃ t n, v = .ref t ∧ H19 t = some (.tup [.str n, .bl false]) := fun i v h => by
      match i, h with
      | 0, h => cases h; exact ⟨_, _, rfl, gt6⟩
      | 1, h => cases h; exact ⟨_, _, rfl, gt7⟩
      | 2, h => cases h; exact ⟨_, _, rfl, gt8⟩
      | 3, h => cases h; exact ⟨_, _, rfl, gt9⟩
    refine ⟨.ref q7, rfl, q7, rfl, ⟨_, SqL.of gq7⟩, for_list (K := K) (a := q7) (xs := [.ref t6, .ref t7, .ref t8, .ref t9]) (fun i σ H' => (∃ y3 y4 : Option V, σ = [some (.ref p.1), some (.ref q4), some (.ref F), y3, y4, some (.ref q7)]) ∧ H' = H19)
      ⟨⟨none, none, rfl⟩, rfl⟩ (fun i σ H' _ hP => by rw [hP.2]; exact SqL.of gq7) (fun i v σ H' hv hP => ?_) (fun σ H' hP => ?_)⟩
    · obtain ⟨⟨y3, y4, rfl⟩, rfl⟩ := hP
      obtain ⟨t, n, rfl, g⟩ := each i v hv
      refine ⟨t, _, rfl, SqT.of g, rfl, _, _, rfl, _, _, rfl, rfl, .bl false, rfl, false, rfl, iteF ?_⟩
      exact ⟨⟨_, _, rfl⟩, rfl⟩
    obtain ⟨⟨y3, y4, rfl⟩, rfl⟩ := hP
    refine ⟨fun σ' H' => ∃ (F2 : Addr) (z3 z4 : Option V), σ' = [some (.ref p.1), some (.ref q4), some (.ref F2), z3, z4, some (.ref q7)] ∧ Same H H' ∧ H F2 = none ∧ H' F2 = some (.lst [.str ("syntax " ++ sX x)]) ∧ PinE H' p T.C_InvalidSyntax [("word", x)],
      ⟨.ref p.1, rfl, T.C_InvalidSyntax, _, .ref T.C_InvalidSyntax, .ref T.C_InvalidSyntax, true, rfl, hE, hC, rf _, hK.at (i := 10) rfl rfl, true, rfl, iteT ?_⟩, fun σ' H2 hM => ?_⟩
    · refine ⟨.ref F, rfl, .ref p.1, rfl, T.C_InvalidSyntax, _, x, rfl, hE, T.ec_InvalidSyntax.xf, T.nf_InvalidSyntax_word, fl_look, ?_⟩
      dsimp only [tNil]
      refine reprF_of hx ?_
      refine ⟨_, _, rfl, rfl, ?_, (by show 1 ≤ sizeLine; decide), fun z hz => ?_⟩
      · have := sX_len hx
        have e7 : (Str.ofString "syntax ").length = 7 := by decide +kernel
        rw [e7, sizeLine_eq]
        omega
      have n := new_same (o := .lst [.str (Str.ofString "syntax " ++ sX x)]) hz
      refine ⟨F, z, _, _, rfl, rfl, n _ _ gF, upd_same, (by show 0 + 1 ≤ sizeLine; decide), fun F2 hF2 => ?_⟩
      have n2 := n.trans (new_same (o := .lst ([] ++ [.str (Str.ofString "syntax " ++ sX x)])) hF2)
      exact ⟨F2, _, _, rfl, s19.trans n2, none_back (s19.trans n) hF2, upd_same, hE.up n2⟩
    obtain ⟨F2, z3, z4, rfl, s2, f2, g2, hE2⟩ := hM
    refine ⟨.ref p.1, rfl, T.C_InvalidSyntax, _, .ty "ValueError", .type "ValueError", true, rfl, hE2, hC, (fun u h => h), T.kv_InvalidSyntax, true, rfl, iteT ?_⟩
    exact ⟨.ref F2, rfl, q F2 H2 s2 f2 g2⟩

/-! ### texts that are refused -/
theorem strs_at {l : List Str} {i : Nat} {x : V} (h : (l.map V.str)[i]? = some x) : ∃ y, l[i]? = some y ∧ x = .str y := by
  rw [List.getElem?_map] at h
  cases e : l[i]? with
  | none =>
    rw [e] at h
    cases h
  | some n =>
    rw [e] at h
    exact ⟨n, rfl, (Option.some.inj h).symm⟩
def spParseX (P : Program) (w : World) (K : PySem.W.Frag) (mg : Str → Option Value) (base : Heap) (C : Addr) : Sp := fun vs H Q E => ∃ (f : Addr) (m : Int) (ws : List (List Nat)) (spW : Sp) (c : Nat),
  vs = [.str (wordsS ws), .ref f, .int m] ∧ FnR P w K mg base CX0 4 f spW ∧ PySem.W.keepIn K (.ref f) = true ∧ c < ws.length ∧ (∀ x ∈ ws, 32 ∉ x) ∧ (wordsS ws).length ≤ 20000 ∧ ws.length ≤ 20000 ∧ (c : Int) ≤ m ∧ m ≤ 1000 ∧
  (∀ (i : Nat) (x : List Nat), i < c → ws[i]? = some x → ∀ (H1 : Hp) (Q1 : VK), (∀ v H2, Same H1 H2 → v ≠ .non → Q1 v H2) → spW [.str (mkS x)] H1 Q1 E0) ∧
  (∀ x : List Nat, ws[c]? = some x → ∀ (H1 : Hp) (Q1 : VK), (∀ v H2, Same H1 H2 → (v = .non ∨ m ≤ (c : Int)) → Q1 v H2) → spW [.str (mkS x)] H1 Q1 E0) ∧
  ∀ (d : Addr) (H' : Hp), Same H H' → H' d = some (.xd [("word", .int c)]) → E (.ref C) (some d) H'
/-- what is left of the heap behind an error that is raised -/
theorem raise_same {H : Hp} {a C dx : Addr} {f : Str} {x : V} (ha : H a = none) (hd : (upd H a (exo a C none)) dx = none) (hn : dx ≠ a) :
    Same H (upd (del (upd (upd (upd H a (exo a C none)) dx (exd dx [(f, x)])) a (exo a C (some dx))) a) dx (.xd [(f, x)])) := fun b o e => by
  have na : b ≠ a := fun z => by
    rw [z, ha] at e
    cases e
  have nd : b ≠ dx := fun z => by
    rw [upd_ne hn] at hd
    rw [z, hd] at e
    cases e
  rw [upd_ne nd, del_ne na, upd_ne na, upd_ne nd, upd_ne na]
  exact e
theorem ok_parse_wordsX (T : Txt K mg) : FnOk P w K mg base (L2N.CX P w) 7 T.a_parse_words T.d_parse_words ["text", "value_in", "most"] (spParseX P w K mg base T.C_InvalidSyntax) := by
  have G_InvalidSyntax_init := ok_InvalidSyntax_init (P := P) (w := w) (base := base) T
  refine okXN T.F_parse_words sc_parse_words (fun vs H Q E h => ?_) (fun cdv A outer s H vs Q E hr h => ?_)
  · obtain ⟨_, _, _, _, _, rfl, _⟩ := h
    rfl
  · obtain ⟨f, m, ws, spW, c, rfl, Fv, hkv, hcw, hfree, wl, wn, hcm, hm, hgood, hbad, q⟩ := h
    have hrv : Room 4 _ := hr.mono (by decide)
    refine ⟨_, (pss_cons (ps_set (i := 3) sc_parse_words.nd rfl (.inl rfl) (pe_lst pa_nil))
      (pss_cons (ps_for (L2.passes_of rfl) rfl (enumL (K := K) rfl (by rfl) T.n_enumerate (pa_cons (pe_split (pv 0) pe_str) pa_nil)) (pg_tupL (K := K) (n := 2) rfl rfl (pgs_cons (pg_name (i := 4) sc_parse_words.nd rfl (.inl rfl)) (pgs_cons (pg_name (i := 5) sc_parse_words.nd rfl (.inl rfl)) pgs_nil))) (pss_cons (ps_set (i := 6) sc_parse_words.nd rfl (.inl rfl) (ItX.pe_callV (i := 1) Fv hrv hkv pass0 rfl (.inl rfl) (pa_cons (pv 5) pa_nil)))
      (pss_cons (ps_if (PW.pt (pw_or (pt_cmpR op_isN (pv 6) pe_non (nomark _)) (pw_or1 (pt_cmpR op_ge (pv 4) (pv 2) (nomark _))))) (pss_one (L2N.ps_raise rfl (L2N.takes_of rfl rfl rfl rfl) (pmk_oexN T.o_InvalidSyntax T.i_InvalidSyntax T.ti_InvalidSyntax G_InvalidSyntax_init (hr.mono (by decide)) T.b_InvalidSyntax_init pass0 (by rfl) T.g_InvalidSyntax rfl (pa_cons (pv 4) pa_nil)))) pss_nil)
      (pss_one (ps_expr (pe_bm PySem.F.plainAttrs_list PySem.F.slot_list_append PySem.F.type_list_append mt_append (pv 3) (pa_cons (pv 6) pa_nil)))))))
      (pss_one (ps_ret (pv 3))))), ?_⟩
    have hne : ws ≠ [] := fun e => by
      rw [e] at hcw
      exact Nat.not_lt_zero _ hcw
    refine ⟨(by show 0 ≤ sizeLine; decide), fun D hD => ?_⟩
    have wl2 : (wordsS ws).length + 2 ≤ sizeLine := spl_le (k := 30000) (by omega) (by decide)
    refine ⟨.str (wordsS ws), rfl, ⟨_, rfl⟩, wordsS ws, spS, rfl, congrArg (fun z => [V.str z]) cSp, by decide +kernel, wl2, fun L hL => ?_⟩
    rw [words_split hne hfree]
    have s1 := (new_same (o := .lst []) hD).trans (new_same (o := .lst ((ws.map mkS).map V.str)) hL)
    have gD := new_same (o := .lst ((ws.map mkS).map V.str)) hL _ _ (upd_same (H := H) (a := D) (o := .lst []))
    have gL : (upd (upd H D (.lst [])) L (.lst ((ws.map mkS).map V.str))) L = some (.lst ((ws.map mkS).map V.str)) := upd_same
    generalize upd (upd H D (.lst [])) L (.lst ((ws.map mkS).map V.str)) = H1 at s1 gD gL ⊢
    have nDL : L ≠ D := fun e => by
      rw [e] at gL
      rw [gL] at gD
      have := HO.lst.inj (Option.some.inj gD)
      rw [List.map_eq_nil_iff, List.map_eq_nil_iff] at this
      exact hne this
    refine ⟨L, _, rfl, SqL.of gL, for_it (walk_enum (K := K) (xs := (ws.map mkS).map V.str)) (fun i σ H' => ∃ (y4 y5 y6 : Option V) (us : List V), σ = [some (.str (wordsS ws)), some (.ref f), some (.int m), some (.ref D), y4, y5, y6] ∧ Same H H' ∧ H' L = some (.lst ((ws.map mkS).map V.str)) ∧ H' D = some (.lst us) ∧ us.length = i ∧ i ≤ c)
      ⟨none, none, none, [], rfl, s1, gL, gD, rfl, Nat.zero_le _⟩ (fun i σ H' _ ⟨_, _, _, _, _, _, g, _⟩ => SqL.of g) (fun i x σ H2 H3 hi hP hY => ?_) (fun σ H2 hP => ?_)⟩
    · obtain ⟨y4, y5, y6, us, rfl, s2, gL2, gD2, hul, hic⟩ := hP
      obtain ⟨p, z1, z2, rfl, hp, rfl, e3, e4⟩ := hY
      have e3 : V.int (i : Int) = z1 := Option.some.inj e3
      subst e3
      obtain ⟨y, hy, rfl⟩ := strs_at e4
      rw [List.getElem?_map] at hy
      obtain ⟨x, hx, rfl⟩ : ∃ x, ws[i]? = some x ∧ y = mkS x := by
        cases e : ws[i]? with
        | none => rw [e] at hy; cases hy
        | some x => rw [e] at hy; exact ⟨x, rfl, (Option.some.inj hy).symm⟩
      refine ⟨p, _, rfl, SqT.of upd_same, rfl, _, _, rfl, _, _, rfl, rfl, ?_⟩
      have s3 := new_same (o := .tup [.int i, .str (mkS x)]) hp
      generalize upd H2 p (.tup [.int i, .str (mkS x)]) = H3 at s3 ⊢
      have raise : ∀ (σ : L2.St) (H4 : Hp), σ[4]? = some (some (.int (c : Nat))) → Same H H4 → tMkN T.C_InvalidSyntax (spInit K T.C_InvalidSyntax "word") (tCons (tVar 4) tNil) σ H4 (fun cls d H' => E cls d H') := fun σ H4 h4 s4 => by
        refine ⟨.int (c : Nat), h4, rfl, fun a ha => ⟨a, .int (c : Nat), rfl, upd_same, .inr ⟨c, rfl, ?_⟩, fun dx hdx hn => ⟨rfl, dx, _, upd_same, by rw [upd_ne hn, upd_same], ?_, q dx _ (s4.trans (raise_same ha hdx hn)) upd_same⟩⟩⟩
        · have e30 : (10 : Nat) ^ 30 = 1000000000000000000000000000000 := by decide +kernel
          rw [e30]
          omega
        · rw [upd_ne hn] at hdx
          exact hdx
      rcases Nat.lt_or_ge i c with hlt | hge
      · refine ⟨rfl, .str (mkS x), rfl, hgood i x hlt hx _ _ fun v H4 s4 hvn => ?_⟩
        have s34 := s3.trans s4
        refine ⟨v, rfl, ?_⟩
        refine ⟨rfl, _, rfl, ?_⟩
        show (if decide (v = V.non) = true then _ else _)
        rw [decide_eq_false hvn]
        refine iteF ?_
        refine ⟨.int i, rfl, .int m, rfl, i, m, rfl, rfl, _, rfl, ite2 (fun h => absurd (of_decide_eq_true h) (by omega)) (fun _ => ?_)⟩
        have gD4 := s34 _ _ gD2
        refine ⟨.ref D, rfl, .inl ⟨rfl, _, SqL.of gD4⟩, v, rfl, D, _, _, rfl, rfl, gD4, by rw [hul]; exact spl_le (k := 30000) (by omega) (by decide), ?_⟩
        refine ⟨_, _, _, us ++ [v], rfl, same_over (s2.trans s34) hD, ?_, upd_same, by rw [List.length_append, hul]; rfl, hlt⟩
        rw [upd_ne nDL]
        exact s34 _ _ gL2
      · have ei : i = c := by omega
        subst ei
        refine ⟨rfl, .str (mkS x), rfl, hbad x hx _ _ fun v H4 s4 hv => ?_⟩
        have s34 := s2.trans (s3.trans s4)
        refine ⟨v, rfl, ?_⟩
        refine ⟨rfl, _, rfl, ?_⟩
        show (if decide (v = V.non) = true then _ else _)
        by_cases hvn : v = V.non
        · rw [decide_eq_true hvn]
          exact iteT (raise _ H4 rfl s34)
        · rw [decide_eq_false hvn]
          refine iteF ?_
          have hmi := hv.resolve_left hvn
          exact ⟨.int i, rfl, .int m, rfl, i, m, rfl, rfl, _, rfl, ite2 (fun _ => raise _ H4 rfl s34) (fun h => absurd (decide_eq_true hmi) h)⟩
    · obtain ⟨y4, y5, y6, us, rfl, s2, gL2, gD2, hul, hic⟩ := hP
      rw [List.length_map, List.length_map] at hic
      exact absurd hcw (by omega)

/-! ### texts refused: the three doors -/
def okW : Nat → List Nat → Prop
  | 0, x => ∃ n : Int, x = intL n ∧ 0 ≤ n ∧ n ≤ 1000000000000000000000000000000
  | 1, x => ∃ n : Int, x = intL n ∧ n.natAbs < 10 ^ 40
  | _, x => ∃ q : Int × Int, x = lookL q ∧ q.1.natAbs < 10 ^ 40 ∧ 0 ≤ q.2 ∧ q.2.natAbs < 10 ^ 40
def badW : Nat → List Nat → Prop
  | 0, x => CB (mkS x)
  | 1, x => NB (mkS x)
  | _, x => LB (mkS x)
/-- words that are refused at c -/
structure Refused (k : Nat) (ws : List (List Nat)) (c : Nat) : Prop where
  lt : c < ws.length
  free : ∀ x ∈ ws, 32 ∉ x
  wl : (wordsS ws).length ≤ 20000
  wn : ws.length ≤ 20000
  c40 : c ≤ 40
  good : ∀ (i : Nat) (x : List Nat), i < c → ws[i]? = some x → okW k x
  bad : ∀ x : List Nat, ws[c]? = some x → badW k x ∨ (c = 40 ∧ okW k x)
def spTextX (k : Nat) (C : Addr) : Sp := fun vs H Q E => ∃ (ws : List (List Nat)) (c : Nat), vs = [.str (wordsS ws)] ∧ Refused k ws c ∧ (k = 2 → wordsS ws ≠ Str.ofString "") ∧ ∀ (d : Addr) (H' : Hp), Same H H' → H' d = some (.xd [("word", .int c)]) → E (.ref C) (some d) H'
theorem ok_parse_discX (T : Txt K mg) : FnOk P w K mg base (L2N.CX P w) 8 T.a_parse_disc T.d_parse_disc ["text"] (spTextX 0 T.C_InvalidSyntax) := by
  have G_check_text := ok_check_text (P := P) (w := w) (base := base) T
  have G_parse_words := ok_parse_wordsX (P := P) (w := w) (base := base) T
  have G_value := fnok_or (ok_slot_in (P := P) (w := w) (base := base) T) (ok_slot_bad T)
  refine okXN T.F_parse_disc sc_parse_disc (fun vs H Q E h => ?_) (fun cdv A outer s H vs Q E hr h => ?_)
  · obtain ⟨_, _, rfl, _⟩ := h
    rfl
  · obtain ⟨ws, c, rfl, RR, hne, q⟩ := h
    refine ⟨_, (pss_cons (ps_expr (pe_call G_check_text (hr.mono (by decide)) (by rfl) T.g_check_text T.F_check_text.kp T.b_check_text .nil pass0 (pa_cons (pv 0) pa_nil)))
      (pss_one (ps_ret (pe_call G_parse_words (hr.mono (by decide)) (by rfl) T.g_parse_words T.F_parse_words.kp T.b_parse_words .nil (L2N.passes_call (E := E) (W := fun cls d _ H => E cls d H) (L2N.takes_of rfl rfl rfl rfl) (fun _ _ _ _ h => h)) (pa_cons (pv 0) (pa_cons (pe_glob (v := .ref T.a_slot_in) rfl T.g_slot_in rfl) (pa_cons (pe_glob (v := .int (40)) rfl T.g_MOST_SLOTS ⟨_, rfl⟩) pa_nil))))))), ?_⟩
    have c40 := RR.c40
    refine ⟨.str _, rfl, _, rfl, ?_⟩
    refine ⟨.str _, rfl, T.a_slot_in, 40, ws, _, c, rfl, ((G_value.raw T.b_slot_in .nil).imp fun vs H Q E h => by rw [List.append_nil]; exact h).mono (by decide), T.F_slot_in.kp, RR.lt, RR.free, RR.wl, RR.wn, by omega, by decide, ?_, ?_, fun d H' s' g' => q d H' s' g'⟩
    · intro i x hi hx H1 Q1 hq
      obtain ⟨n, rfl, n0, n1⟩ := RR.good i x hi hx
      exact .inl ⟨n, rfl, n0, n1, hq _ _ (Same.refl H1) fun e => nomatch e⟩
    · intro x hx H1 Q1 hq
      rcases RR.bad x hx with hb | ⟨h40, hg⟩
      · exact .inr ⟨mkS x, rfl, hb, hq _ _ (Same.refl H1) (.inl rfl)⟩
      · obtain ⟨n, rfl, n0, n1⟩ := hg
        exact .inl ⟨n, rfl, n0, n1, hq _ _ (Same.refl H1) (.inr (by omega))⟩
theorem ok_parse_rowX (T : Txt K mg) : FnOk P w K mg base (L2N.CX P w) 8 T.a_parse_row T.d_parse_row ["text"] (spTextX 1 T.C_InvalidSyntax) := by
  have G_check_text := ok_check_text (P := P) (w := w) (base := base) T
  have G_parse_words := ok_parse_wordsX (P := P) (w := w) (base := base) T
  have G_value := fnok_or (ok_number_in (P := P) (w := w) (base := base) T) (ok_number_bad T)
  refine okXN T.F_parse_row sc_parse_row (fun vs H Q E h => ?_) (fun cdv A outer s H vs Q E hr h => ?_)
  · obtain ⟨_, _, rfl, _⟩ := h
    rfl
  · obtain ⟨ws, c, rfl, RR, hne, q⟩ := h
    refine ⟨_, (pss_cons (ps_expr (pe_call G_check_text (hr.mono (by decide)) (by rfl) T.g_check_text T.F_check_text.kp T.b_check_text .nil pass0 (pa_cons (pv 0) pa_nil)))
      (pss_one (ps_ret (pe_call G_parse_words (hr.mono (by decide)) (by rfl) T.g_parse_words T.F_parse_words.kp T.b_parse_words .nil (L2N.passes_call (E := E) (W := fun cls d _ H => E cls d H) (L2N.takes_of rfl rfl rfl rfl) (fun _ _ _ _ h => h)) (pa_cons (pv 0) (pa_cons (pe_glob (v := .ref T.a_number_in) rfl T.g_number_in rfl) (pa_cons (pe_glob (v := .int (40)) rfl T.g_MOST_SLOTS ⟨_, rfl⟩) pa_nil))))))), ?_⟩
    have c40 := RR.c40
    refine ⟨.str _, rfl, _, rfl, ?_⟩
    refine ⟨.str _, rfl, T.a_number_in, 40, ws, _, c, rfl, ((G_value.raw T.b_number_in .nil).imp fun vs H Q E h => by rw [List.append_nil]; exact h).mono (by decide), T.F_number_in.kp, RR.lt, RR.free, RR.wl, RR.wn, by omega, by decide, ?_, ?_, fun d H' s' g' => q d H' s' g'⟩
    · intro i x hi hx H1 Q1 hq
      obtain ⟨n, rfl, n0⟩ := RR.good i x hi hx
      exact .inl ⟨n, rfl, n0, hq _ _ (Same.refl H1) fun e => nomatch e⟩
    · intro x hx H1 Q1 hq
      rcases RR.bad x hx with hb | ⟨h40, hg⟩
      · exact .inr ⟨mkS x, rfl, hb.1, hb.2.1, hb.2.2, hq _ _ (Same.refl H1) (.inl rfl)⟩
      · obtain ⟨n, rfl, n0⟩ := hg
        exact .inl ⟨n, rfl, n0, hq _ _ (Same.refl H1) (.inr (by omega))⟩
theorem ok_parse_looksX (T : Txt K mg) : FnOk P w K mg base (L2N.CX P w) 8 T.a_parse_looks T.d_parse_looks ["text"] (spTextX 2 T.C_InvalidSyntax) := by
  have G_check_text := ok_check_text (P := P) (w := w) (base := base) T
  have G_parse_words := ok_parse_wordsX (P := P) (w := w) (base := base) T
  have G_value := fnok_or (ok_look_in (P := P) (w := w) (base := base) T) (ok_look_bad T)
  refine okXN T.F_parse_looks sc_parse_looks (fun vs H Q E h => ?_) (fun cdv A outer s H vs Q E hr h => ?_)
  · obtain ⟨_, _, rfl, _⟩ := h
    rfl
  · obtain ⟨ws, c, rfl, RR, hne, q⟩ := h
    refine ⟨_, (pss_cons (ps_expr (pe_call G_check_text (hr.mono (by decide)) (by rfl) T.g_check_text T.F_check_text.kp T.b_check_text .nil pass0 (pa_cons (pv 0) pa_nil)))
      (pss_cons (ps_if (pt_cmpR op_eq (pv 0) pe_str (nomark _)) (pss_one (ps_ret (pe_lst pa_nil))) pss_nil) (pss_one (ps_ret (pe_call G_parse_words (hr.mono (by decide)) (by rfl) T.g_parse_words T.F_parse_words.kp T.b_parse_words .nil (L2N.passes_call (E := E) (W := fun cls d _ H => E cls d H) (L2N.takes_of rfl rfl rfl rfl) (fun _ _ _ _ h => h)) (pa_cons (pv 0) (pa_cons (pe_glob (v := .ref T.a_look_in) rfl T.g_look_in rfl) (pa_cons (pe_glob (v := .int (40)) rfl T.g_MOST_LOOKS ⟨_, rfl⟩) pa_nil)))))))), ?_⟩
    have c40 := RR.c40
    refine ⟨.str _, rfl, _, rfl, ?_⟩
    refine ⟨.str _, rfl, rfl, _, rfl, ite2 (fun h => absurd (V.str.inj (of_decide_eq_true h)) (hne rfl)) (fun _ => ?_)⟩
    refine ⟨.str _, rfl, T.a_look_in, 40, ws, _, c, rfl, ((G_value.raw T.b_look_in .nil).imp fun vs H Q E h => by rw [List.append_nil]; exact h).mono (by decide), T.F_look_in.kp, RR.lt, RR.free, RR.wl, RR.wn, by omega, by decide, ?_, ?_, fun d H' s' g' => q d H' s' g'⟩
    · intro i x hi hx H1 Q1 hq
      obtain ⟨n, rfl, n0, n1, n2⟩ := RR.good i x hi hx
      exact .inl ⟨n, rfl, n0, n1, n2, fun t H2 s2 _ => hq _ _ s2 fun e => nomatch e⟩
    · intro x hx H1 Q1 hq
      rcases RR.bad x hx with hb | ⟨h40, hg⟩
      · exact .inr ⟨mkS x, rfl, hb, fun H2 s2 => hq _ _ s2 (.inl rfl)⟩
      · obtain ⟨n, rfl, n0, n1, n2⟩ := hg
        exact .inl ⟨n, rfl, n0, n1, n2, fun t H2 s2 _ => hq _ _ s2 (.inr (by omega))⟩

/-! ### values that are no texts -/
def spNoText (K : PySem.W.Frag) (C : Addr) : Sp := fun vs H Q E => ∃ (x : V) (t : Value), vs = [x] ∧ TyX K H x t ∧ PySem.W.kitOne K t (.type "str") = some false ∧ ∀ (d : Addr) (H' : Hp), Same H H' → H' d = some (.xd [("word", .non)]) → E (.ref C) (some d) H'
theorem ok_check_textX (T : Txt K mg) : FnOk P w K mg base (L2N.CX P w) 3 T.a_check_text T.d_check_text ["text"] (spNoText K T.C_InvalidSyntax) := by
  have G_InvalidSyntax_init := ok_InvalidSyntax_init (P := P) (w := w) (base := base) T
  refine okXN T.F_check_text sc_check_text (fun vs H Q E h => ?_) (fun cdv A outer s H vs Q E hr h => ?_)
  · obtain ⟨_, _, rfl, _⟩ := h
    rfl
  · obtain ⟨x, t, rfl, hx, hk, q⟩ := h
    refine ⟨_, (pss_one (ps_if (pt_not (pt_val (pe_callB (isiL (K := K) rfl) (by rfl) T.n_isinstance (by decide +kernel) (pa_cons (pv 0) (pa_cons (pe_bltn (v := .ty "str") (u := Value.type "str") rfl T.n_str (by decide +kernel) rfl) pa_nil))))) (pss_one (L2N.ps_raise rfl (L2N.takes_of rfl rfl rfl rfl) (pmk_oexN T.o_InvalidSyntax T.i_InvalidSyntax T.ti_InvalidSyntax G_InvalidSyntax_init (hr.mono (by decide)) T.b_InvalidSyntax_init pass0 (by rfl) T.g_InvalidSyntax rfl (pa_cons pe_non pa_nil)))) pss_nil)), ?_⟩
    refine ⟨x, rfl, x, .ty "str", _, _, false, rfl, .ty _, hx, hk, false, rfl, iteT ?_⟩
    exact ⟨rfl, fun a ha => ⟨a, .non, rfl, upd_same, .inl rfl, fun dx hdx hn => ⟨rfl, dx, _, upd_same, by rw [upd_ne hn, upd_same], by rw [upd_ne hn] at hdx; exact hdx, q dx _ (raise_same ha hdx hn) upd_same⟩⟩⟩
theorem ok_parse_discN (T : Txt K mg) : FnOk P w K mg base (L2N.CX P w) 8 T.a_parse_disc T.d_parse_disc ["text"] (spNoText K T.C_InvalidSyntax) := by
  have G_check_text := ok_check_textX (P := P) (w := w) (base := base) T
  have G_parse_words := ok_parse_wordsX (P := P) (w := w) (base := base) T
  refine okXN T.F_parse_disc sc_parse_disc (fun vs H Q E h => ?_) (fun cdv A outer s H vs Q E hr h => ?_)
  · obtain ⟨_, _, rfl, _⟩ := h
    rfl
  · obtain ⟨x, t, rfl, hx, hk, q⟩ := h
    refine ⟨_, (pss_cons (ps_expr (pe_call G_check_text (hr.mono (by decide)) (by rfl) T.g_check_text T.F_check_text.kp T.b_check_text .nil (L2N.passes_call (E := E) (W := fun cls d _ H => E cls d H) (L2N.takes_of rfl rfl rfl rfl) (fun _ _ _ _ h => h)) (pa_cons (pv 0) pa_nil)))
      (pss_one (ps_ret (pe_call G_parse_words (hr.mono (by decide)) (by rfl) T.g_parse_words T.F_parse_words.kp T.b_parse_words .nil (L2N.passes_call (E := E) (W := fun cls d _ H => E cls d H) (L2N.takes_of rfl rfl rfl rfl) (fun _ _ _ _ h => h)) (pa_cons (pv 0) (pa_cons (pe_glob (v := .ref T.a_slot_in) rfl T.g_slot_in rfl) (pa_cons (pe_glob (v := .int (40)) rfl T.g_MOST_SLOTS ⟨_, rfl⟩) pa_nil))))))), ?_⟩
    exact ⟨x, rfl, x, t, rfl, hx, hk, q⟩
theorem ok_parse_rowN (T : Txt K mg) : FnOk P w K mg base (L2N.CX P w) 8 T.a_parse_row T.d_parse_row ["text"] (spNoText K T.C_InvalidSyntax) := by
  have G_check_text := ok_check_textX (P := P) (w := w) (base := base) T
  have G_parse_words := ok_parse_wordsX (P := P) (w := w) (base := base) T
  refine okXN T.F_parse_row sc_parse_row (fun vs H Q E h => ?_) (fun cdv A outer s H vs Q E hr h => ?_)
  · obtain ⟨_, _, rfl, _⟩ := h
    rfl
  · obtain ⟨x, t, rfl, hx, hk, q⟩ := h
    refine ⟨_, (pss_cons (ps_expr (pe_call G_check_text (hr.mono (by decide)) (by rfl) T.g_check_text T.F_check_text.kp T.b_check_text .nil (L2N.passes_call (E := E) (W := fun cls d _ H => E cls d H) (L2N.takes_of rfl rfl rfl rfl) (fun _ _ _ _ h => h)) (pa_cons (pv 0) pa_nil)))
      (pss_one (ps_ret (pe_call G_parse_words (hr.mono (by decide)) (by rfl) T.g_parse_words T.F_parse_words.kp T.b_parse_words .nil (L2N.passes_call (E := E) (W := fun cls d _ H => E cls d H) (L2N.takes_of rfl rfl rfl rfl) (fun _ _ _ _ h => h)) (pa_cons (pv 0) (pa_cons (pe_glob (v := .ref T.a_number_in) rfl T.g_number_in rfl) (pa_cons (pe_glob (v := .int (40)) rfl T.g_MOST_SLOTS ⟨_, rfl⟩) pa_nil))))))), ?_⟩
    exact ⟨x, rfl, x, t, rfl, hx, hk, q⟩
theorem ok_parse_looksN (T : Txt K mg) : FnOk P w K mg base (L2N.CX P w) 8 T.a_parse_looks T.d_parse_looks ["text"] (spNoText K T.C_InvalidSyntax) := by
  have G_check_text := ok_check_textX (P := P) (w := w) (base := base) T
  have G_parse_words := ok_parse_wordsX (P := P) (w := w) (base := base) T
  refine okXN T.F_parse_looks sc_parse_looks (fun vs H Q E h => ?_) (fun cdv A outer s H vs Q E hr h => ?_)
  · obtain ⟨_, _, rfl, _⟩ := h
    rfl
  · obtain ⟨x, t, rfl, hx, hk, q⟩ := h
    refine ⟨_, (pss_cons (ps_expr (pe_call G_check_text (hr.mono (by decide)) (by rfl) T.g_check_text T.F_check_text.kp T.b_check_text .nil (L2N.passes_call (E := E) (W := fun cls d _ H => E cls d H) (L2N.takes_of rfl rfl rfl rfl) (fun _ _ _ _ h => h)) (pa_cons (pv 0) pa_nil)))
      (pss_cons (ps_if (pt_cmpR op_eq (pv 0) pe_str (nomark _)) (pss_one (ps_ret (pe_lst pa_nil))) pss_nil) (pss_one (ps_ret (pe_call G_parse_words (hr.mono (by decide)) (by rfl) T.g_parse_words T.F_parse_words.kp T.b_parse_words .nil (L2N.passes_call (E := E) (W := fun cls d _ H => E cls d H) (L2N.takes_of rfl rfl rfl rfl) (fun _ _ _ _ h => h)) (pa_cons (pv 0) (pa_cons (pe_glob (v := .ref T.a_look_in) rfl T.g_look_in rfl) (pa_cons (pe_glob (v := .int (40)) rfl T.g_MOST_LOOKS ⟨_, rfl⟩) pa_nil)))))))), ?_⟩
    exact ⟨x, rfl, x, t, rfl, hx, hk, q⟩
/-! ### right texts -/
def spTextV (u : Str) : Sp := fun vs H Q _ => vs = [.str u] ∧ ∀ (v : V) (H' : Hp), Same H H' → Q v H'

/-- all tuples are as they were -/
def SameT (H1 H2 : Hp) : Prop := ∀ b xs, H1 b = some (.tup xs) → H2 b = some (.tup xs)
theorem SameT.of {H1 H2 : Hp} (s : Same H1 H2) : SameT H1 H2 := fun b xs e => s _ _ e
theorem SameT.trans {H1 H2 H3 : Hp} (a : SameT H1 H2) (b : SameT H2 H3) : SameT H1 H3 := fun c xs e => b c xs (a c xs e)
theorem SameT.put {H : Hp} {D : Addr} {us : List V} {o : HO} (e : H D = some (.lst us)) : SameT H (upd H D o) := fun b xs h => by
  rw [upd_ne (fun z => by rw [z, e] at h; cases h)]
  exact h
/-- what the words are read as -/
def spParse (P : Program) (w : World) (K : PySem.W.Frag) (mg : Str → Option Value) (base : Heap) : Sp := fun vs H Q _ => ∃ (f : Addr) (m : Int) (ws : List (List Nat)) (spW : Sp) (R : List Nat → V → Hp → Prop),
  vs = [.str (wordsS ws), .ref f, .int m] ∧ FnR P w K mg base CX0 4 f spW ∧ PySem.W.keepIn K (.ref f) = true ∧ ws ≠ [] ∧ (∀ x ∈ ws, 32 ∉ x ∧ x.length ≤ 200) ∧ (ws.length : Int) ≤ m ∧ ws.length ≤ 100 ∧
  (∀ x v H1 H2, R x v H1 → SameT H1 H2 → R x v H2) ∧ (∀ x v H1, R x v H1 → v ≠ .non) ∧
  (∀ x ∈ ws, ∀ (H1 : Hp) (Q1 : VK), (∀ v H2, Same H1 H2 → R x v H2 → Q1 v H2) → spW [.str (mkS x)] H1 Q1 E0) ∧
  ∀ (l : Addr) (us : List V) (H' : Hp), Same H H' → H l = none → H' l = some (.lst us) → us.length = ws.length → (∀ (i : Nat) (x : List Nat) (v : V), ws[i]? = some x → us[i]? = some v → R x v H') → Q (.ref l) H'
theorem ok_parse_words (T : Txt K mg) : FnOk P w K mg base CX0 7 T.a_parse_words T.d_parse_words ["text", "value_in", "most"] (spParse P w K mg base) := by
  refine T.F_parse_words.ok sc_parse_words (fun vs H Q E h => ?_) (fun cdv A outer s H vs Q E hr h => ?_)
  · obtain ⟨_, _, _, _, _, rfl, _⟩ := h
    rfl
  · obtain ⟨f, m, ws, spW, R, rfl, Fv, hkv, hne, hfree, hm, hl, hst, hnn, hsp, q⟩ := h
    have hrv : Room 4 _ := hr.mono (by decide)
    refine ⟨_, (pss_cons (ps_set (i := 3) sc_parse_words.nd rfl (.inl rfl) (pe_lst pa_nil))
      (pss_cons (ps_for PassesOwn.never rfl (enumL (K := K) rfl (by rfl) T.n_enumerate (pa_cons (pe_split (pv 0) pe_str) pa_nil)) (pg_tupL (K := K) (n := 2) rfl rfl (pgs_cons (pg_name (i := 4) sc_parse_words.nd rfl (.inl rfl)) (pgs_cons (pg_name (i := 5) sc_parse_words.nd rfl (.inl rfl)) pgs_nil))) (pss_cons (ps_set (i := 6) sc_parse_words.nd rfl (.inl rfl) (ItX.pe_callV (i := 1) Fv hrv hkv pass0 rfl (.inl rfl) (pa_cons (pv 5) pa_nil)))
      (pss_cons (ps_if (PW.pt (pw_or (pt_cmpR op_isN (pv 6) pe_non (nomark _)) (pw_or1 (pt_cmpR op_ge (pv 4) (pv 2) (nomark _))))) (pss_one ps_never) pss_nil)
      (pss_one (ps_expr (pe_bm PySem.F.plainAttrs_list PySem.F.slot_list_append PySem.F.type_list_append mt_append (pv 3) (pa_cons (pv 6) pa_nil)))))))
      (pss_one (ps_ret (pv 3))))), ?_⟩
    refine ⟨(by show 0 ≤ sizeLine; decide), fun D hD => ?_⟩
    have wl := words_len (k := 200) (fun x hx => (hfree x hx).2)
    have wl2 : (wordsS ws).length + 2 ≤ sizeLine := spl_le (k := 30000) (by omega) (by decide)
    refine ⟨.str (wordsS ws), rfl, ⟨_, rfl⟩, wordsS ws, spS, rfl, congrArg (fun z => [V.str z]) cSp, by decide +kernel, wl2, fun L hL => ?_⟩
    rw [words_split hne (fun x hx => (hfree x hx).1)]
    have s1 := (new_same (o := .lst []) hD).trans (new_same (o := .lst ((ws.map mkS).map V.str)) hL)
    have gD := new_same (o := .lst ((ws.map mkS).map V.str)) hL _ _ (upd_same (H := H) (a := D) (o := .lst []))
    have gL : (upd (upd H D (.lst [])) L (.lst ((ws.map mkS).map V.str))) L = some (.lst ((ws.map mkS).map V.str)) := upd_same
    generalize upd (upd H D (.lst [])) L (.lst ((ws.map mkS).map V.str)) = H1 at s1 gD gL ⊢
    have nDL : L ≠ D := fun e => by
      rw [e] at gL
      rw [gL] at gD
      have := HO.lst.inj (Option.some.inj gD)
      rw [List.map_eq_nil_iff, List.map_eq_nil_iff] at this
      exact hne this
    refine ⟨L, _, rfl, SqL.of gL, for_it (walk_enum (K := K) (xs := (ws.map mkS).map V.str)) (fun i σ H' => ∃ (y4 y5 y6 : Option V) (us : List V), σ = [some (.str (wordsS ws)), some (.ref f), some (.int m), some (.ref D), y4, y5, y6] ∧ Same H H' ∧ H' L = some (.lst ((ws.map mkS).map V.str)) ∧ H' D = some (.lst us) ∧ us.length = i ∧
        ∀ (j : Nat) (x : List Nat) (v : V), ws[j]? = some x → us[j]? = some v → R x v H')
      ⟨none, none, none, [], rfl, s1, gL, gD, rfl, fun j x v _ e => nomatch e⟩ (fun i σ H' _ ⟨_, _, _, _, _, _, g, _⟩ => SqL.of g) (fun i x σ H2 H3 hi hP hY => ?_) (fun σ H2 hP => ?_)⟩
    · obtain ⟨y4, y5, y6, us, rfl, s2, gL2, gD2, hul, hR⟩ := hP
      obtain ⟨p, z1, z2, rfl, hp, rfl, e3, e4⟩ := hY
      have e3 : V.int (i : Int) = z1 := Option.some.inj e3
      subst e3
      obtain ⟨y, hy, rfl⟩ := strs_at e4
      rw [List.getElem?_map] at hy
      obtain ⟨x, hx, rfl⟩ : ∃ x, ws[i]? = some x ∧ y = mkS x := by
        cases e : ws[i]? with
        | none => rw [e] at hy; cases hy
        | some x => rw [e] at hy; exact ⟨x, rfl, (Option.some.inj hy).symm⟩
      have hiw : i < ws.length := (List.getElem?_eq_some_iff.mp hx).1
      refine ⟨p, _, rfl, SqT.of upd_same, rfl, _, _, rfl, _, _, rfl, rfl, ?_⟩
      have s3 := new_same (o := .tup [.int i, .str (mkS x)]) hp
      refine ⟨rfl, .str (mkS x), rfl, hsp x (List.mem_of_getElem? hx) _ _ fun v H4 s4 hv => ?_⟩
      have hvn := hnn _ _ _ hv
      have s34 := s3.trans s4
      refine ⟨v, rfl, ?_⟩
      refine ⟨rfl, _, rfl, ?_⟩
      show (if decide (v = V.non) = true then _ else _)
      rw [decide_eq_false hvn]
      refine iteF ?_
      refine ⟨.int i, rfl, .int m, rfl, i, m, rfl, rfl, _, rfl, ite2 (fun h => absurd (of_decide_eq_true h) (by omega)) (fun _ => ?_)⟩
      have gD4 := s34 _ _ gD2
      refine ⟨.ref D, rfl, .inl ⟨rfl, _, SqL.of gD4⟩, v, rfl, D, _, _, rfl, rfl, gD4, by rw [hul]; exact sz40 (by omega), ?_⟩
      refine ⟨_, _, _, us ++ [v], rfl, same_over (s2.trans s34) hD, ?_, upd_same, by rw [List.length_append, hul]; rfl, fun j x' v' hx' hv' => ?_⟩
      · rw [upd_ne nDL]
        exact s34 _ _ gL2
      · have sp := SameT.put (o := .lst (us ++ [v])) gD4
        rcases Nat.lt_or_ge j us.length with z | z
        · rw [List.getElem?_append_left z] at hv'
          exact hst _ _ _ _ (hR j x' v' hx' hv') ((SameT.of s34).trans sp)
        · have ej : j = i := by
            have := (List.getElem?_eq_some_iff.mp hv').1
            rw [List.length_append] at this
            have : j < us.length + 1 := this
            omega
          subst ej
          rw [hx] at hx'
          cases hx'
          rw [← hul, List.getElem?_concat_length] at hv'
          cases hv'
          exact hst _ _ _ _ hv sp
    · obtain ⟨y4, y5, y6, us, rfl, s2, gL2, gD2, hul, hR⟩ := hP
      rw [List.length_map, List.length_map] at hul
      exact ⟨.ref D, rfl, q D us H2 s2 hD gD2 hul hR⟩
theorem intL_inj47 {m n : Int} (hm : m.natAbs < 10 ^ 600) (hn : n.natAbs < 10 ^ 600) (h : intL m = intL n) : m = n := by
  have e1 := int_reads hm
  have e2 := int_reads hn
  unfold intS at e1 e2
  rw [h, e2] at e1
  exact (Option.some.inj e1).symm
theorem ten_up {n : Int} {a b : Nat} (h : n.natAbs < 10 ^ a) (hab : a ≤ b) : n.natAbs < 10 ^ b := Nat.lt_of_lt_of_le h (Nat.pow_le_pow_right (by decide) hab)
def readI (x : List Nat) (v : V) (_ : Hp) : Prop := ∃ n : Int, x = intL n ∧ n.natAbs < 10 ^ 600 ∧ v = .int n
theorem read_ints {ns : List Int} {us : List V} {H : Hp} (hb : ∀ n ∈ ns, n.natAbs < 10 ^ 600) (hl : us.length = (ns.map intL).length)
    (h : ∀ (i : Nat) (x : List Nat) (v : V), (ns.map intL)[i]? = some x → us[i]? = some v → readI x v H) : us = ns.map V.int := by
  rw [List.length_map] at hl
  refine List.ext_getElem? fun i => ?_
  by_cases hi : i < ns.length
  · have e1 : ns[i]? = some ns[i] := List.getElem?_eq_getElem hi
    have e2 : us[i]? = some us[i] := List.getElem?_eq_getElem (by omega)
    obtain ⟨n, en, hn, ev⟩ := h i (intL ns[i]) us[i] (by rw [List.getElem?_map, e1]; rfl) e2
    have := intL_inj47 (hb _ (List.getElem_mem hi)) hn en
    rw [e2, ev, List.getElem?_map, e1, ← this]
    rfl
  · rw [List.getElem?_eq_none (by omega), List.getElem?_eq_none (by rw [List.length_map]; omega)]
theorem int_word {n : Int} {k : Nat} (h : n.natAbs < 10 ^ k) (hk : 0 < k) (hk2 : k ≤ 100) : 32 ∉ intL n ∧ (intL n).length ≤ 200 := ⟨intL_free (.inl (by decide)) (by decide), by have := intL_len hk h; omega⟩
def spParseDisc : Sp := fun vs H Q _ => ∃ ns : List Int, vs = [.str (wordsS (ns.map intL))] ∧ Rim ns ∧ ∀ (l : Addr) (H' : Hp), Same H H' → H l = none → H' l = some (.lst (ns.map V.int)) → Q (.ref l) H'
theorem ok_parse_disc (T : Txt K mg) : FnOk P w K mg base CX0 8 T.a_parse_disc T.d_parse_disc ["text"] spParseDisc := by
  have G_check_text := ok_check_text (P := P) (w := w) (base := base) T
  have G_parse_words := ok_parse_words (P := P) (w := w) (base := base) T
  have G_slot_in := ok_slot_in (P := P) (w := w) (base := base) T
  refine T.F_parse_disc.ok sc_parse_disc (fun vs H Q E h => ?_) (fun cdv A outer s H vs Q E hr h => ?_)
  · obtain ⟨_, rfl, _⟩ := h
    rfl
  · obtain ⟨ns, rfl, hR, q⟩ := h
    refine ⟨_, (pss_cons (ps_expr (pe_call G_check_text (hr.mono (by decide)) (by rfl) T.g_check_text T.F_check_text.kp T.b_check_text .nil pass0 (pa_cons (pv 0) pa_nil)))
      (pss_one (ps_ret (pe_call G_parse_words hr (by rfl) T.g_parse_words T.F_parse_words.kp T.b_parse_words .nil pass0 (pa_cons (pv 0) (pa_cons (pe_glob (v := .ref T.a_slot_in) rfl T.g_slot_in rfl) (pa_cons (pe_glob (v := .int (40)) rfl T.g_MOST_SLOTS ⟨_, rfl⟩) pa_nil))))))), ?_⟩
    have l40 := hR.le
    have lp := hR.pos
    have hb : ∀ n ∈ ns, n.natAbs < 10 ^ 40 := fun n hn => rim_small (hR.all n hn).1 (hR.all n hn).2
    refine ⟨.str _, rfl, _, rfl, ?_⟩
    refine ⟨.str _, rfl, T.a_slot_in, 40, ns.map intL, spSlotIn, readI, rfl, ((G_slot_in.raw T.b_slot_in .nil).imp fun vs H Q E h => by rw [List.append_nil]; exact h).mono (by decide), T.F_slot_in.kp, ?_, ?_, ?_, ?_, ?_, ?_, ?_, ?_⟩
    · intro e
      rw [List.map_eq_nil_iff.mp e] at lp
      cases lp
    · intro x hx
      obtain ⟨n, hn, rfl⟩ := List.mem_map.mp hx
      exact int_word (hb n hn) (by decide) (by decide)
    · rw [List.length_map]
      omega
    · rw [List.length_map]
      omega
    · exact fun x v H1 H2 h _ => h
    · rintro x v H1 ⟨n, _, _, rfl⟩
      exact fun e => nomatch e
    · intro x hx H1 Q1 hq
      obtain ⟨n, hn, rfl⟩ := List.mem_map.mp hx
      exact ⟨n, rfl, (hR.all n hn).1, (hR.all n hn).2, hq _ _ (Same.refl H1) ⟨n, rfl, ten_up (hb n hn) (by decide), rfl⟩⟩
    · intro l us H' s f e hl hr
      have eu := read_ints (fun n hn => ten_up (hb n hn) (by decide)) hl hr
      subst eu
      exact q l H' s f e
def spParseRow : Sp := fun vs H Q _ => ∃ ns : List Int, vs = [.str (wordsS (ns.map intL))] ∧ (∀ n ∈ ns, n.natAbs < 10 ^ 40) ∧ 1 ≤ ns.length ∧ ns.length ≤ 40 ∧ ∀ (l : Addr) (H' : Hp), Same H H' → H l = none → H' l = some (.lst (ns.map V.int)) → Q (.ref l) H'
theorem ok_parse_row (T : Txt K mg) : FnOk P w K mg base CX0 8 T.a_parse_row T.d_parse_row ["text"] spParseRow := by
  have G_check_text := ok_check_text (P := P) (w := w) (base := base) T
  have G_parse_words := ok_parse_words (P := P) (w := w) (base := base) T
  have G_number_in := ok_number_in (P := P) (w := w) (base := base) T
  refine T.F_parse_row.ok sc_parse_row (fun vs H Q E h => ?_) (fun cdv A outer s H vs Q E hr h => ?_)
  · obtain ⟨_, rfl, _⟩ := h
    rfl
  · obtain ⟨ns, rfl, hb, lp, l40, q⟩ := h
    refine ⟨_, (pss_cons (ps_expr (pe_call G_check_text (hr.mono (by decide)) (by rfl) T.g_check_text T.F_check_text.kp T.b_check_text .nil pass0 (pa_cons (pv 0) pa_nil)))
      (pss_one (ps_ret (pe_call G_parse_words hr (by rfl) T.g_parse_words T.F_parse_words.kp T.b_parse_words .nil pass0 (pa_cons (pv 0) (pa_cons (pe_glob (v := .ref T.a_number_in) rfl T.g_number_in rfl) (pa_cons (pe_glob (v := .int (40)) rfl T.g_MOST_SLOTS ⟨_, rfl⟩) pa_nil))))))), ?_⟩
    refine ⟨.str _, rfl, _, rfl, ?_⟩
    refine ⟨.str _, rfl, T.a_number_in, 40, ns.map intL, spNumIn, readI, rfl, ((G_number_in.raw T.b_number_in .nil).imp fun vs H Q E h => by rw [List.append_nil]; exact h).mono (by decide), T.F_number_in.kp, ?_, ?_, ?_, ?_, ?_, ?_, ?_, ?_⟩
    · intro e
      rw [List.map_eq_nil_iff.mp e] at lp
      cases lp
    · intro x hx
      obtain ⟨n, hn, rfl⟩ := List.mem_map.mp hx
      exact int_word (hb n hn) (by decide) (by decide)
    · rw [List.length_map]
      omega
    · rw [List.length_map]
      omega
    · exact fun x v H1 H2 h _ => h
    · rintro x v H1 ⟨n, _, _, rfl⟩
      exact fun e => nomatch e
    · intro x hx H1 Q1 hq
      obtain ⟨n, hn, rfl⟩ := List.mem_map.mp hx
      exact ⟨n, rfl, hb n hn, hq _ _ (Same.refl H1) ⟨n, rfl, ten_up (hb n hn) (by decide), rfl⟩⟩
    · intro l us H' s f e hl hr
      have eu := read_ints (fun n hn => ten_up (hb n hn) (by decide)) hl hr
      subst eu
      exact q l H' s f e
def readP (x : List Nat) (v : V) (H : Hp) : Prop := ∃ p : Int × Int, x = lookL p ∧ (p.1.natAbs < 10 ^ 600 ∧ p.2.natAbs < 10 ^ 600) ∧ ∃ t, v = .ref t ∧ H t = some (.tup [.int p.1, .int p.2])
theorem look_inj {p r : Int × Int} (hp : p.1.natAbs < 10 ^ 600 ∧ p.2.natAbs < 10 ^ 600) (hr : r.1.natAbs < 10 ^ 600 ∧ r.2.natAbs < 10 ^ 600) (h : lookL p = lookL r) : p = r := by
  have e1 := look_cut p
  rw [h, look_cut r] at e1
  have a := (mk_inj.mp (Prod.mk.inj e1).1)
  have b := (mk_inj.mp (Prod.mk.inj (Prod.mk.inj e1).2).2)
  exact Prod.ext (intL_inj47 hp.1 hr.1 a.symm) (intL_inj47 hp.2 hr.2 b.symm)
theorem read_looks {H : Hp} : ∀ {ps : List (Int × Int)} {us : List V}, (∀ p ∈ ps, p.1.natAbs < 10 ^ 600 ∧ p.2.natAbs < 10 ^ 600) → us.length = (ps.map lookL).length →
    (∀ (i : Nat) (x : List Nat) (v : V), (ps.map lookL)[i]? = some x → us[i]? = some v → readP x v H) → Prs H us ps
  | [], [], _, _, _ => .nil
  | [], _ :: _, _, hl, _ => nomatch hl
  | _ :: _, [], _, hl, _ => nomatch hl
  | p :: ps, u :: us, hb, hl, h => by
    obtain ⟨r, er, hr, t, rfl, et⟩ := h 0 (lookL p) u rfl rfl
    have e := look_inj (hb p List.mem_cons_self) hr er
    subst e
    exact .cons et (read_looks (fun p hp => hb p (List.mem_cons_of_mem _ hp)) (Nat.succ.inj hl) fun i x v hx hv => h (i + 1) x v hx hv)
def spParseLooks : Sp := fun vs H Q _ => ∃ ps : List (Int × Int), vs = [.str (wordsS (ps.map lookL))] ∧ (∀ p ∈ ps, p.1.natAbs < 10 ^ 40 ∧ 0 ≤ p.2 ∧ p.2.natAbs < 10 ^ 40) ∧ ps.length ≤ 40 ∧
  ∀ (l : Addr) (us : List V) (H' : Hp), Same H H' → H l = none → H' l = some (.lst us) → Prs H' us ps → Q (.ref l) H'
theorem ok_parse_looks (T : Txt K mg) : FnOk P w K mg base CX0 8 T.a_parse_looks T.d_parse_looks ["text"] spParseLooks := by
  have G_check_text := ok_check_text (P := P) (w := w) (base := base) T
  have G_parse_words := ok_parse_words (P := P) (w := w) (base := base) T
  have G_look_in := ok_look_in (P := P) (w := w) (base := base) T
  refine T.F_parse_looks.ok sc_parse_looks (fun vs H Q E h => ?_) (fun cdv A outer s H vs Q E hr h => ?_)
  · obtain ⟨_, rfl, _⟩ := h
    rfl
  · obtain ⟨ps, rfl, hb, l40, q⟩ := h
    refine ⟨_, (pss_cons (ps_expr (pe_call G_check_text (hr.mono (by decide)) (by rfl) T.g_check_text T.F_check_text.kp T.b_check_text .nil pass0 (pa_cons (pv 0) pa_nil)))
      (pss_cons (ps_if (pt_cmpR op_eq (pv 0) pe_str (nomark _)) (pss_one (ps_ret (pe_lst pa_nil))) pss_nil)
      (pss_one (ps_ret (pe_call G_parse_words hr (by rfl) T.g_parse_words T.F_parse_words.kp T.b_parse_words .nil pass0 (pa_cons (pv 0) (pa_cons (pe_glob (v := .ref T.a_look_in) rfl T.g_look_in rfl) (pa_cons (pe_glob (v := .int (40)) rfl T.g_MOST_LOOKS ⟨_, rfl⟩) pa_nil)))))))), ?_⟩
    refine ⟨.str _, rfl, _, rfl, ?_⟩
    refine ⟨.str _, rfl, rfl, _, rfl, ?_⟩
    rw [cNone]
    cases ps with
    | nil =>
      have e : V.str (wordsS (([] : List (Int × Int)).map lookL)) = V.str (mkS []) := by
        show V.str (Txt.join spS []) = _
        rw [join_none]
      rw [decide_eq_true e]
      refine iteT ?_
      refine ⟨(by show 0 ≤ sizeLine; decide), fun l hl => ?_⟩
      exact q l [] _ (new_same hl) hl upd_same .nil
    | cons p ps =>
      have e : ¬ V.str (wordsS ((p :: ps).map lookL)) = V.str (mkS []) := fun z => by
        have z2 := congrArg TL.tl (V.str.inj z)
        rw [tl_words] at z2
        have z3 : TL.joinL [32] ((p :: ps).map lookL) = [] := z2
        have ne : lookL p ≠ [] := fun y => by
          unfold lookL at y
          exact absurd (List.append_eq_nil_iff.mp y).2 (fun y => nomatch y)
        cases ps with
        | nil => exact ne z3
        | cons r rs => exact ne (List.append_eq_nil_iff.mp z3).1
      rw [decide_eq_false e]
      refine iteF ?_
      refine ⟨.str _, rfl, T.a_look_in, 40, (p :: ps).map lookL, spLookIn, readP, rfl, ((G_look_in.raw T.b_look_in .nil).imp fun vs H Q E h => by rw [List.append_nil]; exact h).mono (by decide), T.F_look_in.kp, ?_, ?_, ?_, ?_, ?_, ?_, ?_, ?_⟩
      · exact fun z => nomatch z
      · intro x hx
        obtain ⟨r, hr, rfl⟩ := List.mem_map.mp hx
        obtain ⟨b1, b0, b2⟩ := hb r hr
        exact ⟨look_free r, by have := look_len (k := 40) (by decide) b1 b2; omega⟩
      · rw [List.length_map]
        omega
      · rw [List.length_map]
        omega
      · rintro x v H1 H2 ⟨r, er, hr, t, ev, et⟩ s
        exact ⟨r, er, hr, t, ev, s _ _ et⟩
      · rintro x v H1 ⟨r, _, _, t, rfl, _⟩
        exact fun e => nomatch e
      · intro x hx H1 Q1 hq
        obtain ⟨r, hr, rfl⟩ := List.mem_map.mp hx
        obtain ⟨b1, b0, b2⟩ := hb r hr
        exact ⟨r, rfl, b1, b0, b2, fun t H' s e => hq _ _ s ⟨r, rfl, ⟨ten_up b1 (by decide), ten_up b2 (by decide)⟩, t, rfl, e⟩⟩
      · intro l us H' s f e hl hr
        exact q l us H' s f e (read_looks (fun r hr => ⟨ten_up (hb r hr).1 (by decide), ten_up (hb r hr).2.2 (by decide)⟩) hl hr)

/-! ### _law_raised -/
theorem fn_lift {CX : CXT} {k : Nat} {f : Addr} {fd : FuncData} {ps : List Str} {sp : Sp} (F : FnOk P w K mg base CX0 k f fd ps sp) : FnOk P w K mg base CX k f fd ps sp := by
  refine ⟨F.len, ?_⟩
  intro A outer s H args us vs Q E hr e0 b r h
  refine codeAny_mono (F.run A outer s H args us vs Q E hr e0 b r h) fun r s' hq => ?_
  cases r with
  | error e => exact False.elim hq
  | ok fl => cases fl <;> exact hq
theorem psb_all {X : Cx} {b : List Stmt} {ι : Type} {φ : ι → Prop} {t : ι → TS} (i : ι) (hi : φ i) (h : PSs X b (t i)) : PSs X b (fun D σ H => ∀ j, φ j → t j D σ H) :=
  ⟨fun pins s σ H D I q => h.run pins s σ H D I (q i hi)⟩
theorem cNo : [V.str (Str.ofString "")] = [V.str (wordsS (([] : List (Int × Int)).map lookL))] := by decide +kernel
theorem tyX_same {K : PySem.W.Frag} {H H' : Hp} {x : V} {t : Value} (h : TyX K H x t) (s : Same H H') : TyX K H' x t := by
  cases h with
  | base b =>
    cases b with
    | non => exact .base .non
    | bl x => exact .base (.bl x)
    | int i => exact .base (.int i)
    | str x => exact .base (.str x)
    | flt x => exact .base (.flt x)
    | lst e => exact .base (.lst (s _ _ e))
    | frz e => exact .base (.frz (s _ _ e))
    | tup e => exact .base (.tup (s _ _ e))
    | dK e => exact .base (.dK (s _ _ e))
    | dT e => exact .base (.dT (s _ _ e))
    | ins e cl ha hn htk hm => exact .base (.ins (s _ _ e) cl ha hn htk hm)
  | byt b => exact .byt b
  | set e => exact .set (s _ _ e)
  | kList e c => exact .kList e c
  | kTuple e c => exact .kTuple e c
  | kDict e c => exact .kDict e c
  | fTuple e => exact .fTuple (s _ _ e)
  | fDict e => exact .fDict (s _ _ e)
/-- what _law_raised may be asked, and its answer -/
inductive Ask (K : PySem.W.Frag) (H : Hp) : Nat → V → List V → Prop
  | text {k : Nat} {ws : List (List Nat)} {c : Nat} (h : Refused k ws c) (n : k = 2 → wordsS ws ≠ Str.ofString "") : Ask K H k (.str (wordsS ws)) [.str (Str.ofString "syntax " ++ sX (.int c))]
  | none {k : Nat} {x : V} {t : Value} (h : TyX K H x t) (n : PySem.W.kitOne K t (.type "str") = some false) : Ask K H k x [.str (Str.ofString "syntax " ++ sX .non)]
  | disc {ns : List Int} (h : Rim ns) : Ask K H 0 (.str (wordsS (ns.map intL))) []
  | row {ns : List Int} (h : ∀ n ∈ ns, n.natAbs < 10 ^ 40) (h1 : 1 ≤ ns.length) (h2 : ns.length ≤ 40) : Ask K H 1 (.str (wordsS (ns.map intL))) []
  | looks : Ask K H 2 (.str (Str.ofString "")) []
def spRaised (K : PySem.W.Frag) : Sp := fun vs H Q _ => ∃ (k : Nat) (x : V) (u : Str) (res : List V), vs = [.int k, x] ∧ k ≤ 2 ∧ Ask K H k x res ∧ Rep H x u ∧
  ∀ (l : Addr) (H' : Hp), Same H H' → H l = none → H' l = some (.lst res) → Q (.ref l) H'
theorem ok_law_raised (T : Txt K mg) : FnG P w K mg base CX0 9 T.a_law_raised T.d_law_raised ["kind", "thing"] (spRaised K) := by
  have G_parse_disc := fnok_or (fnok_or (ok_parse_discX (P := P) (w := w) (base := base) T) (ok_parse_discN T)) (fn_lift (ok_parse_disc T))
  have G_parse_row := fnok_or (fnok_or (ok_parse_rowX (P := P) (w := w) (base := base) T) (ok_parse_rowN T)) (fn_lift (ok_parse_row T))
  have G_parse_looks := fnok_or (fnok_or (ok_parse_looksX (P := P) (w := w) (base := base) T) (ok_parse_looksN T)) (fn_lift (ok_parse_looks T))
  have G_law_words := ok_law_words (P := P) (w := w) (base := base) T
  refine okG T.F_law_raised sc_law_raised (fun vs H Q E h => ?_) (fun cdv A outer s H vs Q E hg hr h => ?_)
  · obtain ⟨_, _, _, _, rfl, _⟩ := h
    rfl
  · obtain ⟨k, x, u, res, rfl, hk, hA, hD, q⟩ := h
    have hr1 : Room 8 _ := hr.mono (by decide)
    have hr2 : Room 8 _ := hr.mono (by decide)
    have hr3 : Room 8 _ := hr.mono (by decide)
    have hr4 : Room 1 _ := hr.mono (by decide)
    refine ⟨_, (pss_cons (ps_par (i := 2) (j := 3) (by rfl) sc_law_raised.nd rfl rfl (by decide) rfl rfl (pa_cons (pe_callB (reprT hg hr) (by rfl) T.n_repr (by decide +kernel) (pa_cons (pv 1) pa_nil)) (pa_cons (pe_lst pa_nil) pa_nil)) (by rfl))
      (pss_cons (L2N.ps_try_as (i := 4) rfl rfl sc_law_raised.nd rfl rfl ⟨rfl, by decide, .inl T.g_DiscError⟩ takesN0
        (fun W pn xe tk _ => pss_one (ps_if (pt_cmpR op_eq (pv 0) pe_int (nomark _))
          (pss_one (ps_expr (by exact (pe_callS G_parse_disc hr1 rfl T.g_parse_disc T.F_parse_disc.kp T.b_parse_disc (fun σ => L2N.passAt tk σ) (by exact (pa_cons (pv 1) pa_nil))))))
          (pss_one (ps_if (pt_cmpR op_eq (pv 0) pe_int (nomark _))
            (pss_one (ps_expr (by exact (pe_callS G_parse_row hr2 rfl T.g_parse_row T.F_parse_row.kp T.b_parse_row (fun σ => L2N.passAt tk σ) (by exact (pa_cons (pv 1) pa_nil))))))
            (pss_one (ps_expr (by exact (pe_callS G_parse_looks hr3 rfl T.g_parse_looks T.F_parse_looks.kp T.b_parse_looks (fun σ => L2N.passAt tk σ) (by exact (pa_cons (pv 1) pa_nil))))))))))
        (fun a oe cls dd pn hz hv => psb_all (φ := fun o : Obj => L2N.Zn cls dd o ∧ ∃ vs, o.data = .fields vs) (t := fun o => _) oe ⟨hz, hv⟩
          (pss_one (ps_set (i := 3) sc_law_raised.nd rfl (.inl rfl) (pe_callZ (p := (a, oe)) (E := fun _ => E0) G_law_words (L2H.roomH_mark hr4 _) hg (hv.elim fun vs e => ⟨rfl, vs, e, hz.2.2 vs e⟩) List.mem_cons_self (by rfl) T.g_law_words T.F_law_words.kp T.b_law_words (fun σ pins H s e s' I c => c.elim) (pa_cons (pv 4) pa_nil))))))
      (pss_one (ps_ret (pe_ifExp (pt_cmpR op_eq (pe_callB (reprT hg hr) (by rfl) T.n_repr (by decide +kernel) (pa_cons (pv 1) pa_nil)) (pv 2) (nomark _)) (pv 3) (pe_lst (pa_cons pe_str pa_nil))))))), ?_⟩
    -- reading
    refine ⟨x, rfl, x, u, rfl, hD, (by show 0 ≤ sizeLine; decide), fun F hF => ⟨_, _, rfl, ?_⟩⟩
    have s1 := new_same (o := .lst []) hF
    have gF : (upd H F (.lst [])) F = some (.lst []) := upd_same
    generalize upd H F (.lst []) = H1 at s1 gF ⊢
    have cOk : ∀ c : Nat, c ≤ 40 → FieldOk (.int (c : Nat)) := fun c hc => .inr ⟨c, rfl, by
      have e30 : (10 : Nat) ^ 30 = 1000000000000000000000000000000 := by decide +kernel
      rw [e30]
      omega⟩
    have hk3 : k = 0 ∨ k = 1 ∨ k = 2 := by omega
    rcases hk3 with rfl | rfl | rfl
    · refine ⟨.int (0 : Nat), rfl, rfl, _, rfl, ite2 (fun _ => ?_) (fun h => absurd (decide_eq_true rfl) h)⟩
      cases hA with
      | @text _ ws c h n =>
        refine ⟨_, rfl, .inl (.inl ⟨ws, c, rfl, h, n, fun dd H2 s2 g2 => ?_⟩)⟩
        refine ⟨true, T.xm_InvalidSyntax, fun _ a ha oe hz => ?_, fun q => nomatch q⟩
        obtain ⟨hz, hv⟩ := hz
        refine ⟨.ref a, rfl, .int (c : Nat), rfl, ⟨hv, .inr ⟨dd, hz.zc, g2⟩⟩, cOk c h.c40, fun l H3 s3 n3 g3 => ?_⟩
        have s13 := (s1.trans s2).trans s3
        refine ⟨_, rfl, _, u, rfl, hD.up s13, .str u, rfl, rfl, _, rfl, ite2 (fun _ => ?_) (fun h => absurd (decide_eq_true rfl) h)⟩
        exact ⟨.ref l, rfl, q l H3 s13 (none_back (s1.trans s2) n3) g3⟩
      | @none _ _ t h n =>
        refine ⟨_, rfl, .inl (.inr ⟨_, t, rfl, tyX_same h s1, n, fun dd H2 s2 g2 => ?_⟩)⟩
        refine ⟨true, T.xm_InvalidSyntax, fun _ a ha oe hz => ?_, fun q => nomatch q⟩
        obtain ⟨hz, hv⟩ := hz
        refine ⟨.ref a, rfl, .non, rfl, ⟨hv, .inr ⟨dd, hz.zc, g2⟩⟩, .inl rfl, fun l H3 s3 n3 g3 => ?_⟩
        have s13 := (s1.trans s2).trans s3
        refine ⟨_, rfl, _, u, rfl, hD.up s13, .str u, rfl, rfl, _, rfl, ite2 (fun _ => ?_) (fun h => absurd (decide_eq_true rfl) h)⟩
        exact ⟨.ref l, rfl, q l H3 s13 (none_back (s1.trans s2) n3) g3⟩
      | @disc ns h =>
        refine ⟨_, rfl, .inr ⟨ns, rfl, h, fun l H2 s2 n2 g2 => ?_⟩⟩
        refine ⟨_, rfl, _, u, rfl, hD.up (s1.trans s2), .str u, rfl, rfl, _, rfl, ite2 (fun _ => ?_) (fun h => absurd (decide_eq_true rfl) h)⟩
        exact ⟨.ref F, rfl, q F H2 (s1.trans s2) hF (s2 _ _ gF)⟩
    · refine ⟨.int (1 : Nat), rfl, rfl, _, rfl, ite2 (fun h => absurd (of_decide_eq_true h) (by decide)) (fun _ => ?_)⟩
      refine ⟨.int (1 : Nat), rfl, rfl, _, rfl, ite2 (fun _ => ?_) (fun h => absurd (decide_eq_true rfl) h)⟩
      cases hA with
      | @text _ ws c h n =>
        refine ⟨_, rfl, .inl (.inl ⟨ws, c, rfl, h, n, fun dd H2 s2 g2 => ?_⟩)⟩
        refine ⟨true, T.xm_InvalidSyntax, fun _ a ha oe hz => ?_, fun q => nomatch q⟩
        obtain ⟨hz, hv⟩ := hz
        refine ⟨.ref a, rfl, .int (c : Nat), rfl, ⟨hv, .inr ⟨dd, hz.zc, g2⟩⟩, cOk c h.c40, fun l H3 s3 n3 g3 => ?_⟩
        have s13 := (s1.trans s2).trans s3
        refine ⟨_, rfl, _, u, rfl, hD.up s13, .str u, rfl, rfl, _, rfl, ite2 (fun _ => ?_) (fun h => absurd (decide_eq_true rfl) h)⟩
        exact ⟨.ref l, rfl, q l H3 s13 (none_back (s1.trans s2) n3) g3⟩
      | @none _ _ t h n =>
        refine ⟨_, rfl, .inl (.inr ⟨_, t, rfl, tyX_same h s1, n, fun dd H2 s2 g2 => ?_⟩)⟩
        refine ⟨true, T.xm_InvalidSyntax, fun _ a ha oe hz => ?_, fun q => nomatch q⟩
        obtain ⟨hz, hv⟩ := hz
        refine ⟨.ref a, rfl, .non, rfl, ⟨hv, .inr ⟨dd, hz.zc, g2⟩⟩, .inl rfl, fun l H3 s3 n3 g3 => ?_⟩
        have s13 := (s1.trans s2).trans s3
        refine ⟨_, rfl, _, u, rfl, hD.up s13, .str u, rfl, rfl, _, rfl, ite2 (fun _ => ?_) (fun h => absurd (decide_eq_true rfl) h)⟩
        exact ⟨.ref l, rfl, q l H3 s13 (none_back (s1.trans s2) n3) g3⟩
      | @row ns h h1' h2' =>
        refine ⟨_, rfl, .inr ⟨ns, rfl, h, h1', h2', fun l H2 s2 n2 g2 => ?_⟩⟩
        refine ⟨_, rfl, _, u, rfl, hD.up (s1.trans s2), .str u, rfl, rfl, _, rfl, ite2 (fun _ => ?_) (fun h => absurd (decide_eq_true rfl) h)⟩
        exact ⟨.ref F, rfl, q F H2 (s1.trans s2) hF (s2 _ _ gF)⟩
    · refine ⟨.int (2 : Nat), rfl, rfl, _, rfl, ite2 (fun h => absurd (of_decide_eq_true h) (by decide)) (fun _ => ?_)⟩
      refine ⟨.int (2 : Nat), rfl, rfl, _, rfl, ite2 (fun h => absurd (of_decide_eq_true h) (by decide)) (fun _ => ?_)⟩
      cases hA with
      | @text _ ws c h n =>
        refine ⟨_, rfl, .inl (.inl ⟨ws, c, rfl, h, n, fun dd H2 s2 g2 => ?_⟩)⟩
        refine ⟨true, T.xm_InvalidSyntax, fun _ a ha oe hz => ?_, fun q => nomatch q⟩
        obtain ⟨hz, hv⟩ := hz
        refine ⟨.ref a, rfl, .int (c : Nat), rfl, ⟨hv, .inr ⟨dd, hz.zc, g2⟩⟩, cOk c h.c40, fun l H3 s3 n3 g3 => ?_⟩
        have s13 := (s1.trans s2).trans s3
        refine ⟨_, rfl, _, u, rfl, hD.up s13, .str u, rfl, rfl, _, rfl, ite2 (fun _ => ?_) (fun h => absurd (decide_eq_true rfl) h)⟩
        exact ⟨.ref l, rfl, q l H3 s13 (none_back (s1.trans s2) n3) g3⟩
      | @none _ _ t h n =>
        refine ⟨_, rfl, .inl (.inr ⟨_, t, rfl, tyX_same h s1, n, fun dd H2 s2 g2 => ?_⟩)⟩
        refine ⟨true, T.xm_InvalidSyntax, fun _ a ha oe hz => ?_, fun q => nomatch q⟩
        obtain ⟨hz, hv⟩ := hz
        refine ⟨.ref a, rfl, .non, rfl, ⟨hv, .inr ⟨dd, hz.zc, g2⟩⟩, .inl rfl, fun l H3 s3 n3 g3 => ?_⟩
        have s13 := (s1.trans s2).trans s3
        refine ⟨_, rfl, _, u, rfl, hD.up s13, .str u, rfl, rfl, _, rfl, ite2 (fun _ => ?_) (fun h => absurd (decide_eq_true rfl) h)⟩
        exact ⟨.ref l, rfl, q l H3 s13 (none_back (s1.trans s2) n3) g3⟩
      | looks =>
        refine ⟨_, rfl, .inr ⟨[], cNo, fun p hp => (List.not_mem_nil hp).elim, by decide, fun l us H2 s2 n2 g2 r2 => ?_⟩⟩
        refine ⟨_, rfl, _, u, rfl, hD.up (s1.trans s2), .str u, rfl, rfl, _, rfl, ite2 (fun _ => ?_) (fun h => absurd (decide_eq_true rfl) h)⟩
        exact ⟨.ref F, rfl, q F H2 (s1.trans s2) hF (s2 _ _ gF)⟩

/-! ### the law's words and texts -/
theorem tl_foldl (A : Array Nat) : ∀ (n : Nat) (B : Array Nat), ((List.replicate n A).foldl (· ++ ·) B).toList = B.toList ++ (List.replicate n A.toList).flatten
  | 0, B => by simp
  | n + 1, B => by
    rw [List.replicate_succ, List.foldl_cons, tl_foldl A n (B ++ A), List.replicate_succ, List.flatten_cons, Array.toList_append, List.append_assoc]
theorem tl_mul (u : Str) (n : Nat) (h1 : 1 < n) (h2 : u.length ≠ 0) : TL.tl (Txt.mul u (n : Int)) = (List.replicate n (TL.tl u)).flatten := by
  unfold Txt.mul
  rw [if_neg (by omega), if_neg (by
    rw [Bool.or_eq_true, beq_iff_eq, beq_iff_eq]
    intro z
    rcases z with z | z
    · omega
    · exact h2 z)]
  show ((List.replicate (n : Int).toNat u.cps).foldl (· ++ ·) #[]).toList = _
  rw [Int.toNat_natCast, tl_foldl]
  rfl
theorem joinL_rep (w : List Nat) : ∀ n : Nat, TL.joinL [32] (List.replicate (n + 1) w) = (List.replicate n (w ++ [32])).flatten ++ w
  | 0 => rfl
  | n + 1 => by
    show w ++ ([32] ++ TL.joinL [32] (List.replicate (n + 1) w)) = _
    rw [joinL_rep w n, List.replicate_succ, List.flatten_cons, List.append_assoc, List.append_assoc]
/-- w and a space n times, then w: n + 1 words -/
theorem rep_words (u v : Str) (w : List Nat) (n : Nat) (h1 : 1 < n) (hu : TL.tl u = w ++ [32]) (hv : TL.tl v = w) : Txt.mul u (n : Int) ++ v = wordsS (List.replicate (n + 1) w) := by
  refine TL.ext_tl ?_
  rw [TL.tl_append, tl_words, joinL_rep, tl_mul u n h1 (by rw [TL.len_tl, hu, List.length_append]; show w.length + 1 ≠ 0; omega), hu, hv]
theorem one_word (u : Str) (c : Nat) (n : Nat) (h1 : 1 < n) (hu : TL.tl u = [c]) : Txt.mul u (n : Int) = wordsS [List.replicate n c] := by
  refine TL.ext_tl ?_
  rw [tl_words, tl_mul u n h1 (by rw [TL.len_tl, hu]; exact Nat.one_ne_zero), hu]
  show _ = List.replicate n c
  rw [List.flatten_replicate_singleton]
def badC : List (List Nat) := [[], [120], [43, 49], [45, 48], [48, 49], [49, 61, 48, 49], [61, 49], [10], [49, 61, 45, 49]]
def badT : List Str := ["", "x", "+1", "-0", "01", "1=01", "=1", "\n", "1=-1"]
theorem badT_eq : badT = badC.map mkS := by
  unfold badT badC
  simp only [List.map]
  rw [show ("" : Str) = mkS [] from TL.ext_tl (by rw [tl_ofString]; rfl), show ("x" : Str) = mkS [120] from TL.ext_tl (by rw [tl_ofString]; rfl), show ("+1" : Str) = mkS [43, 49] from TL.ext_tl (by rw [tl_ofString]; rfl), show ("-0" : Str) = mkS [45, 48] from TL.ext_tl (by rw [tl_ofString]; rfl),
    show ("01" : Str) = mkS [48, 49] from TL.ext_tl (by rw [tl_ofString]; rfl), show ("1=01" : Str) = mkS [49, 61, 48, 49] from TL.ext_tl (by rw [tl_ofString]; rfl), show ("=1" : Str) = mkS [61, 49] from TL.ext_tl (by rw [tl_ofString]; rfl), show ("\n" : Str) = mkS [10] from TL.ext_tl (by rw [tl_ofString]; rfl), show ("1=-1" : Str) = mkS [49, 61, 45, 49] from TL.ext_tl (by rw [tl_ofString]; rfl)]
theorem nb_of {x : List Nat} (h1 : (mkS x).length ≤ 20000) (h2 : (digS (mkS x)).length ≤ 20000) (h3 : numBad (mkS x) = true) : NB (mkS x) := ⟨h1, h2, h3⟩
theorem badC_nb : ∀ x ∈ badC, NB (mkS x) := by
  intro x hx
  unfold badC at hx
  simp only [List.mem_cons, List.not_mem_nil, or_false] at hx
  rcases hx with rfl | rfl | rfl | rfl | rfl | rfl | rfl | rfl | rfl <;> exact nb_of (by decide +kernel) (by decide +kernel) (by decide +kernel)
theorem badC_lb : ∀ x ∈ badC, LB (mkS x) := by
  intro x hx
  unfold badC at hx
  simp only [List.mem_cons, List.not_mem_nil, or_false] at hx
  have nb : ∀ {u : Str} (y : List Nat), u = mkS y → numBad (mkS y) = true → (mkS y).length ≤ 20000 → (digS (mkS y)).length ≤ 20000 → NB u := fun y e a b c => by rw [e]; exact ⟨b, c, a⟩
  have dec : ∀ {x : List Nat} (b e : List Nat), Txt.partition (mkS x) (mkS [61]) = (mkS b, (Txt.partition (mkS x) (mkS [61])).2.1, mkS e) → (mkS x).length ≤ 20000 → NB (mkS b) → (CB (mkS e) ∨ CG (mkS e)) → LB (mkS x) := fun b e he hl h1 h2 => by
    refine ⟨hl, .inl ⟨?_, ?_⟩⟩
    · rw [he]
      exact h1
    · rw [he]
      exact h2
  rcases hx with rfl | rfl | rfl | rfl | rfl | rfl | rfl | rfl | rfl
  · exact dec [] [] (by decide +kernel) (by decide +kernel) (nb_of (by decide +kernel) (by decide +kernel) (by decide +kernel)) (.inl (.inl (nb_of (by decide +kernel) (by decide +kernel) (by decide +kernel))))
  · exact dec [120] [] (by decide +kernel) (by decide +kernel) (nb_of (by decide +kernel) (by decide +kernel) (by decide +kernel)) (.inl (.inl (nb_of (by decide +kernel) (by decide +kernel) (by decide +kernel))))
  · exact dec [43, 49] [] (by decide +kernel) (by decide +kernel) (nb_of (by decide +kernel) (by decide +kernel) (by decide +kernel)) (.inl (.inl (nb_of (by decide +kernel) (by decide +kernel) (by decide +kernel))))
  · exact dec [45, 48] [] (by decide +kernel) (by decide +kernel) (nb_of (by decide +kernel) (by decide +kernel) (by decide +kernel)) (.inl (.inl (nb_of (by decide +kernel) (by decide +kernel) (by decide +kernel))))
  · exact dec [48, 49] [] (by decide +kernel) (by decide +kernel) (nb_of (by decide +kernel) (by decide +kernel) (by decide +kernel)) (.inl (.inl (nb_of (by decide +kernel) (by decide +kernel) (by decide +kernel))))
  · refine ⟨by decide +kernel, .inr ⟨⟨1, by decide +kernel, by decide⟩, .inl ?_⟩⟩
    rw [show (Txt.partition (mkS [49, 61, 48, 49]) (mkS [61])).2.2 = mkS [48, 49] from by decide +kernel]
    exact nb_of (by decide +kernel) (by decide +kernel) (by decide +kernel)
  · exact dec [] [49] (by decide +kernel) (by decide +kernel) (nb_of (by decide +kernel) (by decide +kernel) (by decide +kernel)) (.inr ⟨1, by decide +kernel, by decide, by decide⟩)
  · exact dec [10] [] (by decide +kernel) (by decide +kernel) (nb_of (by decide +kernel) (by decide +kernel) (by decide +kernel)) (.inl (.inl (nb_of (by decide +kernel) (by decide +kernel) (by decide +kernel))))
  · refine ⟨by decide +kernel, .inr ⟨⟨1, by decide +kernel, by decide⟩, .inr ⟨-1, by decide +kernel, by decide, by decide⟩⟩⟩
theorem badC_ok {k : Nat} : ∀ x ∈ badC, badW k x ∧ 32 ∉ x ∧ x.length ≤ 10 ∧ ∀ c ∈ x, c < 128 := fun x hx => by
  refine ⟨?_, ?_, ?_, ?_⟩
  · match k with
    | 0 => exact .inl (badC_nb x hx)
    | 1 => exact badC_nb x hx
    | _ + 2 => exact badC_lb x hx
  all_goals
    revert x
    decide
/-- good words, one that is refused behind them -/
theorem refused_last {k : Nat} {vs : List (List Nat)} {b : List Nat} (hv : ∀ x ∈ vs, okW k x ∧ 32 ∉ x ∧ x.length ≤ 10) (hn : vs.length ≤ 39) (hb : badW k b ∧ 32 ∉ b ∧ b.length ≤ 10) : Refused k (vs ++ [b]) vs.length where
  lt := by rw [List.length_append]; exact Nat.lt_succ_self _
  free := fun x hx => by
    rcases List.mem_append.mp hx with h | h
    · exact (hv x h).2.1
    · rw [List.mem_singleton.mp h]
      exact hb.2.1
  wl := by
    have := words_len (k := 10) (ws := vs ++ [b]) fun x hx => by
      rcases List.mem_append.mp hx with h | h
      · exact (hv x h).2.2
      · rw [List.mem_singleton.mp h]
        exact hb.2.2
    rw [List.length_append] at this
    have e : [b].length = 1 := rfl
    omega
  wn := by
    rw [List.length_append]
    show vs.length + 1 ≤ 20000
    omega
  c40 := by omega
  good := fun i x hi hx => by
    rw [List.getElem?_append_left hi] at hx
    exact (hv x (List.mem_of_getElem? hx)).1
  bad := fun x hx => by
    rw [List.getElem?_concat_length] at hx
    cases hx
    exact .inl hb.1
/-- as many good words as one likes: the one at 40 is refused -/
theorem refused_many {k n : Nat} {w : List Nat} (hw : okW k w ∧ 32 ∉ w) (hn : 40 < n) (hn2 : n ≤ 20000) (wl : (wordsS (List.replicate n w)).length ≤ 20000) : Refused k (List.replicate n w) 40 where
  lt := by rw [List.length_replicate]; exact hn
  free := fun x hx => by rw [(List.mem_replicate.mp hx).2]; exact hw.2
  wl := wl
  wn := by rw [List.length_replicate]; exact hn2
  c40 := Nat.le_refl _
  good := fun i x hi hx => by
    rw [(List.mem_replicate.mp (List.mem_of_getElem? hx)).2]
    exact hw.1
  bad := fun x hx => by
    rw [(List.mem_replicate.mp (List.mem_of_getElem? hx)).2]
    exact .inr ⟨rfl, hw.1⟩

def spLaw (K : PySem.W.Frag) : Sp := fun vs H Q _ => ∃ (a : Addr) (ns : List Int), vs = [.ref a] ∧ SqL K H a (ns.map V.int) ∧ ns.length ≤ 63 ∧ ∀ H', Q (.bl true) H'

/-! ### law -/
/-- what is told of an error at y -/
def synL (y : V) : List V := [.str (Str.ofString "syntax " ++ sX y)]
def synD (y : V) : PyData := .list [.str (Str.ofString "syntax " ++ sX y)]
theorem sX_low {y : V} (hy : FieldOk y) : ∀ c ∈ TL.tl (sX y), c < 128 := by
  rcases hy with rfl | ⟨i, rfl, _⟩
  · show ∀ c ∈ TL.tl (Str.ofString "None"), c < 128
    rw [tl_ofString]
    decide
  · show ∀ c ∈ TL.tl (Str.ofString (toString i)), c < 128
    rw [str_int]
    exact intL_low i
theorem dat_syn {y : V} (hy : FieldOk y) : Dat 1 (2000 * 1 + 3) (synD y) := by
  refine (dat_list (k := 0) (B := 1082) (n := 1) (fun d hd => ?_) (by decide) (Nat.le_refl _)).mono (Nat.le_refl _) (by decide)
  rw [List.mem_singleton.mp hd]
  refine dat_str (n := 108) (fun c hc => ?_) ?_
  · rw [TL.tl_append] at hc
    have low : ∀ c ∈ "syntax ".toList.map Char.toNat, c < 128 := by decide
    rcases List.mem_append.mp hc with h | h
    · rw [tl_ofString] at h
      exact low c h
    · exact sX_low hy c h
  · rw [Str.length_append]
    have e7 : (Str.ofString "syntax ").length = 7 := by decide +kernel
    have := sX_len hy
    omega
theorem dp_syn {H : Hp} {l : Addr} {y : V} (h : H l = some (.lst (synL y))) : Dp K H (.ref l) (synD y) := .lst (SqL.of h) (.cons (.str _) .nil)
theorem rep_str {H : Hp} {u : Str} (h : ∀ c ∈ TL.tl u, c < 128) (hl : u.length ≤ 20000) : Rep H (.str u) (PyData.str u).shown := by
  have z := dat_str (n := 20000) h hl
  exact .inl ⟨.str u, .str u, z.rp.sh, z.rp.dp, z.fits (by decide), rfl⟩
theorem tOk (c : Nat) (hc : c ≤ 40) : FieldOk (.int (c : Nat)) := .inr ⟨c, rfl, by
  have e30 : (10 : Nat) ^ 30 = 1000000000000000000000000000000 := by decide +kernel
  rw [e30]
  omega⟩
theorem tank_over50 {t D : Addr} {c : Int} {H : Hp} {o : HO} (k : Tank H t c) (n : D ≠ t) : Tank (upd H D o) t c := by
  obtain ⟨x, y, z, hT, r⟩ := k
  exact ⟨x, y, z, by rw [upd_ne n.symm]; exact hT, r⟩
theorem tank_same50 {t : Addr} {c : Int} {H H' : Hp} (k : Tank H t c) (s : Same H H') : Tank H' t c := by
  obtain ⟨x, y, z, hT, r⟩ := k
  exact ⟨x, y, z, s _ _ hT, r⟩
theorem but_over50 {t D : Addr} {H H1 : Hp} {o : HO} (u : But t H H1) (n : H D = none) : But t H (upd H1 D o) := fun b x e ne => by
  rw [upd_ne (ne_of_none e n)]
  exact u b x e ne
theorem word_of {k : Nat} (hk : k < 3) {r : Int} (h0 : 0 ≤ r) (h1 : r < 99) : ∃ (sfx : Str) (x : List Nat), ([.str "", .str "", .str "=7"] : List V)[k]? = some (.str sfx) ∧ Str.ofString (toString r) ++ sfx = mkS x ∧ okW k x ∧ 32 ∉ x ∧ x.length ≤ 10 ∧ (∀ z ∈ x, z < 128) ∧ sfx.length ≤ 2 := by
  have l2 := intL_len (n := r) (k := 2) (by decide) (by show r.natAbs < 100; omega)
  have e40 : (10 : Nat) ^ 40 = 10000000000000000000000000000000000000000 := by decide +kernel
  have plain : Str.ofString (toString r) ++ Str.ofString "" = mkS (intL r) := by
    rw [str_int, cNone]
    show mkS (intL r) ++ mkS [] = _
    rw [mk_app, List.append_nil]
  match k, hk with
  | 0, _ => exact ⟨"", intL r, rfl, plain, ⟨r, rfl, h0, by omega⟩, fun e => intL_free (.inl (by decide)) (by decide) e, by omega, intL_low r, by decide +kernel⟩
  | 1, _ => exact ⟨"", intL r, rfl, plain, ⟨r, rfl, by rw [e40]; omega⟩, fun e => intL_free (.inl (by decide)) (by decide) e, by omega, intL_low r, by decide +kernel⟩
  | 2, _ =>
    have e7 : Str.ofString "=7" = mkS [61, 55] := TL.ext_tl (by rw [tl_ofString]; rfl)
    refine ⟨"=7", lookL (r, 7), rfl, ?_, ⟨(r, 7), rfl, by show r.natAbs < 10 ^ 40; rw [e40]; omega, (by decide : (0 : Int) ≤ 7), (by decide +kernel : (7 : Int).natAbs < 10 ^ 40)⟩, look_free _, ?_, lookL_low _, by decide +kernel⟩
    · show Str.ofString (toString r) ++ Str.ofString "=7" = _
      rw [str_int, e7]
      show mkS (intL r) ++ mkS [61, 55] = mkS (intL r ++ (61 :: intL 7))
      rw [mk_app, show intL 7 = [55] from by decide +kernel]
    · have := look_len (p := (r, 7)) (k := 2) (by decide) (by show r.natAbs < 100; omega) (by decide : (7 : Int).natAbs < 100)
      omega
theorem synN : Str.ofString "syntax None" = Str.ofString "syntax " ++ sX .non := TL.ext_tl (by decide +kernel)
/-- lists of one line each, none of them at D -/
def Ls (D : Addr) (H : Hp) (us : List V) (ys : List V) : Prop := us.length = ys.length ∧ ∀ (i : Nat) (v y : V), us[i]? = some v → ys[i]? = some y → ∃ l, v = .ref l ∧ l ≠ D ∧ H l = some (.lst (synL y))
theorem Ls.up {D : Addr} {H H' : Hp} {us ys : List V} (h : Ls D H us ys) (s : Same H H') : Ls D H' us ys := ⟨h.1, fun i v y hv hy => by
  obtain ⟨l, e, n, g⟩ := h.2 i v y hv hy
  exact ⟨l, e, n, s _ _ g⟩⟩
theorem Ls.put {D : Addr} {H : Hp} {us ys : List V} {o : HO} (h : Ls D H us ys) : Ls D (upd H D o) us ys := ⟨h.1, fun i v y hv hy => by
  obtain ⟨l, e, n, g⟩ := h.2 i v y hv hy
  exact ⟨l, e, n, by rw [upd_ne n]; exact g⟩⟩
theorem Ls.snoc {D l : Addr} {H : Hp} {us ys : List V} {y : V} (h : Ls D H us ys) (n : l ≠ D) (g : H l = some (.lst (synL y))) : Ls D H (us ++ [.ref l]) (ys ++ [y]) := by
  refine ⟨by rw [List.length_append, List.length_append, h.1]; rfl, fun i v z hv hz => ?_⟩
  rcases Nat.lt_or_ge i us.length with k | k
  · rw [List.getElem?_append_left k] at hv
    rw [List.getElem?_append_left (by rw [← h.1]; exact k)] at hz
    exact h.2 i v z hv hz
  · have e : i = us.length := by
      have := (List.getElem?_eq_some_iff.mp hv).1
      rw [List.length_append] at this
      have : i < us.length + 1 := this
      omega
    subst e
    rw [List.getElem?_concat_length] at hv
    rw [h.1, List.getElem?_concat_length] at hz
    cases hv
    cases hz
    exact ⟨l, rfl, n, g⟩
theorem dps_ls {H : Hp} {D : Addr} : ∀ {us ys : List V}, Ls D H us ys → DpAll K H us (ys.map synD)
  | [], [], _ => .nil
  | [], _ :: _, h => absurd h.1 (by simp)
  | _ :: _, [], h => absurd h.1 (by simp)
  | v :: us, y :: ys, h => by
    obtain ⟨l, rfl, n, g⟩ := h.2 0 v y rfl rfl
    exact .cons (dp_syn g) (dps_ls ⟨by simpa using h.1, fun i v' y' hv hy => h.2 (i + 1) v' y' hv hy⟩)
theorem dat_syns {ys : List V} {n : Nat} (h : ∀ y ∈ ys, FieldOk y) (hn : ys.length ≤ n) : Dat 2 (2005 * n + 3) (.list (ys.map synD)) := dat_list (k := 1) (B := 2003) (fun d hd => by
  obtain ⟨y, hy, rfl⟩ := List.mem_map.mp hd
  exact dat_syn (h y hy)) (by decide) (by rw [List.length_map]; exact hn)
theorem dat_none : Dat 0 1001 .none := ⟨⟨rfl, rfl, rfl, by decide⟩, by decide, by decide +kernel⟩
theorem dat_bool (b : Bool) : Dat 0 1001 (.bool b) := by
  cases b
  · exact ⟨⟨rfl, rfl, rfl, by decide⟩, by decide, by decide +kernel⟩
  · exact ⟨⟨rfl, rfl, rfl, by decide⟩, by decide, by decide +kernel⟩
theorem ok_law (T : Txt K mg) : FnG P w K mg base CX0 10 T.a_law T.d_law ["script"] (spLaw K) := by
  have G_law_tank := ok_law_tank (P := P) (w := w) (base := base) T
  have G_law_tap := ok_law_tap (P := P) (w := w) (base := base) T
  have G_law_raised := ok_law_raised (P := P) (w := w) (base := base) T
  refine okG T.F_law sc_law (fun vs H Q E h => ?_) (fun cdv A outer s H vs Q E hg hr h => ?_)
  · obtain ⟨_, _, rfl, _⟩ := h
    rfl
  · obtain ⟨a, ns, rfl, hS, hlen, q⟩ := h
    refine ⟨_, (pss_cons (ps_set (i := 1) sc_law.nd rfl (.inl rfl) (pe_lst (pa_cons pe_non (pa_cons pe_int (pa_cons pe_int (pa_cons pe_bl (pa_cons pe_bl (pa_cons (pe_lst pa_nil) (pa_cons (pe_lst (pa_cons pe_str pa_nil)) (pa_cons (pe_tup (pa_cons pe_str pa_nil)) (pa_cons (pe_tup pa_nil) (pa_cons pe_dnewK (pa_cons (pe_disp (pps_cons pe_str pe_int pps_nil) rfl rfl (by decide) (by decide)) (pa_cons (pe_lst (pa_cons pe_int (pa_cons pe_int pa_nil))) (pa_cons (pe_lst (pa_cons (pe_tup (pa_cons pe_int (pa_cons pe_int pa_nil))) pa_nil)) pa_nil)))))))))))))))
      (pss_cons (ps_for PassesOwn.never rfl (pi_listL (K := K) rfl (pv 1)) (pg_name (i := 2) sc_law.nd rfl (.inr rfl)) (pss_one (ps_if (pt_cmpR (neD (K := K) rfl hr) (pe_lc (own := [("kind", 3)]) (g := gName 3) (tt := tYes) (by rfl) sc_law.nd (pi_range1 (by rfl) T.n_range (pa_cons pe_int pa_nil)) (blkOk_by (own := [("kind", 3)]) (N := ["script", "things", "thing", "kind", "at", "tank", "turn", "count", "bad", "words", "spot", "told"]) (sc := defScope s_law) (by decide +kernel))
        (fun _ _ _ _ _ => (pg_name (i := 3) sc_law.nd rfl (Or.inl rfl))) (fun _ _ _ _ _ => pts_nil) (fun _ _ _ _ _ => (pe_callG G_law_raised hg hr (by rfl) T.g_law_raised T.F_law_raised.kp T.b_law_raised .nil pass0 (pa_cons (pv 3) (pa_cons (pv 2) pa_nil))))) (pe_op op_rep (pe_lst (pa_cons (pe_lst (pa_cons pe_str pa_nil)) pa_nil)) pe_int) (nomark _)) (pss_one (ps_ret pe_bl)) pss_nil)))
      (pss_cons (ps_for PassesOwn.never rfl (pi_range1 (by rfl) T.n_range (pa_cons (pe_callB (call_max2 rfl) (by rfl) T.n_max (by decide +kernel) (pa_cons pe_int (pa_cons (pe_callB (call_min2 rfl) (by rfl) T.n_min (by decide +kernel) (pa_cons pe_int (pa_cons (pe_callB (lenL (K := K) rfl) (by rfl) T.n_len (by decide +kernel) (pa_cons (pv 0) pa_nil)) pa_nil))) pa_nil))) pa_nil)) (pg_name (i := 4) sc_law.nd rfl (.inl rfl)) (pss_cons (ps_set (i := 5) sc_law.nd rfl (.inr rfl) (pe_call G_law_tank (hr.mono (by decide)) (by rfl) T.g_law_tank T.F_law_tank.kp T.b_law_tank .nil pass0 (pa_cons (pv 0) (pa_cons (pv 4) pa_nil))))
      (pss_one (ps_for PassesOwn.never rfl (pi_range1 (by rfl) T.n_range (pa_cons pe_int pa_nil)) (pg_name (i := 6) sc_law.nd rfl (.inl rfl)) (pss_cons (ps_set (i := 7) sc_law.nd rfl (.inl rfl) (pe_op op_add pe_int (pe_call G_law_tap (hr.mono (by decide)) (by rfl) T.g_law_tap T.F_law_tap.kp T.b_law_tap .nil pass0 (pa_cons (pv 5) (pa_cons pe_int pa_nil)))))
      (pss_one (ps_for PassesOwn.never rfl (pi_range1 (by rfl) T.n_range (pa_cons pe_int pa_nil)) (pg_name (i := 3) sc_law.nd rfl (.inr rfl)) (pss_cons (ps_set (i := 8) sc_law.nd rfl (.inl rfl) (pe_ix (ixL (K := K) rfl) (pe_lst (pa_cons pe_str (pa_cons pe_str (pa_cons pe_str (pa_cons pe_str (pa_cons pe_str (pa_cons pe_str (pa_cons pe_str (pa_cons pe_str (pa_cons pe_str pa_nil)))))))))) (pe_call G_law_tap (hr.mono (by decide)) (by rfl) T.g_law_tap T.F_law_tap.kp T.b_law_tap .nil pass0 (pa_cons (pv 5) (pa_cons pe_int pa_nil))) (fun _ _ => rfl)))
      (pss_cons (ps_set (i := 9) sc_law.nd rfl (.inl rfl) (pe_op op_cat (pe_lc (own := [("spot", 10)]) (g := gName 10) (tt := tYes) (by rfl) sc_law.nd (pi_range1 (by rfl) T.n_range (pa_cons (pv 7) pa_nil)) (blkOk_by (own := [("spot", 10)]) (N := ["script", "things", "thing", "kind", "at", "tank", "turn", "count", "bad", "words", "spot", "told"]) (sc := defScope s_law) (by decide +kernel))
        (fun _ _ _ _ _ => (pg_name (i := 10) sc_law.nd rfl (Or.inl rfl))) (fun _ _ _ _ _ => pts_nil) (fun _ _ _ _ _ => (pe_op op_add_str (pe_callTy call_str_int (by rfl) T.n_str (by decide +kernel) (pa_cons (pe_call G_law_tap (hr.mono (by decide)) (by rfl) T.g_law_tap T.F_law_tap.kp T.b_law_tap .nil pass0 (pa_cons (pv 5) (pa_cons pe_int pa_nil))) pa_nil)) (pe_ix (ixL (K := K) rfl) (pe_lst (pa_cons pe_str (pa_cons pe_str (pa_cons pe_str pa_nil)))) (pv 3) (fun _ _ => rfl))))) (pe_lst (pa_cons (pv 8) pa_nil))))
      (pss_one (ps_if (pt_cmpR (neD (K := K) rfl hr) (pe_callG G_law_raised hg hr (by rfl) T.g_law_raised T.F_law_raised.kp T.b_law_raised .nil pass0 (pa_cons (pv 3) (pa_cons (pe_join pe_str (pv 9)) pa_nil))) (pe_lst (pa_cons (pe_op op_add_str pe_str (pe_callTy call_str_int (by rfl) T.n_str (by decide +kernel) (pa_cons (pv 7) pa_nil))) pa_nil)) (nomark _)) (pss_one (ps_ret pe_bl)) pss_nil)))))))))))
      (pss_cons (ps_set (i := 11) sc_law.nd rfl (.inl rfl) (pe_lst (pa_cons (pe_callG G_law_raised hg hr (by rfl) T.g_law_raised T.F_law_raised.kp T.b_law_raised .nil pass0 (pa_cons pe_int (pa_cons (pe_op op_add_str (pe_op op_mulS pe_str pe_int) pe_str) pa_nil))) (pa_cons (pe_callG G_law_raised hg hr (by rfl) T.g_law_raised T.F_law_raised.kp T.b_law_raised .nil pass0 (pa_cons pe_int (pa_cons (pe_op op_mulS pe_str pe_int) pa_nil))) (pa_cons (pe_callG G_law_raised hg hr (by rfl) T.g_law_raised T.F_law_raised.kp T.b_law_raised .nil pass0 (pa_cons pe_int (pa_cons (pe_op op_add_str (pe_op op_mulS pe_str pe_int) pe_str) pa_nil))) pa_nil)))))
      (pss_cons (ps_if (pt_cmpR (neD (K := K) rfl hr) (pv 11) (pe_lst (pa_cons (pe_lst (pa_cons pe_str pa_nil)) (pa_cons (pe_lst (pa_cons pe_str pa_nil)) (pa_cons (pe_lst (pa_cons pe_str pa_nil)) pa_nil)))) (nomark _)) (pss_one (ps_ret pe_bl)) pss_nil)
      (pss_cons (ps_set (i := 11) sc_law.nd rfl (.inl rfl) (pe_lst (pa_cons (pe_callG G_law_raised hg hr (by rfl) T.g_law_raised T.F_law_raised.kp T.b_law_raised .nil pass0 (pa_cons pe_int (pa_cons pe_str pa_nil))) (pa_cons (pe_callG G_law_raised hg hr (by rfl) T.g_law_raised T.F_law_raised.kp T.b_law_raised .nil pass0 (pa_cons pe_int (pa_cons pe_str pa_nil))) (pa_cons (pe_callG G_law_raised hg hr (by rfl) T.g_law_raised T.F_law_raised.kp T.b_law_raised .nil pass0 (pa_cons pe_int (pa_cons pe_str pa_nil))) (pa_cons (pe_callG G_law_raised hg hr (by rfl) T.g_law_raised T.F_law_raised.kp T.b_law_raised .nil pass0 (pa_cons pe_int (pa_cons pe_str pa_nil))) (pa_cons (pe_callG G_law_raised hg hr (by rfl) T.g_law_raised T.F_law_raised.kp T.b_law_raised .nil pass0 (pa_cons pe_int (pa_cons pe_str pa_nil))) pa_nil)))))))
      (pss_one (ps_ret (pe_cmpR (eqD (K := K) rfl hr) (pe_op op_cat (pv 11) (pe_lst (pa_cons (pe_callG G_law_raised hg hr (by rfl) T.g_law_raised T.F_law_raised.kp T.b_law_raised .nil pass0 (pa_cons pe_int (pa_cons pe_str pa_nil))) (pa_cons (pe_callG G_law_raised hg hr (by rfl) T.g_law_raised T.F_law_raised.kp T.b_law_raised .nil pass0 (pa_cons pe_int (pa_cons pe_str pa_nil))) pa_nil)))) (pe_op op_cat (pe_lst (pa_cons (pe_lst pa_nil) (pa_cons (pe_lst pa_nil) (pa_cons (pe_lst pa_nil) pa_nil)))) (pe_op op_rep (pe_lst (pa_cons (pe_lst (pa_cons pe_str pa_nil)) pa_nil)) pe_int)) (nomark _)))))))))), ?_⟩
    have s0 : Same H H := fun _ _ e => e
    refine ⟨(by show 0 ≤ sizeLine; decide), fun b5 hb5 => ?_⟩
    have n := new_same (o := .lst []) hb5
    have gb5 : (upd H b5 (.lst [])) b5 = some (.lst []) := upd_same
    generalize upd H b5 (.lst []) = H1 at n gb5 ⊢
    have s1 := s0.trans n
    refine ⟨(by show 1 ≤ sizeLine; decide), fun b6 hb6 => ?_⟩
    have n := new_same (o := .lst [.str "0"]) hb6
    have gb6 : (upd H1 b6 (.lst [.str "0"])) b6 = some (.lst [.str "0"]) := upd_same
    generalize upd H1 b6 (.lst [.str "0"]) = H2 at n gb6 ⊢
    have s2 := s1.trans n
    have gb5 := n _ _ gb5
    refine ⟨(by show 1 ≤ sizeLine; decide), fun b7 hb7 => ?_⟩
    have n := new_same (o := .tup [.str "0"]) hb7
    have gb7 : (upd H2 b7 (.tup [.str "0"])) b7 = some (.tup [.str "0"]) := upd_same
    generalize upd H2 b7 (.tup [.str "0"]) = H3 at n gb7 ⊢
    have s3 := s2.trans n
    have gb5 := n _ _ gb5
    have gb6 := n _ _ gb6
    refine ⟨(by show 0 ≤ sizeLine; decide), fun b8 hb8 => ?_⟩
    have n := new_same (o := .tup []) hb8
    have gb8 : (upd H3 b8 (.tup [])) b8 = some (.tup []) := upd_same
    generalize upd H3 b8 (.tup []) = H4 at n gb8 ⊢
    have s4 := s3.trans n
    have gb5 := n _ _ gb5
    have gb6 := n _ _ gb6
    have gb7 := n _ _ gb7
    refine fun b9 hb9 => ?_
    have n := new_same (o := .dK []) hb9
    have gb9 : (upd H4 b9 (.dK [])) b9 = some (.dK []) := upd_same
    generalize upd H4 b9 (.dK []) = H5 at n gb9 ⊢
    have s5 := s4.trans n
    have gb5 := n _ _ gb5
    have gb6 := n _ _ gb6
    have gb7 := n _ _ gb7
    have gb8 := n _ _ gb8
    refine fun c1 hc1 => ⟨upd_same, [(.inr "0", .int 0)], rfl, by decide, ?_⟩
    have n : Same H5 (upd (upd H5 c1 (.dK [])) c1 (.dK (mergeK [] [(.inr "0", .int 0)]))) := same_over (new_same hc1) hc1
    have gc1 : (upd (upd H5 c1 (.dK [])) c1 (.dK (mergeK [] [(.inr "0", .int 0)]))) c1 = some (.dK (mergeK [] [(.inr "0", .int 0)])) := upd_same
    generalize upd (upd H5 c1 (.dK [])) c1 (.dK (mergeK [] [(.inr "0", .int 0)])) = H6 at n gc1 ⊢
    have s6 := s5.trans n
    have gb5 := n _ _ gb5
    have gb6 := n _ _ gb6
    have gb7 := n _ _ gb7
    have gb8 := n _ _ gb8
    have gb9 := n _ _ gb9
    have gc1 : H6 c1 = some (.dK [(.inr "0", .int 0)]) := gc1
    refine ⟨(by show 2 ≤ sizeLine; decide), fun c2 hc2 => ?_⟩
    have n := new_same (o := .lst [.int 0, .int 1]) hc2
    have gc2 : (upd H6 c2 (.lst [.int 0, .int 1])) c2 = some (.lst [.int 0, .int 1]) := upd_same
    generalize upd H6 c2 (.lst [.int 0, .int 1]) = H7 at n gc2 ⊢
    have s7 := s6.trans n
    have gb5 := n _ _ gb5
    have gb6 := n _ _ gb6
    have gb7 := n _ _ gb7
    have gb8 := n _ _ gb8
    have gb9 := n _ _ gb9
    have gc1 := n _ _ gc1
    refine ⟨(by show 2 ≤ sizeLine; decide), fun c3 hc3 => ?_⟩
    have n := new_same (o := .tup [.int 0, .int 1]) hc3
    have gc3 : (upd H7 c3 (.tup [.int 0, .int 1])) c3 = some (.tup [.int 0, .int 1]) := upd_same
    generalize upd H7 c3 (.tup [.int 0, .int 1]) = H8 at n gc3 ⊢
    have s8 := s7.trans n
    have gb5 := n _ _ gb5
    have gb6 := n _ _ gb6
    have gb7 := n _ _ gb7
    have gb8 := n _ _ gb8
    have gb9 := n _ _ gb9
    have gc1 := n _ _ gc1
    have gc2 := n _ _ gc2
    refine ⟨(by show 1 ≤ sizeLine; decide), fun c4 hc4 => ?_⟩
    have n := new_same (o := .lst [.ref c3]) hc4
    have gc4 : (upd H8 c4 (.lst [.ref c3])) c4 = some (.lst [.ref c3]) := upd_same
    generalize upd H8 c4 (.lst [.ref c3]) = H9 at n gc4 ⊢
    have s9 := s8.trans n
    have gb5 := n _ _ gb5
    have gb6 := n _ _ gb6
    have gb7 := n _ _ gb7
    have gb8 := n _ _ gb8
    have gb9 := n _ _ gb9
    have gc1 := n _ _ gc1
    have gc2 := n _ _ gc2
    have gc3 := n _ _ gc3
    refine ⟨(by show 13 ≤ sizeLine; decide), fun L hL => ?_⟩
    have n := new_same (o := .lst [.non, .int 0, .int 5, .bl true, .bl false, .ref b5, .ref b6, .ref b7, .ref b8, .ref b9, .ref c1, .ref c2, .ref c4]) hL
    have gL : (upd H9 L (.lst [.non, .int 0, .int 5, .bl true, .bl false, .ref b5, .ref b6, .ref b7, .ref b8, .ref b9, .ref c1, .ref c2, .ref c4])) L = some (.lst [.non, .int 0, .int 5, .bl true, .bl false, .ref b5, .ref b6, .ref b7, .ref b8, .ref b9, .ref c1, .ref c2, .ref c4]) := upd_same
    generalize upd H9 L (.lst [.non, .int 0, .int 5, .bl true, .bl false, .ref b5, .ref b6, .ref b7, .ref b8, .ref b9, .ref c1, .ref c2, .ref c4]) = H10 at n gL ⊢
    have s10 := s9.trans n
    have gb5 := n _ _ gb5
    have gb6 := n _ _ gb6
    have gb7 := n _ _ gb7
    have gb8 := n _ _ gb8
    have gb9 := n _ _ gb9
    have gc1 := n _ _ gc1
    have gc2 := n _ _ gc2
    have gc3 := n _ _ gc3
    have gc4 := n _ _ gc4
    have d0 : Dat 0 12 (.str "0") := dat_str (n := 1) (by rw [tl_ofString]; decide) (by decide +kernel)
    have each : ∀ (i : Nat) (v : V), ([.non, .int 0, .int 5, .bl true, .bl false, .ref b5, .ref b6, .ref b7, .ref b8, .ref b9, .ref c1, .ref c2, .ref c4] : List V)[i]? = some v → (∃ u, Rep H10 v u) ∧ ∃ t, TyX K H10 v t ∧ PySem.W.kitOne K t (.type "str") = some false := fun i v h => by
      have dt : ∀ {v : V} {d : PyData} {j B : Nat}, Dq H10 v d → Dat j B d → B ≤ 16000000 → ∃ u, Rep H10 v u := fun hd hD hB => ⟨_, .inl ⟨_, hd, hD.rp.sh, hD.rp.dp, hD.fits hB, rfl⟩⟩
      match i, h with
      | 0, h => cases h; exact ⟨dt .non dat_none (by decide), _, .base .non, kit_ty (by decide +kernel)⟩
      | 1, h => cases h; exact ⟨dt (.int 0) (dat_int (k := 1) (by decide) (by decide)) (by decide), _, .base (.int 0), kit_ty (by decide +kernel)⟩
      | 2, h => cases h; exact ⟨dt (.int 5) (dat_int (k := 1) (by decide) (by decide)) (by decide), _, .base (.int 5), kit_ty (by decide +kernel)⟩
      | 3, h => cases h; exact ⟨dt (.bl true) (dat_bool true) (by decide), _, .base (.bl true), kit_ty (by decide +kernel)⟩
      | 4, h => cases h; exact ⟨dt (.bl false) (dat_bool false) (by decide), _, .base (.bl false), kit_ty (by decide +kernel)⟩
      | 5, h => cases h; exact ⟨dt (.lst gb5 .nil) (dat_list (k := 0) (B := 0) (n := 0) (ds := []) (fun d hd => (List.not_mem_nil hd).elim) (by decide) (Nat.le_refl _)) (by decide), _, .base (.lst gb5), kit_ty (by decide +kernel)⟩
      | 6, h => cases h; exact ⟨dt (.lst gb6 (.cons (.str _) .nil)) (dat_list (k := 0) (B := 12) (n := 1) (ds := [.str "0"]) (fun d hd => by rw [List.mem_singleton.mp hd]; exact d0) (by decide) (Nat.le_refl _)) (by decide), _, .base (.lst gb6), kit_ty (by decide +kernel)⟩
      | 7, h => cases h; exact ⟨dt (.tup gb7 (.cons (.str _) .nil)) (dat_tup (k := 0) (B := 12) (n := 1) (ds := [.str "0"]) (fun d hd => by rw [List.mem_singleton.mp hd]; exact d0) (by decide) (Nat.le_refl _)) (by decide), _, .base (.tup gb7), kit_ty (by decide +kernel)⟩
      | 8, h => cases h; exact ⟨dt (.tup gb8 .nil) (dat_tup (k := 0) (B := 0) (n := 0) (ds := []) (fun d hd => (List.not_mem_nil hd).elim) (by decide) (Nat.le_refl _)) (by decide), _, .base (.tup gb8), kit_ty (by decide +kernel)⟩
      | 9, h => cases h; exact ⟨⟨_, .inl ⟨.dict [], .emp gb9, by decide, by decide, by decide +kernel, rfl⟩⟩, _, .base (.dK gb9), kit_ty (by decide +kernel)⟩
      | 10, h => cases h; exact ⟨⟨_, .inr ⟨c1, "0", 0, rfl, gc1, by decide, by decide, by decide +kernel, rfl⟩⟩, _, .base (.dK gc1), kit_ty (by decide +kernel)⟩
      | 11, h => cases h; exact ⟨dt (.lst gc2 (.cons (.int 0) (.cons (.int 1) .nil))) (dat_ints (ns := [0, 1]) (k := 1) (n := 2) (by decide) (by decide) (by decide)) (by decide), _, .base (.lst gc2), kit_ty (by decide +kernel)⟩
      | 12, h => cases h; exact ⟨dt (.lst gc4 (.cons (.tup gc3 (.cons (.int 0) (.cons (.int 1) .nil))) .nil)) (dat_pairs (ps := [(0, 1)]) (k := 1) (n := 1) (by decide) (by decide) (by decide)) (by decide), _, .base (.lst gc4), kit_ty (by decide +kernel)⟩
    clear gb5 gb6 gb7 gb8 gb9 gc1 gc2 gc3 gc4
    refine ⟨.ref L, rfl, L, rfl, ⟨_, SqL.of gL⟩, for_list (K := K) (a := L) (xs := [.non, .int 0, .int 5, .bl true, .bl false, .ref b5, .ref b6, .ref b7, .ref b8, .ref b9, .ref c1, .ref c2, .ref c4]) (fun i σ H' => ∃ y2 : Option V, σ = [some (.ref a), some (.ref L), y2, none, none, none, none, none, none, none, none, none] ∧ Same H10 H')
      ⟨none, rfl, fun _ _ e => e⟩ (fun i σ H' _ ⟨_, _, sP⟩ => SqL.of (sP _ _ gL)) (fun i v σ HA hv hP => ?_) (fun σ HA hP => ?_)⟩
    · obtain ⟨y2, rfl, sP⟩ := hP
      obtain ⟨⟨u, hu⟩, t, ht, hk⟩ := each i v hv
      refine ⟨3, rfl, by decide, by decide, fun D hD => ?_⟩
      refine lc_range (lo := 0) (n := (3 : Int).toNat) (fun k H' => Same HA H' ∧ ∃ us, H' D = some (.lst us) ∧ Ls D H' us (List.replicate k .non))
        ⟨new_same hD, [], upd_same, rfl, fun i v y hv _ => nomatch hv⟩ (fun k HB hk3 hQ => ⟨rfl, ?_⟩) (fun HB hQ => ?_)
      · obtain ⟨sB, us, gD, hL⟩ := hQ
        have hk3' : k < 3 := hk3
        refine ⟨.int (0 + k), rfl, v, rfl, k, v, u, synL .non, by rw [Int.zero_add]; rfl, by omega, .none (tyX_same ht (sP.trans sB)) hk, hu.up (sP.trans sB), fun l HC sC nC gC => ?_⟩
        have gD2 := sC _ _ gD
        have nl : l ≠ D := fun z => by
          rw [z, gD] at nC
          cases nC
        have hul := hL.1
        rw [List.length_replicate] at hul
        refine ⟨_, gD2, by rw [hul]; exact sz40 (by omega), same_over (sB.trans sC) hD, us ++ [.ref l], upd_same, ?_⟩
        rw [List.replicate_succ']
        exact ((hL.up sC).put).snoc nl (by rw [upd_ne nl]; exact gC)
      obtain ⟨sB, us, gD, hL⟩ := hQ
      have hL : Ls D HB us [.non, .non, .non] := hL
      refine ⟨(by show 1 ≤ sizeLine; decide), fun m1 hm1 => ⟨(by show 1 ≤ sizeLine; decide), fun m2 hm2 => ⟨m2, 3, [.ref m1], rfl, rfl, upd_same, by decide, by decide, (by show 1 * 3 ≤ sizeLine; decide), fun m3 hm3 => ?_⟩⟩⟩
      have x3 := new_same (o := .lst (List.replicate (3 : Int).toNat [.ref m1]).flatten) hm3
      have x2 := (new_same (o := .lst [.ref m1]) hm2).trans x3
      have x1 := (new_same (o := .lst [.str "syntax None"]) hm1).trans x2
      have g1 := x2 _ _ (upd_same (H := HB) (a := m1) (o := .lst [.str "syntax None"]))
      rw [show (.lst [.str "syntax None"] : HO) = .lst (synL .non) from congrArg (fun z => HO.lst [V.str z]) synN] at g1
      have hDt := dat_syns (ys := [.non, .non, .non]) (n := 3) (fun y hy => by
        simp only [List.mem_cons, List.not_mem_nil, or_false, or_self] at hy
        exact .inl hy) (Nat.le_refl _)
      refine ⟨_, _, .lst (SqL.of (x1 _ _ gD)) (dps_ls (hL.up x1)), .lst (ds := [.non, .non, .non].map synD) (SqL.of upd_same) ?_, hDt.rp.shaped, hDt.rp.shaped, _, rfl, ite2 (fun h => absurd h (by rw [hDt.rp.refl]; decide)) (fun _ => ?_)⟩
      · exact .cons (dp_syn g1) (.cons (dp_syn g1) (.cons (dp_syn g1) .nil))
      · exact ⟨_, rfl, (sP.trans sB).trans x1⟩
    obtain ⟨y2, rfl, sP⟩ := hP
    have sA := s10.trans sP
    clear each gL sP
    -- the drawn texts
    refine ⟨.ref a, rfl, a, _, rfl, .inl (sA.seq hS), 3, _, rfl, 1, _, rfl, _, rfl, ?_, ?_, for_range (lo := 0)
      (fun i σ H' => ∃ y2 y3 y4 y5 y6 y7 y8 y9 : Option V, σ = [some (.ref a), some (.ref L), y2, y3, y4, y5, y6, y7, y8, y9, none, none] ∧ Same HA H' ∧ i ≤ 3) ⟨_, _, _, _, _, _, _, _, rfl, fun _ _ e => e, by omega⟩ (fun i σ HB hi hP => ?_) (fun σ HB hP => ?_)⟩
    · split <;> split <;> omega
    · split <;> split <;> omega
    · obtain ⟨y2, y3, y4, y5, y6, y7, y8, y9, rfl, sB, _⟩ := hP
      have hi3 : i < 3 := by
        revert hi
        split <;> split <;> omega
      refine ⟨.ref a, rfl, .int (0 + i), rfl, a, ns, 0 + i, rfl, (sA.trans sB).seq hS, by omega, by omega, fun t HC sC ht kC => ?_⟩
      refine ⟨6, rfl, by decide, by decide, for_range (lo := 0) (n := (6 : Int).toNat) (fun j σ H' => ∃ z3 z6 z7 z8 z9 : Option V, σ = [some (.ref a), some (.ref L), y2, z3, some (.int (0 + i)), some (.ref t), z6, z7, z8, z9, none, none] ∧ But t HC H' ∧ Tank H' t (1000 * j))
        ⟨_, _, _, _, _, rfl, But.refl t HC, kC.mono (by omega)⟩ (fun j σ HD hj hP => ?_) (fun σ HD hP => ?_)⟩
      · obtain ⟨z3, z6, z7, z8, z9, rfl, uD, kD⟩ := hP
        have hj6 : j < 6 := hj
        refine ⟨.ref t, rfl, t, 39, 1000 * j, rfl, by decide, by decide, kD, by omega, fun r HE r0 r1 kE uE => ⟨1, r, rfl, rfl, ?_⟩⟩
        obtain ⟨c, hc⟩ : ∃ c : Nat, 1 + r = (c : Int) := ⟨(1 + r).toNat, by omega⟩
        show gName 7 (V.int (1 + r)) _ _ _
        rw [hc]
        have hc1 : 1 ≤ c ∧ c ≤ 39 := by omega
        refine ⟨3, rfl, by decide, by decide, for_range (lo := 0) (n := (3 : Int).toNat) (fun k σ H' => ∃ z3 z8 z9 : Option V, σ = [some (.ref a), some (.ref L), y2, z3, some (.int (0 + i)), some (.ref t), some (.int (0 + j)), some (.int c), z8, z9, none, none] ∧ But t HE H' ∧ Tank H' t (1000 * j + 1 + 100 * k))
          ⟨_, _, _, rfl, But.refl t HE, kE.mono (by omega)⟩ (fun k σ HF hk hP => ?_) (fun σ HF hP => ?_)⟩
        · obtain ⟨z3, z8, z9, rfl, uF, kF⟩ := hP
          have hk3 : k < 3 := hk
          -- the bad word
          refine ⟨(by show 9 ≤ sizeLine; decide), fun l hl => ?_⟩
          refine ⟨.ref t, rfl, t, 9, 1000 * j + 1 + 100 * k, rfl, by decide, by decide, kF.up hl, by omega, fun r2 HG a6 b6 kG uG => ?_⟩
          have gl : HG l = some (.lst (badT.map V.str)) := uG _ _ upd_same (kF.ne hl)
          obtain ⟨b, hb, hat⟩ : ∃ b, b ∈ badC ∧ atI (badT.map V.str) r2 = some (.str (mkS b)) := by
            obtain ⟨m, rfl⟩ : ∃ m : Nat, r2 = (m : Int) := ⟨r2.toNat, by omega⟩
            have hm : m < badC.length := by show m < 9; omega
            refine ⟨badC[m], List.getElem_mem hm, ?_⟩
            rw [badT_eq]
            exact atI_nat (by rw [List.getElem?_map, List.getElem?_map, List.getElem?_eq_getElem hm]; rfl)
          refine ⟨l, _, r2, .str (mkS b), rfl, rfl, SqL.of gl, hat, ?_⟩
          have uG2 := (uF.trans (But.of (new_same (o := .lst (badT.map V.str)) hl))).trans uG
          -- the words
          refine ⟨.int c, rfl, c, rfl, by omega, by omega, fun D hD => ?_⟩
          have nD : D ≠ t := kG.ne hD
          refine lc_range (lo := 0) (n := ((c : Nat) : Int).toNat) (fun m H' => But t HG H' ∧ Tank H' t (1000 * j + 1 + 100 * k + 1 + m) ∧ ∃ ws : List (List Nat), H' D = some (.lst ((ws.map mkS).map V.str)) ∧ ws.length = m ∧ ∀ x ∈ ws, okW k x ∧ 32 ∉ x ∧ x.length ≤ 10 ∧ ∀ z ∈ x, z < 128)
            ⟨But.of (new_same hD), (kG.up hD).mono (by omega), [], upd_same, rfl, fun x hx => (List.not_mem_nil hx).elim⟩ (fun m HH hm hQ => ⟨rfl, ?_⟩) (fun HH hQ => ?_)
          · obtain ⟨uH, kH, ws, gD, hwl, hws⟩ := hQ
            have hm39 : m < 39 := by
              have : m < c := by omega
              omega
            refine ⟨.ref t, rfl, t, 99, 1000 * j + 1 + 100 * k + 1 + m, rfl, by decide, by decide, kH, by omega, fun r3 HJ a7 b7 kJ uJ => ?_⟩
            refine ⟨r3, rfl, abs_log (k := 2) (by show r3.natAbs < 100; omega) (by decide), ?_⟩
            refine ⟨(by show 3 ≤ sizeLine; decide), fun l2 hl2 => ?_⟩
            obtain ⟨sfx, x, hsx, ex, hx1, hx2, hx3, hx4, hs2⟩ := word_of hk3 a7 b7
            have gD2 := new_same (o := .lst [.str "", .str "", .str "=7"]) hl2 _ _ (uJ _ _ gD nD)
            refine ⟨.int (0 + k), rfl, l2, _, 0 + k, .str sfx, rfl, rfl, SqL.of upd_same, by rw [Int.zero_add]; exact atI_nat hsx, _, _, rfl, rfl, ?_, ?_⟩
            · have : (Str.ofString (toString r3)).length ≤ 3 := by
                rw [str_int]
                show (mkS (intL r3)).length ≤ 3
                rw [mk_len]
                exact intL_len (k := 2) (by decide) (by show r3.natAbs < 100; omega)
              rw [sizeLine_eq]
              omega
            rw [ex]
            refine ⟨_, gD2, by rw [List.length_map, List.length_map, hwl]; exact sz40 (by omega), ?_, ?_, ws ++ [x], ?_, by rw [List.length_append]; show ws.length + 1 = m + 1; omega, fun y hy => ?_⟩
            · exact but_over50 ((uH.trans uJ).trans (But.of (new_same hl2))) hD
            · exact tank_over50 ((kJ.up hl2).mono (by omega)) nD
            · rw [upd_same, List.map_append, List.map_append]
              rfl
            · rcases List.mem_append.mp hy with h | h
              · exact hws y h
              · rw [List.mem_singleton.mp h]
                exact ⟨hx1, hx2, hx3, hx4⟩
          obtain ⟨uH, kH, ws, gD, hwl, hws⟩ := hQ
          rw [Int.toNat_natCast] at hwl kH
          refine ⟨.str (mkS b), rfl, (by show 1 ≤ sizeLine; decide), fun l3 hl3 => ?_⟩
          have gD3 := new_same (o := .lst [.str (mkS b)]) hl3 _ _ gD
          refine ⟨D, l3, _, _, rfl, rfl, gD3, upd_same, by rw [List.length_map, List.length_map, hwl]; exact spl_le (k := 100) (by show c + 1 ≤ 100; omega) (by decide), fun W hW => ?_⟩
          have gW : (upd (upd HH l3 (.lst [.str (mkS b)])) W (.lst ((ws.map mkS).map V.str ++ [.str (mkS b)]))) W = some (.lst (((ws ++ [b]).map mkS).map V.str)) := by
            rw [upd_same, List.map_append, List.map_append]
            rfl
          have uW := (But.of (T := t) (new_same (o := .lst [.str (mkS b)]) hl3)).trans (But.of (new_same (o := .lst ((ws.map mkS).map V.str ++ [.str (mkS b)])) hW))
          have kW := (kH.up (o := .lst [.str (mkS b)]) hl3).up (o := .lst ((ws.map mkS).map V.str ++ [.str (mkS b)])) hW
          generalize upd (upd HH l3 (.lst [.str (mkS b)])) W (.lst ((ws.map mkS).map V.str ++ [.str (mkS b)])) = HI at gW uW kW ⊢
          have hUsed : HI = HI := rfl
          have e0 : (Str.ofString "").length = 0 := by decide +kernel
          -- joined and asked
          have hall : ∀ x ∈ ws ++ [b], okW k x ∨ x = b := fun x hx => (List.mem_append.mp hx).elim (fun h => .inl (hws x h).1) fun h => .inr (List.mem_singleton.mp h)
          have hlow : ∀ x ∈ ws ++ [b], x.length ≤ 10 ∧ ∀ z ∈ x, z < 128 := fun x hx => (List.mem_append.mp hx).elim (fun h => (hws x h).2.2) fun h => by
            rw [List.mem_singleton.mp h]
            exact (badC_ok (k := k) b hb).2.2
          have hlen2 : (ws ++ [b]).length ≤ 40 := by rw [List.length_append, hwl]; show c + 1 ≤ 40; omega
          have fitsW := join_fits (k := 10) (ws := ws ++ [b]) (fun x hx => (hlow x hx).1) (by decide) (by omega)
          have RR := refused_last (k := k) (fun x hx => ⟨(hws x hx).1, (hws x hx).2.1, (hws x hx).2.2.1⟩) (by omega) ⟨(badC_ok (k := k) b hb).1, (badC_ok (k := k) b hb).2.1, (badC_ok (k := k) b hb).2.2.1⟩
          rw [hwl] at RR
          have wlow : ∀ z ∈ TL.tl (wordsS (ws ++ [b])), z < 128 := fun z hz => by
            rw [tl_words] at hz
            exact joinL_low (fun x hx => (hlow x hx).2) z hz
          have wne : wordsS (ws ++ [b]) ≠ Str.ofString "" := fun z => by
            have e := congrArg Str.length z
            rw [e0, TL.len_tl, tl_words] at e
            cases ws with
            | nil =>
              have : (0 : Nat) = c := hwl
              omega
            | cons y ys =>
              cases hz2 : ys ++ [b] with
              | nil => simp at hz2
              | cons p2 q2 =>
                rw [List.cons_append, hz2] at e
                have e2 : (y ++ ([32] ++ TL.joinL [32] (p2 :: q2))).length = 0 := e
                rw [List.length_append, List.length_append] at e2
                have : ([32] : List Nat).length = 1 := rfl
                omega
          refine ⟨.int (0 + k), rfl, ⟨⟨_, rfl⟩, .ref W, rfl, spS, W, (ws ++ [b]).map mkS, congrArg V.str cSp, rfl, .inl (SqL.of gW), fitsW, ?_⟩⟩
          refine ⟨k, .str (wordsS (ws ++ [b])), _, synL (.int c), by rw [Int.zero_add]; rfl, by omega, .text RR (fun _ => wne), rep_str wlow RR.wl, fun l4 HJ sJ nJ gJ => ?_⟩
          have hDt := dat_syn (tOk c (by omega))
          refine ⟨.int c, rfl, c, rfl, abs_log (k := 2) (by show (c : Int).natAbs < 100; omega) (by decide), _, _, rfl, rfl, ?_, (by show 1 ≤ sizeLine; decide), fun l5 hl5 => ?_⟩
          · have h1 := sX_len (tOk c (by omega))
            have h2 : (Str.ofString (toString (c : Int))).length ≤ 100 := h1
            have e7 : (Str.ofString "syntax ").length = 7 := by decide +kernel
            rw [e7, sizeLine_eq]
            omega
          have s5 := new_same (o := .lst (synL (.int c))) hl5
          refine ⟨_, _, dp_syn (s5 _ _ gJ), dp_syn (y := .int c) upd_same, hDt.rp.shaped, hDt.rp.shaped, _, rfl, ite2 (fun h => absurd h (by rw [hDt.rp.refl]; decide)) (fun _ => ?_)⟩
          exact ⟨_, _, _, rfl, ((uG2.trans uH).trans uW).trans (But.of (sJ.trans s5)), tank_same50 (kW.mono (by omega)) (sJ.trans s5)⟩
        · obtain ⟨z3, z8, z9, rfl, uF, kF⟩ := hP
          have kF := kF.mono (show 1000 * (j : Int) + 1 + 100 * (((3 : Int).toNat : Nat) : Int) ≤ 1000 * ((j + 1 : Nat) : Int) by show 1000 * (j : Int) + 1 + 100 * ((3 : Nat) : Int) ≤ _; omega)
          exact ⟨_, _, _, _, _, rfl, (uD.trans uE).trans uF, kF⟩
      · obtain ⟨z3, z6, z7, z8, z9, rfl, uD, kD⟩ := hP
        have sD : Same HB HD := fun b o e => uD _ _ (sC _ _ e) fun zz => by
          rw [zz, ht] at e
          cases e
        exact ⟨_, _, _, _, _, _, _, _, rfl, sB.trans sD, by omega⟩
    obtain ⟨y2, y3, y4, y5, y6, y7, y8, y9, rfl, sB, _⟩ := hP
    clear sB sA
    have e1 : (Str.ofString "1").length = 1 := by decide +kernel
    have e111 : (Str.ofString "1=1").length = 3 := by decide +kernel
    have e0 : (Str.ofString "").length = 0 := by decide +kernel
    have m1 : (Txt.mul (Str.ofString "1 ") 4999).length ≤ 10000 := by
      have := PyProof.Rows.len_mul (Str.ofString "1 ") 4999
      rw [show (Str.ofString "1 ").length = 2 from by decide +kernel, if_neg (by decide)] at this
      omega
    have m3 : (Txt.mul (Str.ofString "1=1 ") 2499).length ≤ 10000 := by
      have := PyProof.Rows.len_mul (Str.ofString "1=1 ") 2499
      rw [show (Str.ofString "1=1 ").length = 4 from by decide +kernel, if_neg (by decide)] at this
      omega
    have w1 : Txt.mul (Str.ofString "1 ") 4999 ++ Str.ofString "1" = wordsS (List.replicate 5000 [49]) := rep_words _ _ [49] 4999 (by decide) (by rw [tl_ofString]; rfl) (by rw [tl_ofString]; rfl)
    have w2 : Txt.mul (Str.ofString "9") 10000 = wordsS [List.replicate 10000 57] := one_word _ 57 10000 (by decide) (by rw [tl_ofString]; rfl)
    have w3 : Txt.mul (Str.ofString "1=1 ") 2499 ++ Str.ofString "1=1" = wordsS (List.replicate 2500 [49, 61, 49]) := rep_words _ _ [49, 61, 49] 2499 (by decide) (by rw [tl_ofString]; rfl) (by rw [tl_ofString]; rfl)
    have R1 : Refused 0 (List.replicate 5000 [49]) 40 := refused_many ⟨⟨1, by decide +kernel, by decide, by decide⟩, by decide⟩ (by decide) (by decide) (by
      have := words_len (k := 1) (ws := List.replicate 5000 [49]) fun x hx => by rw [(List.mem_replicate.mp hx).2]; decide
      rw [List.length_replicate] at this
      omega)
    have R3 : Refused 2 (List.replicate 2500 [49, 61, 49]) 40 := refused_many ⟨⟨(1, 1), by decide +kernel, by decide, by decide, by decide⟩, by decide⟩ (by decide) (by decide) (by
      have := words_len (k := 3) (ws := List.replicate 2500 [49, 61, 49]) fun x hx => by rw [(List.mem_replicate.mp hx).2]; decide
      rw [List.length_replicate] at this
      omega)
    have e9 : wordsS [List.replicate 10000 57] = mkS (List.replicate 10000 57) := TL.ext_tl (by rw [tl_words]; rfl)
    have l9 : (mkS (List.replicate 10000 57)).length = 10000 := by rw [mk_len, List.length_replicate]
    have d9 : digS (mkS (List.replicate 10000 57)) = mkS (List.replicate 10000 57) := by
      unfold digS
      rw [starts_one, if_neg (by rw [decide_eq_true_eq, List.replicate_succ]; decide)]
    have R2 : Refused 1 [List.replicate 10000 57] 0 := ⟨by decide, fun x hx => by
        rw [List.mem_singleton.mp hx]
        exact fun h => absurd (List.mem_replicate.mp h).2 (by decide), by rw [e9, l9]; decide, by decide, by decide, fun i x hi _ => absurd hi (Nat.not_lt_zero _), fun x hx => by
        cases hx
        refine .inl ⟨by rw [l9]; decide, by rw [d9, l9]; decide, ?_⟩
        unfold numBad
        rw [d9, l9]
        simp⟩
    have n3 : wordsS (List.replicate 2500 [49, 61, 49]) ≠ Str.ofString "" := fun z => by
      rw [← w3] at z
      have e := congrArg Str.length z
      rw [Str.length_append, e0, e111] at e
      omega
    have lowR : ∀ {n : Nat} {w : List Nat}, (∀ z ∈ w, z < 128) → ∀ z ∈ TL.tl (wordsS (List.replicate n w)), z < 128 := fun hw z hz => by
      rw [tl_words] at hz
      exact joinL_low (fun x hx => by rw [(List.mem_replicate.mp hx).2]; exact hw) z hz
    -- long texts
    refine ⟨_, 4999, rfl, rfl, (⟨by decide, fun _ _ => by decide +kernel, fun _ _ => by decide +kernel⟩ : MulOk (Str.ofString "1 ") 4999), _, _, rfl, rfl, by rw [e1, sizeLine_eq]; omega, ?_⟩
    rw [w1]
    refine ⟨0, .str (wordsS (List.replicate 5000 [49])), _, synL (.int (40 : Nat)), rfl, by decide, .text R1 (fun z => nomatch z), rep_str (lowR (by decide)) R1.wl, fun f1 K1 t1 _ g1 => ?_⟩
    refine ⟨_, 10000, rfl, rfl, (⟨by decide, fun _ _ => by decide +kernel, fun _ _ => by decide +kernel⟩ : MulOk (Str.ofString "9") 10000), ?_⟩
    rw [w2]
    refine ⟨1, .str (wordsS [List.replicate 10000 57]), _, synL (.int (0 : Nat)), rfl, by decide, .text R2 (fun z => nomatch z), rep_str (fun z hz => by
      rw [tl_words] at hz
      exact joinL_low (fun x hx => by rw [List.mem_singleton.mp hx]; exact fun c hc => by rw [(List.mem_replicate.mp hc).2]; decide) z hz) R2.wl, fun f2 K2 t2 _ g2 => ?_⟩
    refine ⟨_, 2499, rfl, rfl, (⟨by decide, fun _ _ => by decide +kernel, fun _ _ => by decide +kernel⟩ : MulOk (Str.ofString "1=1 ") 2499), _, _, rfl, rfl, by rw [e111, sizeLine_eq]; omega, ?_⟩
    rw [w3]
    refine ⟨2, .str (wordsS (List.replicate 2500 [49, 61, 49])), _, synL (.int (40 : Nat)), rfl, by decide, .text R3 (fun _ => n3), rep_str (lowR (by decide)) R3.wl, fun f3 K3 t3 _ g3 => ?_⟩
    have g2 := t3 _ _ g2
    have g1 := t3 _ _ (t2 _ _ g1)
    refine ⟨(by show 3 ≤ sizeLine; decide), fun F hF => ?_⟩
    have nF := new_same (o := .lst [.ref f1, .ref f2, .ref f3]) hF
    have gF : (upd K3 F (.lst [.ref f1, .ref f2, .ref f3])) F = some (.lst [.ref f1, .ref f2, .ref f3]) := upd_same
    have g1 := nF _ _ g1
    have g2 := nF _ _ g2
    have g3 := nF _ _ g3
    generalize upd K3 F (.lst [.ref f1, .ref f2, .ref f3]) = K4 at gF g1 g2 g3 ⊢
    clear nF t1 t2 t3
    have s40 : (.lst [.str "syntax 40"] : HO) = .lst (synL (.int (40 : Nat))) := congrArg (fun z => HO.lst [V.str z]) (TL.ext_tl (by decide +kernel))
    have s00 : (.lst [.str "syntax 0"] : HO) = .lst (synL (.int (0 : Nat))) := congrArg (fun z => HO.lst [V.str z]) (TL.ext_tl (by decide +kernel))
    refine ⟨.ref F, rfl, (by show 1 ≤ sizeLine; decide), fun p1 q1 => ⟨(by show 1 ≤ sizeLine; decide), fun p2 q2 => ⟨(by show 1 ≤ sizeLine; decide), fun p3 q3 => ⟨(by show 3 ≤ sizeLine; decide), fun p4 q4 => ?_⟩⟩⟩⟩
    have x4 := new_same (o := .lst [.ref p1, .ref p2, .ref p3]) q4
    have x3 := (new_same (o := .lst [.str "syntax 40"]) q3).trans x4
    have x2 := (new_same (o := .lst [.str "syntax 0"]) q2).trans x3
    have x1 := (new_same (o := .lst [.str "syntax 40"]) q1).trans x2
    have h1 := x2 _ _ (upd_same (H := K4) (a := p1) (o := .lst [.str "syntax 40"]))
    have h2 := x3 _ _ (upd_same (a := p2) (o := .lst [.str "syntax 0"]))
    have h3 := x4 _ _ (upd_same (a := p3) (o := .lst [.str "syntax 40"]))
    have h1 := h1.trans (congrArg some s40)
    have h3 := h3.trans (congrArg some s40)
    have h2 := h2.trans (congrArg some s00)
    have hDt := dat_syns (ys := [.int (40 : Nat), .int (0 : Nat), .int (40 : Nat)]) (n := 3) (fun y hy => by
      simp only [List.mem_cons, List.not_mem_nil, or_false] at hy
      rcases hy with rfl | rfl | rfl
      · exact tOk 40 (by decide)
      · exact tOk 0 (by decide)
      · exact tOk 40 (by decide)) (Nat.le_refl _)
    have G1 := x1 _ _ g1
    have G2 := x1 _ _ g2
    have G3 := x1 _ _ g3
    have GF := x1 _ _ gF
    have gP : (upd (upd (upd (upd K4 p1 (.lst [.str "syntax 40"])) p2 (.lst [.str "syntax 0"])) p3 (.lst [.str "syntax 40"])) p4 (.lst [.ref p1, .ref p2, .ref p3])) p4 = some (.lst [.ref p1, .ref p2, .ref p3]) := upd_same
    generalize upd (upd (upd (upd K4 p1 (.lst [.str "syntax 40"])) p2 (.lst [.str "syntax 0"])) p3 (.lst [.str "syntax 40"])) p4 (.lst [.ref p1, .ref p2, .ref p3]) = K5 at G1 G2 G3 GF gP h1 h2 h3 ⊢
    have dA : DpAll K K5 [.ref f1, .ref f2, .ref f3] ([.int (40 : Nat), .int (0 : Nat), .int (40 : Nat)].map synD) := .cons (dp_syn (y := .int (40 : Nat)) G1) (.cons (dp_syn (y := .int (0 : Nat)) G2) (.cons (dp_syn (y := .int (40 : Nat)) G3) .nil))
    have dB : DpAll K K5 [.ref p1, .ref p2, .ref p3] ([.int (40 : Nat), .int (0 : Nat), .int (40 : Nat)].map synD) := .cons (dp_syn (y := .int (40 : Nat)) h1) (.cons (dp_syn (y := .int (0 : Nat)) h2) (.cons (dp_syn (y := .int (40 : Nat)) h3) .nil))
    have hrf := hDt.rp.refl
    have hsh := hDt.rp.shaped
    have vA := Dp.lst (SqL.of GF) dA
    have vB := Dp.lst (SqL.of gP) dB
    clear G1 G2 G3 GF gP h1 h2 h3 dA dB
    generalize PyData.list ([V.int ((40 : Nat) : Int), .int ((0 : Nat) : Int), .int ((40 : Nat) : Int)].map synD) = dd at vA vB hrf hsh
    refine ⟨dd, dd, vA, vB, hsh, hsh, _, rfl, ite2 (fun h => absurd h (by rw [hrf]; decide)) (fun _ => ?_)⟩
    clear x1 x2 x3 x4 g1 g2 g3 gF vA vB
    -- short texts
    have wD : [V.int 0, V.str (Str.ofString "0")] = [V.int ((0 : Nat) : Int), V.str (wordsS (([0] : List Int).map intL))] := congrArg (fun z => [V.int 0, V.str z]) (TL.ext_tl (by decide +kernel))
    have wR : [V.int 1, V.str (Str.ofString "-1")] = [V.int ((1 : Nat) : Int), V.str (wordsS (([-1] : List Int).map intL))] := congrArg (fun z => [V.int 1, V.str z]) (TL.ext_tl (by decide +kernel))
    have w0 : ∀ k : Int, [V.int k, V.str (Str.ofString "")] = [V.int k, V.str (wordsS [[]])] := fun k => congrArg (fun z => [V.int k, V.str z]) (TL.ext_tl (by decide +kernel))
    have wM : [V.int 0, V.str (Str.ofString "-1")] = [V.int ((0 : Nat) : Int), V.str (wordsS [[45, 49]])] := congrArg (fun z => [V.int 0, V.str z]) (TL.ext_tl (by decide +kernel))
    have wS : [V.int 2, V.str (Str.ofString " ")] = [V.int ((2 : Nat) : Int), V.str (wordsS [[], []])] := congrArg (fun z => [V.int 2, V.str z]) (TL.ext_tl (by decide +kernel))
    have RE : ∀ k : Nat, Refused k [[]] 0 := fun k => refused_last (k := k) (vs := []) (b := []) (fun x hx => (List.not_mem_nil hx).elim) (by decide) ⟨(badC_ok (k := k) [] (by decide)).1, by decide, by decide⟩
    have RM : Refused 0 [[45, 49]] 0 := refused_last (k := 0) (vs := []) (b := [45, 49]) (fun x hx => (List.not_mem_nil hx).elim) (by decide) ⟨.inr ⟨-1, by decide +kernel, by decide, by decide⟩, by decide, by decide⟩
    have RS : Refused 2 [[], []] 0 := ⟨by decide, by decide, by decide +kernel, by decide, by decide, fun i x hi _ => absurd hi (Nat.not_lt_zero _), fun x hx => by
      cases hx
      exact .inl (badC_lb [] (by decide))⟩
    have low : ∀ {ws : List (List Nat)}, (∀ x ∈ ws, ∀ z ∈ x, z < 128) → ∀ z ∈ TL.tl (wordsS ws), z < 128 := fun h z hz => by
      rw [tl_words] at hz
      exact joinL_low h z hz
    have nS : wordsS [[], []] ≠ Str.ofString "" := fun z => by
      have e := congrArg Str.length z
      rw [e0, TL.len_tl, tl_words] at e
      cases e
    have rD : Rim [0] := ⟨by decide, by decide, by decide⟩
    refine ⟨0, .str (wordsS (([0] : List Int).map intL)), _, [], wD, by decide, .disc rD, rep_str (low (by decide +kernel)) (by decide +kernel), fun f1 K6 t1 _ g1 => ?_⟩
    refine ⟨1, .str (wordsS (([-1] : List Int).map intL)), _, [], wR, by decide, .row (by decide) (by decide) (by decide), rep_str (low (by decide +kernel)) (by decide +kernel), fun f2 K7 t2 _ g2 => ?_⟩
    refine ⟨2, .str (Str.ofString ""), _, [], rfl, by decide, .looks, rep_str (by rw [tl_ofString]; decide) (by decide +kernel), fun f3 K8 t3 _ g3 => ?_⟩
    refine ⟨0, .str (wordsS [[]]), _, synL (.int (0 : Nat)), w0 0, by decide, .text (RE 0) (fun z => nomatch z), rep_str (low (by decide)) (RE 0).wl, fun f4 K9 t4 _ g4 => ?_⟩
    refine ⟨1, .str (wordsS [[]]), _, synL (.int (0 : Nat)), w0 1, by decide, .text (RE 1) (fun z => nomatch z), rep_str (low (by decide)) (RE 1).wl, fun f5 KA t5 _ g5 => ?_⟩
    have g4 := t5 _ _ g4
    have t45 := t4.trans t5
    have g3 := t45 _ _ g3
    have g2 := t45 _ _ (t3 _ _ g2)
    have g1 := t45 _ _ (t3 _ _ (t2 _ _ g1))
    refine ⟨(by show 5 ≤ sizeLine; decide), fun F2 hF2 => ?_⟩
    have nF := new_same (o := .lst [.ref f1, .ref f2, .ref f3, .ref f4, .ref f5]) hF2
    have gF : (upd KA F2 (.lst [.ref f1, .ref f2, .ref f3, .ref f4, .ref f5])) F2 = some (.lst [.ref f1, .ref f2, .ref f3, .ref f4, .ref f5]) := upd_same
    have g1 := nF _ _ g1
    have g2 := nF _ _ g2
    have g3 := nF _ _ g3
    have g4 := nF _ _ g4
    have g5 := nF _ _ g5
    generalize upd KA F2 (.lst [.ref f1, .ref f2, .ref f3, .ref f4, .ref f5]) = KB at gF g1 g2 g3 g4 g5 ⊢
    refine ⟨.ref F2, rfl, 0, .str (wordsS [[45, 49]]), _, synL (.int (0 : Nat)), wM, by decide, .text RM (fun z => nomatch z), rep_str (low (by decide)) RM.wl, fun f6 KC t6 _ g6 => ?_⟩
    refine ⟨2, .str (wordsS [[], []]), _, synL (.int (0 : Nat)), wS, by decide, .text RS (fun _ => nS), rep_str (low (by decide)) RS.wl, fun f7 KD t7 _ g7 => ?_⟩
    have g6 := t7 _ _ g6
    have t67 := t6.trans t7
    refine ⟨(by show 2 ≤ sizeLine; decide), fun F3 hF3 => ?_⟩
    have nF3 := new_same (o := .lst [.ref f6, .ref f7]) hF3
    have t8 := t67.trans nF3
    refine ⟨F2, F3, _, _, rfl, rfl, t8 _ _ gF, upd_same, (by show 5 + 2 ≤ sizeLine; decide), fun F4 hF4 => ?_⟩
    have nF4 := new_same (o := .lst ([.ref f1, .ref f2, .ref f3, .ref f4, .ref f5] ++ [.ref f6, .ref f7])) hF4
    have gF4 : (upd (upd KD F3 (.lst [.ref f6, .ref f7])) F4 (.lst ([.ref f1, .ref f2, .ref f3, .ref f4, .ref f5] ++ [.ref f6, .ref f7]))) F4 = some (.lst [.ref f1, .ref f2, .ref f3, .ref f4, .ref f5, .ref f6, .ref f7]) := upd_same
    have t9 := t8.trans nF4
    have g6 := nF4 _ _ (nF3 _ _ g6)
    have g7 := nF4 _ _ (nF3 _ _ g7)
    have g1 := t9 _ _ g1
    have g2 := t9 _ _ g2
    have g3 := t9 _ _ g3
    have g4 := t9 _ _ g4
    have g5 := t9 _ _ g5
    generalize upd (upd KD F3 (.lst [.ref f6, .ref f7])) F4 (.lst ([.ref f1, .ref f2, .ref f3, .ref f4, .ref f5] ++ [.ref f6, .ref f7])) = KE at gF4 g1 g2 g3 g4 g5 g6 g7 ⊢
    clear t1 t2 t3 t4 t5 t45 t6 t7 t67 t8 t9 nF nF3 nF4 gF
    refine ⟨(by show 0 ≤ sizeLine; decide), fun r1 hr1 => ?_⟩
    have n := new_same (o := .lst []) hr1
    have gr1 : (upd KE r1 (.lst [])) r1 = some (.lst []) := upd_same
    generalize upd KE r1 (.lst []) = M1 at n gr1 ⊢
    have gF4 := n _ _ gF4
    have g1 := n _ _ g1
    have g2 := n _ _ g2
    have g3 := n _ _ g3
    have g4 := n _ _ g4
    have g5 := n _ _ g5
    have g6 := n _ _ g6
    have g7 := n _ _ g7
    refine ⟨(by show 0 ≤ sizeLine; decide), fun r2 hr2 => ?_⟩
    have n := new_same (o := .lst []) hr2
    have gr2 : (upd M1 r2 (.lst [])) r2 = some (.lst []) := upd_same
    generalize upd M1 r2 (.lst []) = M2 at n gr2 ⊢
    have gF4 := n _ _ gF4
    have g1 := n _ _ g1
    have g2 := n _ _ g2
    have g3 := n _ _ g3
    have g4 := n _ _ g4
    have g5 := n _ _ g5
    have g6 := n _ _ g6
    have g7 := n _ _ g7
    have gr1 := n _ _ gr1
    refine ⟨(by show 0 ≤ sizeLine; decide), fun r3 hr3 => ?_⟩
    have n := new_same (o := .lst []) hr3
    have gr3 : (upd M2 r3 (.lst [])) r3 = some (.lst []) := upd_same
    generalize upd M2 r3 (.lst []) = M3 at n gr3 ⊢
    have gF4 := n _ _ gF4
    have g1 := n _ _ g1
    have g2 := n _ _ g2
    have g3 := n _ _ g3
    have g4 := n _ _ g4
    have g5 := n _ _ g5
    have g6 := n _ _ g6
    have g7 := n _ _ g7
    have gr1 := n _ _ gr1
    have gr2 := n _ _ gr2
    refine ⟨(by show 3 ≤ sizeLine; decide), fun r4 hr4 => ?_⟩
    have n := new_same (o := .lst [.ref r1, .ref r2, .ref r3]) hr4
    have gr4 : (upd M3 r4 (.lst [.ref r1, .ref r2, .ref r3])) r4 = some (.lst [.ref r1, .ref r2, .ref r3]) := upd_same
    generalize upd M3 r4 (.lst [.ref r1, .ref r2, .ref r3]) = M4 at n gr4 ⊢
    have gF4 := n _ _ gF4
    have g1 := n _ _ g1
    have g2 := n _ _ g2
    have g3 := n _ _ g3
    have g4 := n _ _ g4
    have g5 := n _ _ g5
    have g6 := n _ _ g6
    have g7 := n _ _ g7
    have gr1 := n _ _ gr1
    have gr2 := n _ _ gr2
    have gr3 := n _ _ gr3
    refine ⟨(by show 1 ≤ sizeLine; decide), fun r5 hr5 => ?_⟩
    have n := new_same (o := .lst [.str "syntax 0"]) hr5
    have gr5 : (upd M4 r5 (.lst [.str "syntax 0"])) r5 = some (.lst [.str "syntax 0"]) := upd_same
    generalize upd M4 r5 (.lst [.str "syntax 0"]) = M5 at n gr5 ⊢
    have gF4 := n _ _ gF4
    have g1 := n _ _ g1
    have g2 := n _ _ g2
    have g3 := n _ _ g3
    have g4 := n _ _ g4
    have g5 := n _ _ g5
    have g6 := n _ _ g6
    have g7 := n _ _ g7
    have gr1 := n _ _ gr1
    have gr2 := n _ _ gr2
    have gr3 := n _ _ gr3
    have gr4 := n _ _ gr4
    refine ⟨(by show 1 ≤ sizeLine; decide), fun r6 hr6 => ?_⟩
    have n := new_same (o := .lst [.ref r5]) hr6
    have gr6 : (upd M5 r6 (.lst [.ref r5])) r6 = some (.lst [.ref r5]) := upd_same
    generalize upd M5 r6 (.lst [.ref r5]) = M6 at n gr6 ⊢
    have gF4 := n _ _ gF4
    have g1 := n _ _ g1
    have g2 := n _ _ g2
    have g3 := n _ _ g3
    have g4 := n _ _ g4
    have g5 := n _ _ g5
    have g6 := n _ _ g6
    have g7 := n _ _ g7
    have gr1 := n _ _ gr1
    have gr2 := n _ _ gr2
    have gr3 := n _ _ gr3
    have gr4 := n _ _ gr4
    have gr5 := n _ _ gr5
    refine ⟨r6, 4, [.ref r5], rfl, rfl, gr6, by decide, by decide, (by show 1 * 4 ≤ sizeLine; decide), fun r7 hr7 => ?_⟩
    have n := new_same (o := .lst (List.replicate (4 : Int).toNat [V.ref r5]).flatten) hr7
    have gr7 : (upd M6 r7 (.lst (List.replicate (4 : Int).toNat [V.ref r5]).flatten)) r7 = some (.lst (List.replicate (4 : Int).toNat [V.ref r5]).flatten) := upd_same
    generalize upd M6 r7 (.lst (List.replicate (4 : Int).toNat [V.ref r5]).flatten) = M7 at n gr7 ⊢
    have gF4 := n _ _ gF4
    have g1 := n _ _ g1
    have g2 := n _ _ g2
    have g3 := n _ _ g3
    have g4 := n _ _ g4
    have g5 := n _ _ g5
    have g6 := n _ _ g6
    have g7 := n _ _ g7
    have gr1 := n _ _ gr1
    have gr2 := n _ _ gr2
    have gr3 := n _ _ gr3
    have gr4 := n _ _ gr4
    have gr5 := n _ _ gr5
    have gr6 := n _ _ gr6
    refine ⟨r4, r7, _, _, rfl, rfl, gr4, gr7, (by show 3 + 4 ≤ sizeLine; decide), fun r8 hr8 => ?_⟩
    have n := new_same (o := .lst ([.ref r1, .ref r2, .ref r3] ++ (List.replicate (4 : Int).toNat [V.ref r5]).flatten)) hr8
    have gr8 : (upd M7 r8 (.lst ([.ref r1, .ref r2, .ref r3] ++ (List.replicate (4 : Int).toNat [V.ref r5]).flatten))) r8 = some (.lst ([.ref r1, .ref r2, .ref r3] ++ (List.replicate (4 : Int).toNat [V.ref r5]).flatten)) := upd_same
    generalize upd M7 r8 (.lst ([.ref r1, .ref r2, .ref r3] ++ (List.replicate (4 : Int).toNat [V.ref r5]).flatten)) = M8 at n gr8 ⊢
    have gF4 := n _ _ gF4
    have g1 := n _ _ g1
    have g2 := n _ _ g2
    have g3 := n _ _ g3
    have g4 := n _ _ g4
    have g5 := n _ _ g5
    have g6 := n _ _ g6
    have g7 := n _ _ g7
    have gr1 := n _ _ gr1
    have gr2 := n _ _ gr2
    have gr3 := n _ _ gr3
    have gr4 := n _ _ gr4
    have gr5 := n _ _ gr5
    have gr6 := n _ _ gr6
    have gr7 := n _ _ gr7
    have gr8 : M8 r8 = some (.lst [.ref r1, .ref r2, .ref r3, .ref r5, .ref r5, .ref r5, .ref r5]) := gr8
    have gr5 := gr5.trans (congrArg some s00)
    have emp : ∀ {l : Addr}, M8 l = some (.lst []) → Dp K M8 (.ref l) (.list []) := fun h => .lst (SqL.of h) .nil
    have dA : DpAll K M8 [.ref f1, .ref f2, .ref f3, .ref f4, .ref f5, .ref f6, .ref f7] [.list [], .list [], .list [], synD (.int (0 : Nat)), synD (.int (0 : Nat)), synD (.int (0 : Nat)), synD (.int (0 : Nat))] :=
      .cons (emp g1) (.cons (emp g2) (.cons (emp g3) (.cons (dp_syn (y := .int (0 : Nat)) g4) (.cons (dp_syn (y := .int (0 : Nat)) g5) (.cons (dp_syn (y := .int (0 : Nat)) g6) (.cons (dp_syn (y := .int (0 : Nat)) g7) .nil))))))
    have s5 := dp_syn (K := K) (y := .int (0 : Nat)) gr5
    have dB : DpAll K M8 [.ref r1, .ref r2, .ref r3, .ref r5, .ref r5, .ref r5, .ref r5] [.list [], .list [], .list [], synD (.int (0 : Nat)), synD (.int (0 : Nat)), synD (.int (0 : Nat)), synD (.int (0 : Nat))] :=
      .cons (emp gr1) (.cons (emp gr2) (.cons (emp gr3) (.cons s5 (.cons s5 (.cons s5 (.cons s5 .nil))))))
    have vA := Dp.lst (SqL.of gF4) dA
    have vB := Dp.lst (SqL.of gr8) dB
    have hD7 := dat_list (k := 1) (B := 2003) (n := 7) (ds := [.list [], .list [], .list [], synD (.int (0 : Nat)), synD (.int (0 : Nat)), synD (.int (0 : Nat)), synD (.int (0 : Nat))]) (fun d hd => by
      have de : Dat 1 2003 (.list []) := (dat_list (k := 0) (B := 0) (n := 0) (ds := []) (fun d hd => (List.not_mem_nil hd).elim) (by decide) (Nat.le_refl _)).mono (by decide) (by decide)
      have ds := dat_syn (tOk 0 (by decide))
      simp only [List.mem_cons, List.not_mem_nil, or_false] at hd
      rcases hd with rfl | rfl | rfl | rfl | rfl | rfl | rfl
      · exact de
      · exact de
      · exact de
      · exact ds
      · exact ds
      · exact ds
      · exact ds) (by decide) (by decide)
    have hrf := hD7.rp.refl
    have hsh := hD7.rp.shaped
    clear dA dB emp s5 g1 g2 g3 g4 g5 g6 g7 gr1 gr2 gr3 gr4 gr5 gr6 gr7 gr8 gF4 hD7
    generalize PyData.list [.list [], .list [], .list [], synD (.int (0 : Nat)), synD (.int (0 : Nat)), synD (.int (0 : Nat)), synD (.int (0 : Nat))] = dd at vA vB hrf hsh
    refine ⟨dd, dd, vA, vB, hsh, hsh, ?_⟩
    rw [hrf]
    exact q _

end
/-! ### what the top has written, and the end -/
theorem all_mk {l : PySem.W.OpenLaw} {w : World} {K : PySem.W.Frag} {h : Heap} {mg : Str → Option Value} {fa : Addr} (X : K.In h) (G : h.Ns mainGlobals mg) (hfa : mg "law" = some (.ref fa))
    {C_DiscError : Addr} (g_DiscError : PySem.W.nsIn K mainGlobals "DiscError" = some (some (.ref C_DiscError))) (kp_DiscError : PySem.W.keepIn K (.ref C_DiscError) = true)
    (hg_DiscError : PySem.W.findIn K (.ref C_DiscError) "__getattribute__" = some (some (.builtin "BaseException.__getattribute__"))) (hk_DiscError : PySem.W.findIn K (.ref C_DiscError) "__getattr__" = some none) (hs_DiscError : PySem.W.subIn K (.ref C_DiscError) (.type "BaseException") = some true) (hd_DiscError : PySem.W.hasDictIn K C_DiscError = true)
    (ha_DiscError : PySem.W.findIn K (.ref C_DiscError) "__class__" = some (some (.builtin "object.__class__"))) (hm_DiscError : PySem.W.mroIn K C_DiscError (.type "object") = some true)
    (x_DiscError : PySem.W.excIn K C_DiscError [.type "ValueError", .type "Exception", .type "BaseException", .type "object"] "ValueError.__new__" = true)
    {C_InvalidNumber : Addr} (g_InvalidNumber : PySem.W.nsIn K mainGlobals "InvalidNumber" = some (some (.ref C_InvalidNumber))) (kp_InvalidNumber : PySem.W.keepIn K (.ref C_InvalidNumber) = true)
    (hg_InvalidNumber : PySem.W.findIn K (.ref C_InvalidNumber) "__getattribute__" = some (some (.builtin "BaseException.__getattribute__"))) (hk_InvalidNumber : PySem.W.findIn K (.ref C_InvalidNumber) "__getattr__" = some none) (hs_InvalidNumber : PySem.W.subIn K (.ref C_InvalidNumber) (.type "BaseException") = some true) (hd_InvalidNumber : PySem.W.hasDictIn K C_InvalidNumber = true)
    (ha_InvalidNumber : PySem.W.findIn K (.ref C_InvalidNumber) "__class__" = some (some (.builtin "object.__class__"))) (hm_InvalidNumber : PySem.W.mroIn K C_InvalidNumber (.type "object") = some true)
    (x_InvalidNumber : PySem.W.excIn K C_InvalidNumber [.type "ValueError", .type "Exception", .type "BaseException", .type "object"] "ValueError.__new__" = true)
    {C_InvalidTurn : Addr} (g_InvalidTurn : PySem.W.nsIn K mainGlobals "InvalidTurn" = some (some (.ref C_InvalidTurn))) (kp_InvalidTurn : PySem.W.keepIn K (.ref C_InvalidTurn) = true)
    (hg_InvalidTurn : PySem.W.findIn K (.ref C_InvalidTurn) "__getattribute__" = some (some (.builtin "BaseException.__getattribute__"))) (hk_InvalidTurn : PySem.W.findIn K (.ref C_InvalidTurn) "__getattr__" = some none) (hs_InvalidTurn : PySem.W.subIn K (.ref C_InvalidTurn) (.type "BaseException") = some true) (hd_InvalidTurn : PySem.W.hasDictIn K C_InvalidTurn = true)
    (ha_InvalidTurn : PySem.W.findIn K (.ref C_InvalidTurn) "__class__" = some (some (.builtin "object.__class__"))) (hm_InvalidTurn : PySem.W.mroIn K C_InvalidTurn (.type "object") = some true)
    (x_InvalidTurn : PySem.W.excIn K C_InvalidTurn [.type "ValueError", .type "Exception", .type "BaseException", .type "object"] "ValueError.__new__" = true)
    {C_InvalidSlot : Addr} (g_InvalidSlot : PySem.W.nsIn K mainGlobals "InvalidSlot" = some (some (.ref C_InvalidSlot))) (kp_InvalidSlot : PySem.W.keepIn K (.ref C_InvalidSlot) = true)
    (hg_InvalidSlot : PySem.W.findIn K (.ref C_InvalidSlot) "__getattribute__" = some (some (.builtin "BaseException.__getattribute__"))) (hk_InvalidSlot : PySem.W.findIn K (.ref C_InvalidSlot) "__getattr__" = some none) (hs_InvalidSlot : PySem.W.subIn K (.ref C_InvalidSlot) (.type "BaseException") = some true) (hd_InvalidSlot : PySem.W.hasDictIn K C_InvalidSlot = true)
    (ha_InvalidSlot : PySem.W.findIn K (.ref C_InvalidSlot) "__class__" = some (some (.builtin "object.__class__"))) (hm_InvalidSlot : PySem.W.mroIn K C_InvalidSlot (.type "object") = some true)
    (x_InvalidSlot : PySem.W.excIn K C_InvalidSlot [.type "ValueError", .type "Exception", .type "BaseException", .type "object"] "ValueError.__new__" = true)
    {C_Impossible : Addr} (g_Impossible : PySem.W.nsIn K mainGlobals "Impossible" = some (some (.ref C_Impossible))) (kp_Impossible : PySem.W.keepIn K (.ref C_Impossible) = true)
    (hg_Impossible : PySem.W.findIn K (.ref C_Impossible) "__getattribute__" = some (some (.builtin "BaseException.__getattribute__"))) (hk_Impossible : PySem.W.findIn K (.ref C_Impossible) "__getattr__" = some none) (hs_Impossible : PySem.W.subIn K (.ref C_Impossible) (.type "BaseException") = some true) (hd_Impossible : PySem.W.hasDictIn K C_Impossible = true)
    (ha_Impossible : PySem.W.findIn K (.ref C_Impossible) "__class__" = some (some (.builtin "object.__class__"))) (hm_Impossible : PySem.W.mroIn K C_Impossible (.type "object") = some true)
    (x_Impossible : PySem.W.excIn K C_Impossible [.type "ValueError", .type "Exception", .type "BaseException", .type "object"] "ValueError.__new__" = true)
    {C_NothingToUndo : Addr} (g_NothingToUndo : PySem.W.nsIn K mainGlobals "NothingToUndo" = some (some (.ref C_NothingToUndo))) (kp_NothingToUndo : PySem.W.keepIn K (.ref C_NothingToUndo) = true)
    (hg_NothingToUndo : PySem.W.findIn K (.ref C_NothingToUndo) "__getattribute__" = some (some (.builtin "BaseException.__getattribute__"))) (hk_NothingToUndo : PySem.W.findIn K (.ref C_NothingToUndo) "__getattr__" = some none) (hs_NothingToUndo : PySem.W.subIn K (.ref C_NothingToUndo) (.type "BaseException") = some true) (hd_NothingToUndo : PySem.W.hasDictIn K C_NothingToUndo = true)
    (ha_NothingToUndo : PySem.W.findIn K (.ref C_NothingToUndo) "__class__" = some (some (.builtin "object.__class__"))) (hm_NothingToUndo : PySem.W.mroIn K C_NothingToUndo (.type "object") = some true)
    (x_NothingToUndo : PySem.W.excIn K C_NothingToUndo [.type "ValueError", .type "Exception", .type "BaseException", .type "object"] "ValueError.__new__" = true)
    {C_InvalidCommand : Addr} (g_InvalidCommand : PySem.W.nsIn K mainGlobals "InvalidCommand" = some (some (.ref C_InvalidCommand))) (kp_InvalidCommand : PySem.W.keepIn K (.ref C_InvalidCommand) = true)
    (hg_InvalidCommand : PySem.W.findIn K (.ref C_InvalidCommand) "__getattribute__" = some (some (.builtin "BaseException.__getattribute__"))) (hk_InvalidCommand : PySem.W.findIn K (.ref C_InvalidCommand) "__getattr__" = some none) (hs_InvalidCommand : PySem.W.subIn K (.ref C_InvalidCommand) (.type "BaseException") = some true) (hd_InvalidCommand : PySem.W.hasDictIn K C_InvalidCommand = true)
    (ha_InvalidCommand : PySem.W.findIn K (.ref C_InvalidCommand) "__class__" = some (some (.builtin "object.__class__"))) (hm_InvalidCommand : PySem.W.mroIn K C_InvalidCommand (.type "object") = some true)
    (x_InvalidCommand : PySem.W.excIn K C_InvalidCommand [.type "ValueError", .type "Exception", .type "BaseException", .type "object"] "ValueError.__new__" = true)
    {C_InvalidDisc : Addr} (g_InvalidDisc : PySem.W.nsIn K mainGlobals "InvalidDisc" = some (some (.ref C_InvalidDisc))) (kp_InvalidDisc : PySem.W.keepIn K (.ref C_InvalidDisc) = true)
    (hg_InvalidDisc : PySem.W.findIn K (.ref C_InvalidDisc) "__getattribute__" = some (some (.builtin "BaseException.__getattribute__"))) (hk_InvalidDisc : PySem.W.findIn K (.ref C_InvalidDisc) "__getattr__" = some none) (hs_InvalidDisc : PySem.W.subIn K (.ref C_InvalidDisc) (.type "BaseException") = some true) (hd_InvalidDisc : PySem.W.hasDictIn K C_InvalidDisc = true)
    (ha_InvalidDisc : PySem.W.findIn K (.ref C_InvalidDisc) "__class__" = some (some (.builtin "object.__class__"))) (hm_InvalidDisc : PySem.W.mroIn K C_InvalidDisc (.type "object") = some true)
    (ox_InvalidDisc : sdOex K C_InvalidDisc = true) (sa_InvalidDisc : PySem.W.findIn K (.ref C_InvalidDisc) "__setattr__" = some (some (.builtin "object.__setattr__"))) (ty_InvalidDisc : PySem.W.typeIn K (.ref C_InvalidDisc) = some (.type "type"))
    (nf_InvalidDisc_index : PySem.W.findIn K (.ref C_InvalidDisc) "index" = some none)
    {C_InvalidRow : Addr} (g_InvalidRow : PySem.W.nsIn K mainGlobals "InvalidRow" = some (some (.ref C_InvalidRow))) (kp_InvalidRow : PySem.W.keepIn K (.ref C_InvalidRow) = true)
    (hg_InvalidRow : PySem.W.findIn K (.ref C_InvalidRow) "__getattribute__" = some (some (.builtin "BaseException.__getattribute__"))) (hk_InvalidRow : PySem.W.findIn K (.ref C_InvalidRow) "__getattr__" = some none) (hs_InvalidRow : PySem.W.subIn K (.ref C_InvalidRow) (.type "BaseException") = some true) (hd_InvalidRow : PySem.W.hasDictIn K C_InvalidRow = true)
    (ha_InvalidRow : PySem.W.findIn K (.ref C_InvalidRow) "__class__" = some (some (.builtin "object.__class__"))) (hm_InvalidRow : PySem.W.mroIn K C_InvalidRow (.type "object") = some true)
    (ox_InvalidRow : sdOex K C_InvalidRow = true) (sa_InvalidRow : PySem.W.findIn K (.ref C_InvalidRow) "__setattr__" = some (some (.builtin "object.__setattr__"))) (ty_InvalidRow : PySem.W.typeIn K (.ref C_InvalidRow) = some (.type "type"))
    (nf_InvalidRow_index : PySem.W.findIn K (.ref C_InvalidRow) "index" = some none)
    {C_InvalidLights : Addr} (g_InvalidLights : PySem.W.nsIn K mainGlobals "InvalidLights" = some (some (.ref C_InvalidLights))) (kp_InvalidLights : PySem.W.keepIn K (.ref C_InvalidLights) = true)
    (hg_InvalidLights : PySem.W.findIn K (.ref C_InvalidLights) "__getattribute__" = some (some (.builtin "BaseException.__getattribute__"))) (hk_InvalidLights : PySem.W.findIn K (.ref C_InvalidLights) "__getattr__" = some none) (hs_InvalidLights : PySem.W.subIn K (.ref C_InvalidLights) (.type "BaseException") = some true) (hd_InvalidLights : PySem.W.hasDictIn K C_InvalidLights = true)
    (ha_InvalidLights : PySem.W.findIn K (.ref C_InvalidLights) "__class__" = some (some (.builtin "object.__class__"))) (hm_InvalidLights : PySem.W.mroIn K C_InvalidLights (.type "object") = some true)
    (ox_InvalidLights : sdOex K C_InvalidLights = true) (sa_InvalidLights : PySem.W.findIn K (.ref C_InvalidLights) "__setattr__" = some (some (.builtin "object.__setattr__"))) (ty_InvalidLights : PySem.W.typeIn K (.ref C_InvalidLights) = some (.type "type"))
    (nf_InvalidLights_index : PySem.W.findIn K (.ref C_InvalidLights) "index" = some none)
    {C_InvalidLooks : Addr} (g_InvalidLooks : PySem.W.nsIn K mainGlobals "InvalidLooks" = some (some (.ref C_InvalidLooks))) (kp_InvalidLooks : PySem.W.keepIn K (.ref C_InvalidLooks) = true)
    (hg_InvalidLooks : PySem.W.findIn K (.ref C_InvalidLooks) "__getattribute__" = some (some (.builtin "BaseException.__getattribute__"))) (hk_InvalidLooks : PySem.W.findIn K (.ref C_InvalidLooks) "__getattr__" = some none) (hs_InvalidLooks : PySem.W.subIn K (.ref C_InvalidLooks) (.type "BaseException") = some true) (hd_InvalidLooks : PySem.W.hasDictIn K C_InvalidLooks = true)
    (ha_InvalidLooks : PySem.W.findIn K (.ref C_InvalidLooks) "__class__" = some (some (.builtin "object.__class__"))) (hm_InvalidLooks : PySem.W.mroIn K C_InvalidLooks (.type "object") = some true)
    (ox_InvalidLooks : sdOex K C_InvalidLooks = true) (sa_InvalidLooks : PySem.W.findIn K (.ref C_InvalidLooks) "__setattr__" = some (some (.builtin "object.__setattr__"))) (ty_InvalidLooks : PySem.W.typeIn K (.ref C_InvalidLooks) = some (.type "type"))
    (nf_InvalidLooks_index : PySem.W.findIn K (.ref C_InvalidLooks) "index" = some none)
    {C_InvalidSyntax : Addr} (g_InvalidSyntax : PySem.W.nsIn K mainGlobals "InvalidSyntax" = some (some (.ref C_InvalidSyntax))) (kp_InvalidSyntax : PySem.W.keepIn K (.ref C_InvalidSyntax) = true)
    (hg_InvalidSyntax : PySem.W.findIn K (.ref C_InvalidSyntax) "__getattribute__" = some (some (.builtin "BaseException.__getattribute__"))) (hk_InvalidSyntax : PySem.W.findIn K (.ref C_InvalidSyntax) "__getattr__" = some none) (hs_InvalidSyntax : PySem.W.subIn K (.ref C_InvalidSyntax) (.type "BaseException") = some true) (hd_InvalidSyntax : PySem.W.hasDictIn K C_InvalidSyntax = true)
    (ha_InvalidSyntax : PySem.W.findIn K (.ref C_InvalidSyntax) "__class__" = some (some (.builtin "object.__class__"))) (hm_InvalidSyntax : PySem.W.mroIn K C_InvalidSyntax (.type "object") = some true)
    (ox_InvalidSyntax : sdOex K C_InvalidSyntax = true) (sa_InvalidSyntax : PySem.W.findIn K (.ref C_InvalidSyntax) "__setattr__" = some (some (.builtin "object.__setattr__"))) (ty_InvalidSyntax : PySem.W.typeIn K (.ref C_InvalidSyntax) = some (.type "type"))
    (nf_InvalidSyntax_word : PySem.W.findIn K (.ref C_InvalidSyntax) "word" = some none)
    (hn_E : PySem.W.specialIn K (.builtin "object.__class__") "__get__" = some (some (.builtin "getset_descriptor.__get__"))) (ht_E : PySem.W.takesIn K (.builtin "object.__class__") = some true)
    (rd_E : PySem.W.readsIn K C_DiscError (.type "type") = true) (ga_E : PySem.W.specialIn K (.ref C_DiscError) "__getattribute__" = some (some (.builtin "type.__getattribute__")))
    (vi_E : PySem.W.findCls K (.ref C_DiscError) (.type "type") "__init__" = some (.val (.builtin "ValueError.__init__")))
    (ks_DiscError : Kits K C_DiscError [C_InvalidNumber, C_InvalidTurn, C_InvalidSlot, C_Impossible, C_NothingToUndo, C_InvalidCommand, C_InvalidDisc, C_InvalidRow, C_InvalidLights, C_InvalidLooks, C_InvalidSyntax] [false, false, false, false, false, false, false, false, false, false, false]) (kb_DiscError : PySem.W.kitOne K (.ref C_DiscError) (.ref C_DiscError) = some true) (kv_DiscError : PySem.W.kitOne K (.ref C_DiscError) (.type "ValueError") = some true)
    (su_DiscError : PySem.W.subIn K (.ref C_DiscError) (.ref C_DiscError) = some true)
    (ks_InvalidNumber : Kits K C_InvalidNumber [C_InvalidNumber, C_InvalidTurn, C_InvalidSlot, C_Impossible, C_NothingToUndo, C_InvalidCommand, C_InvalidDisc, C_InvalidRow, C_InvalidLights, C_InvalidLooks, C_InvalidSyntax] [true, false, false, false, false, false, false, false, false, false, false]) (kb_InvalidNumber : PySem.W.kitOne K (.ref C_InvalidNumber) (.ref C_DiscError) = some true) (kv_InvalidNumber : PySem.W.kitOne K (.ref C_InvalidNumber) (.type "ValueError") = some true)
    (su_InvalidNumber : PySem.W.subIn K (.ref C_InvalidNumber) (.ref C_DiscError) = some true)
    (ks_InvalidTurn : Kits K C_InvalidTurn [C_InvalidNumber, C_InvalidTurn, C_InvalidSlot, C_Impossible, C_NothingToUndo, C_InvalidCommand, C_InvalidDisc, C_InvalidRow, C_InvalidLights, C_InvalidLooks, C_InvalidSyntax] [false, true, false, false, false, false, false, false, false, false, false]) (kb_InvalidTurn : PySem.W.kitOne K (.ref C_InvalidTurn) (.ref C_DiscError) = some true) (kv_InvalidTurn : PySem.W.kitOne K (.ref C_InvalidTurn) (.type "ValueError") = some true)
    (su_InvalidTurn : PySem.W.subIn K (.ref C_InvalidTurn) (.ref C_DiscError) = some true)
    (ks_InvalidSlot : Kits K C_InvalidSlot [C_InvalidNumber, C_InvalidTurn, C_InvalidSlot, C_Impossible, C_NothingToUndo, C_InvalidCommand, C_InvalidDisc, C_InvalidRow, C_InvalidLights, C_InvalidLooks, C_InvalidSyntax] [false, false, true, false, false, false, false, false, false, false, false]) (kb_InvalidSlot : PySem.W.kitOne K (.ref C_InvalidSlot) (.ref C_DiscError) = some true) (kv_InvalidSlot : PySem.W.kitOne K (.ref C_InvalidSlot) (.type "ValueError") = some true)
    (su_InvalidSlot : PySem.W.subIn K (.ref C_InvalidSlot) (.ref C_DiscError) = some true)
    (ks_Impossible : Kits K C_Impossible [C_InvalidNumber, C_InvalidTurn, C_InvalidSlot, C_Impossible, C_NothingToUndo, C_InvalidCommand, C_InvalidDisc, C_InvalidRow, C_InvalidLights, C_InvalidLooks, C_InvalidSyntax] [false, false, false, true, false, false, false, false, false, false, false]) (kb_Impossible : PySem.W.kitOne K (.ref C_Impossible) (.ref C_DiscError) = some true) (kv_Impossible : PySem.W.kitOne K (.ref C_Impossible) (.type "ValueError") = some true)
    (su_Impossible : PySem.W.subIn K (.ref C_Impossible) (.ref C_DiscError) = some true)
    (ks_NothingToUndo : Kits K C_NothingToUndo [C_InvalidNumber, C_InvalidTurn, C_InvalidSlot, C_Impossible, C_NothingToUndo, C_InvalidCommand, C_InvalidDisc, C_InvalidRow, C_InvalidLights, C_InvalidLooks, C_InvalidSyntax] [false, false, false, false, true, false, false, false, false, false, false]) (kb_NothingToUndo : PySem.W.kitOne K (.ref C_NothingToUndo) (.ref C_DiscError) = some true) (kv_NothingToUndo : PySem.W.kitOne K (.ref C_NothingToUndo) (.type "ValueError") = some true)
    (su_NothingToUndo : PySem.W.subIn K (.ref C_NothingToUndo) (.ref C_DiscError) = some true)
    (ks_InvalidCommand : Kits K C_InvalidCommand [C_InvalidNumber, C_InvalidTurn, C_InvalidSlot, C_Impossible, C_NothingToUndo, C_InvalidCommand, C_InvalidDisc, C_InvalidRow, C_InvalidLights, C_InvalidLooks, C_InvalidSyntax] [false, false, false, false, false, true, false, false, false, false, false]) (kb_InvalidCommand : PySem.W.kitOne K (.ref C_InvalidCommand) (.ref C_DiscError) = some true) (kv_InvalidCommand : PySem.W.kitOne K (.ref C_InvalidCommand) (.type "ValueError") = some true)
    (su_InvalidCommand : PySem.W.subIn K (.ref C_InvalidCommand) (.ref C_DiscError) = some true)
    (ks_InvalidDisc : Kits K C_InvalidDisc [C_InvalidNumber, C_InvalidTurn, C_InvalidSlot, C_Impossible, C_NothingToUndo, C_InvalidCommand, C_InvalidDisc, C_InvalidRow, C_InvalidLights, C_InvalidLooks, C_InvalidSyntax] [false, false, false, false, false, false, true, false, false, false, false]) (kb_InvalidDisc : PySem.W.kitOne K (.ref C_InvalidDisc) (.ref C_DiscError) = some true) (kv_InvalidDisc : PySem.W.kitOne K (.ref C_InvalidDisc) (.type "ValueError") = some true)
    (su_InvalidDisc : PySem.W.subIn K (.ref C_InvalidDisc) (.ref C_DiscError) = some true)
    (ks_InvalidRow : Kits K C_InvalidRow [C_InvalidNumber, C_InvalidTurn, C_InvalidSlot, C_Impossible, C_NothingToUndo, C_InvalidCommand, C_InvalidDisc, C_InvalidRow, C_InvalidLights, C_InvalidLooks, C_InvalidSyntax] [false, false, false, false, false, false, false, true, false, false, false]) (kb_InvalidRow : PySem.W.kitOne K (.ref C_InvalidRow) (.ref C_DiscError) = some true) (kv_InvalidRow : PySem.W.kitOne K (.ref C_InvalidRow) (.type "ValueError") = some true)
    (su_InvalidRow : PySem.W.subIn K (.ref C_InvalidRow) (.ref C_DiscError) = some true)
    (ks_InvalidLights : Kits K C_InvalidLights [C_InvalidNumber, C_InvalidTurn, C_InvalidSlot, C_Impossible, C_NothingToUndo, C_InvalidCommand, C_InvalidDisc, C_InvalidRow, C_InvalidLights, C_InvalidLooks, C_InvalidSyntax] [false, false, false, false, false, false, false, false, true, false, false]) (kb_InvalidLights : PySem.W.kitOne K (.ref C_InvalidLights) (.ref C_DiscError) = some true) (kv_InvalidLights : PySem.W.kitOne K (.ref C_InvalidLights) (.type "ValueError") = some true)
    (su_InvalidLights : PySem.W.subIn K (.ref C_InvalidLights) (.ref C_DiscError) = some true)
    (ks_InvalidLooks : Kits K C_InvalidLooks [C_InvalidNumber, C_InvalidTurn, C_InvalidSlot, C_Impossible, C_NothingToUndo, C_InvalidCommand, C_InvalidDisc, C_InvalidRow, C_InvalidLights, C_InvalidLooks, C_InvalidSyntax] [false, false, false, false, false, false, false, false, false, true, false]) (kb_InvalidLooks : PySem.W.kitOne K (.ref C_InvalidLooks) (.ref C_DiscError) = some true) (kv_InvalidLooks : PySem.W.kitOne K (.ref C_InvalidLooks) (.type "ValueError") = some true)
    (su_InvalidLooks : PySem.W.subIn K (.ref C_InvalidLooks) (.ref C_DiscError) = some true)
    (ks_InvalidSyntax : Kits K C_InvalidSyntax [C_InvalidNumber, C_InvalidTurn, C_InvalidSlot, C_Impossible, C_NothingToUndo, C_InvalidCommand, C_InvalidDisc, C_InvalidRow, C_InvalidLights, C_InvalidLooks, C_InvalidSyntax] [false, false, false, false, false, false, false, false, false, false, true]) (kb_InvalidSyntax : PySem.W.kitOne K (.ref C_InvalidSyntax) (.ref C_DiscError) = some true) (kv_InvalidSyntax : PySem.W.kitOne K (.ref C_InvalidSyntax) (.type "ValueError") = some true)
    (su_InvalidSyntax : PySem.W.subIn K (.ref C_InvalidSyntax) (.ref C_DiscError) = some true)
    (tb_E : PySem.W.typeIn K (.ref C_DiscError) = some (.type "type"))
    {f0 : Addr} {od0 an0 : Option Addr} {sl0 : Array (Option Value)} {oc0 kV0 dc0 pm0 cd0 ct0 : Value}
    (a0 : PySem.W.nsIn K mainGlobals "number_in" = some (some (.ref f0))) (l0 : K.lookup f0 = some ⟨oc0, od0, .func (PySem.W.fnOf "number_in" "number_in" (defArgs s_number_in) (defBody s_number_in) (defScope s_number_in) .none kV0 dc0 pm0 an0 cd0 ct0), sl0⟩) (c0 : PySem.W.codeIn K cd0 "number_in" = true) (k0 : PySem.W.keepIn K (.ref f0) = true)
    {f1 : Addr} {od1 an1 : Option Addr} {sl1 : Array (Option Value)} {oc1 kV1 dc1 pm1 cd1 ct1 : Value}
    (a1 : PySem.W.nsIn K mainGlobals "count_in" = some (some (.ref f1))) (l1 : K.lookup f1 = some ⟨oc1, od1, .func (PySem.W.fnOf "count_in" "count_in" (defArgs s_count_in) (defBody s_count_in) (defScope s_count_in) .none kV1 dc1 pm1 an1 cd1 ct1), sl1⟩) (c1 : PySem.W.codeIn K cd1 "count_in" = true) (k1 : PySem.W.keepIn K (.ref f1) = true)
    {f2 : Addr} {od2 an2 : Option Addr} {sl2 : Array (Option Value)} {oc2 kV2 dc2 pm2 cd2 ct2 : Value}
    (a2 : PySem.W.nsIn K mainGlobals "parse_disc" = some (some (.ref f2))) (l2 : K.lookup f2 = some ⟨oc2, od2, .func (PySem.W.fnOf "parse_disc" "parse_disc" (defArgs s_parse_disc) (defBody s_parse_disc) (defScope s_parse_disc) .none kV2 dc2 pm2 an2 cd2 ct2), sl2⟩) (c2 : PySem.W.codeIn K cd2 "parse_disc" = true) (k2 : PySem.W.keepIn K (.ref f2) = true)
    {f3 : Addr} {od3 an3 : Option Addr} {sl3 : Array (Option Value)} {oc3 kV3 dc3 pm3 cd3 ct3 : Value}
    (a3 : PySem.W.nsIn K mainGlobals "parse_row" = some (some (.ref f3))) (l3 : K.lookup f3 = some ⟨oc3, od3, .func (PySem.W.fnOf "parse_row" "parse_row" (defArgs s_parse_row) (defBody s_parse_row) (defScope s_parse_row) .none kV3 dc3 pm3 an3 cd3 ct3), sl3⟩) (c3 : PySem.W.codeIn K cd3 "parse_row" = true) (k3 : PySem.W.keepIn K (.ref f3) = true)
    {f4 : Addr} {od4 an4 : Option Addr} {sl4 : Array (Option Value)} {oc4 kV4 dc4 pm4 cd4 ct4 : Value}
    (a4 : PySem.W.nsIn K mainGlobals "parse_looks" = some (some (.ref f4))) (l4 : K.lookup f4 = some ⟨oc4, od4, .func (PySem.W.fnOf "parse_looks" "parse_looks" (defArgs s_parse_looks) (defBody s_parse_looks) (defScope s_parse_looks) .none kV4 dc4 pm4 an4 cd4 ct4), sl4⟩) (c4 : PySem.W.codeIn K cd4 "parse_looks" = true) (k4 : PySem.W.keepIn K (.ref f4) = true)
    {f5 : Addr} {od5 an5 : Option Addr} {sl5 : Array (Option Value)} {oc5 kV5 dc5 pm5 cd5 ct5 : Value}
    (a5 : PySem.W.nsIn K mainGlobals "_check_text" = some (some (.ref f5))) (l5 : K.lookup f5 = some ⟨oc5, od5, .func (PySem.W.fnOf "_check_text" "_check_text" (defArgs s_check_text) (defBody s_check_text) (defScope s_check_text) .none kV5 dc5 pm5 an5 cd5 ct5), sl5⟩) (c5 : PySem.W.codeIn K cd5 "_check_text" = true) (k5 : PySem.W.keepIn K (.ref f5) = true)
    {f6 : Addr} {od6 an6 : Option Addr} {sl6 : Array (Option Value)} {oc6 kV6 dc6 pm6 cd6 ct6 : Value}
    (a6 : PySem.W.nsIn K mainGlobals "_parse_words" = some (some (.ref f6))) (l6 : K.lookup f6 = some ⟨oc6, od6, .func (PySem.W.fnOf "_parse_words" "_parse_words" (defArgs s_parse_words) (defBody s_parse_words) (defScope s_parse_words) .none kV6 dc6 pm6 an6 cd6 ct6), sl6⟩) (c6 : PySem.W.codeIn K cd6 "_parse_words" = true) (k6 : PySem.W.keepIn K (.ref f6) = true)
    {f7 : Addr} {od7 an7 : Option Addr} {sl7 : Array (Option Value)} {oc7 kV7 dc7 pm7 cd7 ct7 : Value}
    (a7 : PySem.W.nsIn K mainGlobals "_slot_in" = some (some (.ref f7))) (l7 : K.lookup f7 = some ⟨oc7, od7, .func (PySem.W.fnOf "_slot_in" "_slot_in" (defArgs s_slot_in) (defBody s_slot_in) (defScope s_slot_in) .none kV7 dc7 pm7 an7 cd7 ct7), sl7⟩) (c7 : PySem.W.codeIn K cd7 "_slot_in" = true) (k7 : PySem.W.keepIn K (.ref f7) = true)
    {f8 : Addr} {od8 an8 : Option Addr} {sl8 : Array (Option Value)} {oc8 kV8 dc8 pm8 cd8 ct8 : Value}
    (a8 : PySem.W.nsIn K mainGlobals "_look_in" = some (some (.ref f8))) (l8 : K.lookup f8 = some ⟨oc8, od8, .func (PySem.W.fnOf "_look_in" "_look_in" (defArgs s_look_in) (defBody s_look_in) (defScope s_look_in) .none kV8 dc8 pm8 an8 cd8 ct8), sl8⟩) (c8 : PySem.W.codeIn K cd8 "_look_in" = true) (k8 : PySem.W.keepIn K (.ref f8) = true)
    {f9 : Addr} {od9 an9 : Option Addr} {sl9 : Array (Option Value)} {oc9 kV9 dc9 pm9 cd9 ct9 : Value}
    (a9 : PySem.W.nsIn K mainGlobals "_law_tank" = some (some (.ref f9))) (l9 : K.lookup f9 = some ⟨oc9, od9, .func (PySem.W.fnOf "_law_tank" "_law_tank" (defArgs s_law_tank) (defBody s_law_tank) (defScope s_law_tank) .none kV9 dc9 pm9 an9 cd9 ct9), sl9⟩) (c9 : PySem.W.codeIn K cd9 "_law_tank" = true) (k9 : PySem.W.keepIn K (.ref f9) = true)
    {f10 : Addr} {od10 an10 : Option Addr} {sl10 : Array (Option Value)} {oc10 kV10 dc10 pm10 cd10 ct10 : Value}
    (a10 : PySem.W.nsIn K mainGlobals "_law_tap" = some (some (.ref f10))) (l10 : K.lookup f10 = some ⟨oc10, od10, .func (PySem.W.fnOf "_law_tap" "_law_tap" (defArgs s_law_tap) (defBody s_law_tap) (defScope s_law_tap) .none kV10 dc10 pm10 an10 cd10 ct10), sl10⟩) (c10 : PySem.W.codeIn K cd10 "_law_tap" = true) (k10 : PySem.W.keepIn K (.ref f10) = true)
    {f11 : Addr} {od11 an11 : Option Addr} {sl11 : Array (Option Value)} {oc11 kV11 dc11 pm11 cd11 ct11 : Value}
    (a11 : PySem.W.nsIn K mainGlobals "_law_words" = some (some (.ref f11))) (l11 : K.lookup f11 = some ⟨oc11, od11, .func (PySem.W.fnOf "_law_words" "_law_words" (defArgs s_law_words) (defBody s_law_words) (defScope s_law_words) .none kV11 dc11 pm11 an11 cd11 ct11), sl11⟩) (c11 : PySem.W.codeIn K cd11 "_law_words" = true) (k11 : PySem.W.keepIn K (.ref f11) = true)
    {f12 : Addr} {od12 an12 : Option Addr} {sl12 : Array (Option Value)} {oc12 kV12 dc12 pm12 cd12 ct12 : Value}
    (a12 : PySem.W.nsIn K mainGlobals "_law_raised" = some (some (.ref f12))) (l12 : K.lookup f12 = some ⟨oc12, od12, .func (PySem.W.fnOf "_law_raised" "_law_raised" (defArgs s_law_raised) (defBody s_law_raised) (defScope s_law_raised) .none kV12 dc12 pm12 an12 cd12 ct12), sl12⟩) (c12 : PySem.W.codeIn K cd12 "_law_raised" = true) (k12 : PySem.W.keepIn K (.ref f12) = true)
    {f13 : Addr} {od13 an13 : Option Addr} {sl13 : Array (Option Value)} {oc13 kV13 dc13 pm13 cd13 ct13 : Value}
    (a13 : PySem.W.nsIn K mainGlobals "law" = some (some (.ref f13))) (l13 : K.lookup f13 = some ⟨oc13, od13, .func (PySem.W.fnOf "law" "law" (defArgs s_law) (defBody s_law) (defScope s_law) .none kV13 dc13 pm13 an13 cd13 ct13), sl13⟩) (c13 : PySem.W.codeIn K cd13 "law" = true) (k13 : PySem.W.keepIn K (.ref f13) = true)
    {f14 : Addr} {od14 an14 : Option Addr} {sl14 : Array (Option Value)} {oc14 kV14 dc14 pm14 cd14 ct14 : Value}
    (a14 : PySem.W.findIn K (.ref C_InvalidDisc) "__init__" = some (some (.ref f14))) (i14 : PySem.W.isFn K (.ref f14) = true)
    (l14 : K.lookup f14 = some ⟨oc14, od14, .func (PySem.W.fnOf "__init__" "InvalidDisc.__init__" (defArgs s_InvalidDisc_init) (defBody s_InvalidDisc_init) (defScope s_InvalidDisc_init) .none kV14 dc14 pm14 an14 cd14 ct14), sl14⟩) (c14 : PySem.W.codeIn K cd14 "InvalidDisc.__init__" = true) (k14 : PySem.W.keepIn K (.ref f14) = true)
    {f15 : Addr} {od15 an15 : Option Addr} {sl15 : Array (Option Value)} {oc15 kV15 dc15 pm15 cd15 ct15 : Value}
    (a15 : PySem.W.findIn K (.ref C_InvalidRow) "__init__" = some (some (.ref f15))) (i15 : PySem.W.isFn K (.ref f15) = true)
    (l15 : K.lookup f15 = some ⟨oc15, od15, .func (PySem.W.fnOf "__init__" "InvalidRow.__init__" (defArgs s_InvalidRow_init) (defBody s_InvalidRow_init) (defScope s_InvalidRow_init) .none kV15 dc15 pm15 an15 cd15 ct15), sl15⟩) (c15 : PySem.W.codeIn K cd15 "InvalidRow.__init__" = true) (k15 : PySem.W.keepIn K (.ref f15) = true)
    {f16 : Addr} {od16 an16 : Option Addr} {sl16 : Array (Option Value)} {oc16 kV16 dc16 pm16 cd16 ct16 : Value}
    (a16 : PySem.W.findIn K (.ref C_InvalidLights) "__init__" = some (some (.ref f16))) (i16 : PySem.W.isFn K (.ref f16) = true)
    (l16 : K.lookup f16 = some ⟨oc16, od16, .func (PySem.W.fnOf "__init__" "InvalidLights.__init__" (defArgs s_InvalidLights_init) (defBody s_InvalidLights_init) (defScope s_InvalidLights_init) .none kV16 dc16 pm16 an16 cd16 ct16), sl16⟩) (c16 : PySem.W.codeIn K cd16 "InvalidLights.__init__" = true) (k16 : PySem.W.keepIn K (.ref f16) = true)
    {f17 : Addr} {od17 an17 : Option Addr} {sl17 : Array (Option Value)} {oc17 kV17 dc17 pm17 cd17 ct17 : Value}
    (a17 : PySem.W.findIn K (.ref C_InvalidLooks) "__init__" = some (some (.ref f17))) (i17 : PySem.W.isFn K (.ref f17) = true)
    (l17 : K.lookup f17 = some ⟨oc17, od17, .func (PySem.W.fnOf "__init__" "InvalidLooks.__init__" (defArgs s_InvalidLooks_init) (defBody s_InvalidLooks_init) (defScope s_InvalidLooks_init) .none kV17 dc17 pm17 an17 cd17 ct17), sl17⟩) (c17 : PySem.W.codeIn K cd17 "InvalidLooks.__init__" = true) (k17 : PySem.W.keepIn K (.ref f17) = true)
    {f18 : Addr} {od18 an18 : Option Addr} {sl18 : Array (Option Value)} {oc18 kV18 dc18 pm18 cd18 ct18 : Value}
    (a18 : PySem.W.findIn K (.ref C_InvalidSyntax) "__init__" = some (some (.ref f18))) (i18 : PySem.W.isFn K (.ref f18) = true)
    (l18 : K.lookup f18 = some ⟨oc18, od18, .func (PySem.W.fnOf "__init__" "InvalidSyntax.__init__" (defArgs s_InvalidSyntax_init) (defBody s_InvalidSyntax_init) (defScope s_InvalidSyntax_init) .none kV18 dc18 pm18 an18 cd18 ct18), sl18⟩) (c18 : PySem.W.codeIn K cd18 "InvalidSyntax.__init__" = true) (k18 : PySem.W.keepIn K (.ref f18) = true)
    {t_MOST_SLOTS : Tok} (m_MOST_SLOTS : PySem.W.nsIn K mainGlobals "MOST_SLOTS" = some (some (.int (40) t_MOST_SLOTS)))
    {t_MOST_LIGHT : Tok} (m_MOST_LIGHT : PySem.W.nsIn K mainGlobals "MOST_LIGHT" = some (some (.int (1000000000000000000000000000000) t_MOST_LIGHT)))
    {t_MOST_LOOKS : Tok} (m_MOST_LOOKS : PySem.W.nsIn K mainGlobals "MOST_LOOKS" = some (some (.int (40) t_MOST_LOOKS)))
    {t_MOST_DIGITS : Tok} (m_MOST_DIGITS : PySem.W.nsIn K mainGlobals "MOST_DIGITS" = some (some (.int (40) t_MOST_DIGITS)))
    (z_ValueError : PySem.W.nsIn K mainGlobals "ValueError" = some none)
    (z_abs : PySem.W.nsIn K mainGlobals "abs" = some none)
    (z_enumerate : PySem.W.nsIn K mainGlobals "enumerate" = some none)
    (z_int : PySem.W.nsIn K mainGlobals "int" = some none)
    (z_isinstance : PySem.W.nsIn K mainGlobals "isinstance" = some none)
    (z_len : PySem.W.nsIn K mainGlobals "len" = some none)
    (z_max : PySem.W.nsIn K mainGlobals "max" = some none)
    (z_min : PySem.W.nsIn K mainGlobals "min" = some none)
    (z_range : PySem.W.nsIn K mainGlobals "range" = some none)
    (z_repr : PySem.W.nsIn K mainGlobals "repr" = some none)
    (z_str : PySem.W.nsIn K mainGlobals "str" = some none)
    : ∃ fd : FuncData, (∀ (s : Shared) (u : Value), BindsTo s fd ⟨[u], []⟩ [("script", u)]) ∧ ∀ base : Heap, K.In base → base.Ns mainGlobals mg → FnG l.prog w K mg base CX0 10 fa fd ["script"] (spLaw K) := by
  have e := hfa.symm.trans (PySem.W.mg_of X G a13)
  cases e
  have F0 := fun_mk (st := s_number_in) l0 c0 k0
  have b0 := F0.binds (ps := ["word"]) fun _ _ _ _ _ _ us hl => match us, hl with | [_], _ => rfl
  have F1 := fun_mk (st := s_count_in) l1 c1 k1
  have b1 := F1.binds (ps := ["word"]) fun _ _ _ _ _ _ us hl => match us, hl with | [_], _ => rfl
  have F2 := fun_mk (st := s_parse_disc) l2 c2 k2
  have b2 := F2.binds (ps := ["text"]) fun _ _ _ _ _ _ us hl => match us, hl with | [_], _ => rfl
  have F3 := fun_mk (st := s_parse_row) l3 c3 k3
  have b3 := F3.binds (ps := ["text"]) fun _ _ _ _ _ _ us hl => match us, hl with | [_], _ => rfl
  have F4 := fun_mk (st := s_parse_looks) l4 c4 k4
  have b4 := F4.binds (ps := ["text"]) fun _ _ _ _ _ _ us hl => match us, hl with | [_], _ => rfl
  have F5 := fun_mk (st := s_check_text) l5 c5 k5
  have b5 := F5.binds (ps := ["text"]) fun _ _ _ _ _ _ us hl => match us, hl with | [_], _ => rfl
  have F6 := fun_mk (st := s_parse_words) l6 c6 k6
  have b6 := F6.binds (ps := ["text", "value_in", "most"]) fun _ _ _ _ _ _ us hl => match us, hl with | [_, _, _], _ => rfl
  have F7 := fun_mk (st := s_slot_in) l7 c7 k7
  have b7 := F7.binds (ps := ["word"]) fun _ _ _ _ _ _ us hl => match us, hl with | [_], _ => rfl
  have F8 := fun_mk (st := s_look_in) l8 c8 k8
  have b8 := F8.binds (ps := ["word"]) fun _ _ _ _ _ _ us hl => match us, hl with | [_], _ => rfl
  have F9 := fun_mk (st := s_law_tank) l9 c9 k9
  have b9 := F9.binds (ps := ["script", "at"]) fun _ _ _ _ _ _ us hl => match us, hl with | [_, _], _ => rfl
  have F10 := fun_mk (st := s_law_tap) l10 c10 k10
  have b10 := F10.binds (ps := ["tank", "many"]) fun _ _ _ _ _ _ us hl => match us, hl with | [_, _], _ => rfl
  have F11 := fun_mk (st := s_law_words) l11 c11 k11
  have b11 := F11.binds (ps := ["e"]) fun _ _ _ _ _ _ us hl => match us, hl with | [_], _ => rfl
  have F12 := fun_mk (st := s_law_raised) l12 c12 k12
  have b12 := F12.binds (ps := ["kind", "thing"]) fun _ _ _ _ _ _ us hl => match us, hl with | [_, _], _ => rfl
  have F13 := fun_mk (st := s_law) l13 c13 k13
  have F14 := fun_mk (st := s_InvalidDisc_init) l14 c14 k14
  have b14 := F14.binds (ps := ["self", "index"]) fun _ _ _ _ _ _ us hl => match us, hl with | [_, _], _ => rfl
  have F15 := fun_mk (st := s_InvalidRow_init) l15 c15 k15
  have b15 := F15.binds (ps := ["self", "index"]) fun _ _ _ _ _ _ us hl => match us, hl with | [_, _], _ => rfl
  have F16 := fun_mk (st := s_InvalidLights_init) l16 c16 k16
  have b16 := F16.binds (ps := ["self", "index"]) fun _ _ _ _ _ _ us hl => match us, hl with | [_, _], _ => rfl
  have F17 := fun_mk (st := s_InvalidLooks_init) l17 c17 k17
  have b17 := F17.binds (ps := ["self", "index"]) fun _ _ _ _ _ _ us hl => match us, hl with | [_, _], _ => rfl
  have F18 := fun_mk (st := s_InvalidSyntax_init) l18 c18 k18
  have b18 := F18.binds (ps := ["self", "word"]) fun _ _ _ _ _ _ us hl => match us, hl with | [_, _], _ => rfl
  exact ⟨_, fun s v => .of_eq rfl, fun base _ _ => ok_law ⟨f0, _, F0, b0, PySem.W.mg_of X G a0, f1, _, F1, b1, PySem.W.mg_of X G a1, f2, _, F2, b2, PySem.W.mg_of X G a2, f3, _, F3, b3, PySem.W.mg_of X G a3, f4, _, F4, b4, PySem.W.mg_of X G a4, f5, _, F5, b5, PySem.W.mg_of X G a5, f6, _, F6, b6, PySem.W.mg_of X G a6, f7, _, F7, b7, PySem.W.mg_of X G a7, f8, _, F8, b8, PySem.W.mg_of X G a8, f9, _, F9, b9, PySem.W.mg_of X G a9, f10, _, F10, b10, PySem.W.mg_of X G a10, f11, _, F11, b11, PySem.W.mg_of X G a11, f12, _, F12, b12, PySem.W.mg_of X G a12, fa, _, F13, PySem.W.mg_of X G a13, f14, _, F14, b14, f15, _, F15, b15, f16, _, F16, b16, f17, _, F17, b17, f18, _, F18, b18, C_DiscError, PySem.W.mg_of X G g_DiscError, errC_of hg_DiscError hk_DiscError hs_DiscError hd_DiscError ha_DiscError hn_E ht_E hm_DiscError kp_DiscError, x_DiscError, C_InvalidNumber, PySem.W.mg_of X G g_InvalidNumber, errC_of hg_InvalidNumber hk_InvalidNumber hs_InvalidNumber hd_InvalidNumber ha_InvalidNumber hn_E ht_E hm_InvalidNumber kp_InvalidNumber, x_InvalidNumber, C_InvalidTurn, PySem.W.mg_of X G g_InvalidTurn, errC_of hg_InvalidTurn hk_InvalidTurn hs_InvalidTurn hd_InvalidTurn ha_InvalidTurn hn_E ht_E hm_InvalidTurn kp_InvalidTurn, x_InvalidTurn, C_InvalidSlot, PySem.W.mg_of X G g_InvalidSlot, errC_of hg_InvalidSlot hk_InvalidSlot hs_InvalidSlot hd_InvalidSlot ha_InvalidSlot hn_E ht_E hm_InvalidSlot kp_InvalidSlot, x_InvalidSlot, C_Impossible, PySem.W.mg_of X G g_Impossible, errC_of hg_Impossible hk_Impossible hs_Impossible hd_Impossible ha_Impossible hn_E ht_E hm_Impossible kp_Impossible, x_Impossible, C_NothingToUndo, PySem.W.mg_of X G g_NothingToUndo, errC_of hg_NothingToUndo hk_NothingToUndo hs_NothingToUndo hd_NothingToUndo ha_NothingToUndo hn_E ht_E hm_NothingToUndo kp_NothingToUndo, x_NothingToUndo, C_InvalidCommand, PySem.W.mg_of X G g_InvalidCommand, errC_of hg_InvalidCommand hk_InvalidCommand hs_InvalidCommand hd_InvalidCommand ha_InvalidCommand hn_E ht_E hm_InvalidCommand kp_InvalidCommand, x_InvalidCommand, C_InvalidDisc, PySem.W.mg_of X G g_InvalidDisc, errC_of hg_InvalidDisc hk_InvalidDisc hs_InvalidDisc hd_InvalidDisc ha_InvalidDisc hn_E ht_E hm_InvalidDisc kp_InvalidDisc, oex_of ox_InvalidDisc sa_InvalidDisc hs_InvalidDisc ty_InvalidDisc kp_InvalidDisc, a14, beq_iff_eq.mp i14, nf_InvalidDisc_index, C_InvalidRow, PySem.W.mg_of X G g_InvalidRow, errC_of hg_InvalidRow hk_InvalidRow hs_InvalidRow hd_InvalidRow ha_InvalidRow hn_E ht_E hm_InvalidRow kp_InvalidRow, oex_of ox_InvalidRow sa_InvalidRow hs_InvalidRow ty_InvalidRow kp_InvalidRow, a15, beq_iff_eq.mp i15, nf_InvalidRow_index, C_InvalidLights, PySem.W.mg_of X G g_InvalidLights, errC_of hg_InvalidLights hk_InvalidLights hs_InvalidLights hd_InvalidLights ha_InvalidLights hn_E ht_E hm_InvalidLights kp_InvalidLights, oex_of ox_InvalidLights sa_InvalidLights hs_InvalidLights ty_InvalidLights kp_InvalidLights, a16, beq_iff_eq.mp i16, nf_InvalidLights_index, C_InvalidLooks, PySem.W.mg_of X G g_InvalidLooks, errC_of hg_InvalidLooks hk_InvalidLooks hs_InvalidLooks hd_InvalidLooks ha_InvalidLooks hn_E ht_E hm_InvalidLooks kp_InvalidLooks, oex_of ox_InvalidLooks sa_InvalidLooks hs_InvalidLooks ty_InvalidLooks kp_InvalidLooks, a17, beq_iff_eq.mp i17, nf_InvalidLooks_index, C_InvalidSyntax, PySem.W.mg_of X G g_InvalidSyntax, errC_of hg_InvalidSyntax hk_InvalidSyntax hs_InvalidSyntax hd_InvalidSyntax ha_InvalidSyntax hn_E ht_E hm_InvalidSyntax kp_InvalidSyntax, oex_of ox_InvalidSyntax sa_InvalidSyntax hs_InvalidSyntax ty_InvalidSyntax kp_InvalidSyntax, a18, beq_iff_eq.mp i18, nf_InvalidSyntax_word, ⟨rd_E, ga_E⟩, vi_E, ks_DiscError, kb_DiscError, kv_DiscError, PySem.W.exm_ref hs_DiscError hd_DiscError tb_E su_DiscError, ks_InvalidNumber, kb_InvalidNumber, kv_InvalidNumber, PySem.W.exm_ref hs_DiscError hd_DiscError tb_E su_InvalidNumber, ks_InvalidTurn, kb_InvalidTurn, kv_InvalidTurn, PySem.W.exm_ref hs_DiscError hd_DiscError tb_E su_InvalidTurn, ks_InvalidSlot, kb_InvalidSlot, kv_InvalidSlot, PySem.W.exm_ref hs_DiscError hd_DiscError tb_E su_InvalidSlot, ks_Impossible, kb_Impossible, kv_Impossible, PySem.W.exm_ref hs_DiscError hd_DiscError tb_E su_Impossible, ks_NothingToUndo, kb_NothingToUndo, kv_NothingToUndo, PySem.W.exm_ref hs_DiscError hd_DiscError tb_E su_NothingToUndo, ks_InvalidCommand, kb_InvalidCommand, kv_InvalidCommand, PySem.W.exm_ref hs_DiscError hd_DiscError tb_E su_InvalidCommand, ks_InvalidDisc, kb_InvalidDisc, kv_InvalidDisc, PySem.W.exm_ref hs_DiscError hd_DiscError tb_E su_InvalidDisc, ks_InvalidRow, kb_InvalidRow, kv_InvalidRow, PySem.W.exm_ref hs_DiscError hd_DiscError tb_E su_InvalidRow, ks_InvalidLights, kb_InvalidLights, kv_InvalidLights, PySem.W.exm_ref hs_DiscError hd_DiscError tb_E su_InvalidLights, ks_InvalidLooks, kb_InvalidLooks, kv_InvalidLooks, PySem.W.exm_ref hs_DiscError hd_DiscError tb_E su_InvalidLooks, ks_InvalidSyntax, kb_InvalidSyntax, kv_InvalidSyntax, PySem.W.exm_ref hs_DiscError hd_DiscError tb_E su_InvalidSyntax, t_MOST_SLOTS, PySem.W.mg_of X G m_MOST_SLOTS, t_MOST_LIGHT, PySem.W.mg_of X G m_MOST_LIGHT, t_MOST_LOOKS, PySem.W.mg_of X G m_MOST_LOOKS, t_MOST_DIGITS, PySem.W.mg_of X G m_MOST_DIGITS, PySem.W.mg_none_of X G z_ValueError, PySem.W.mg_none_of X G z_abs, PySem.W.mg_none_of X G z_enumerate, PySem.W.mg_none_of X G z_int, PySem.W.mg_none_of X G z_isinstance, PySem.W.mg_none_of X G z_len, PySem.W.mg_none_of X G z_max, PySem.W.mg_none_of X G z_min, PySem.W.mg_none_of X G z_range, PySem.W.mg_none_of X G z_repr, PySem.W.mg_none_of X G z_str⟩⟩
end Sd
open PySem PySem.W PyProof.Rows
set_option maxRecDepth 100000 in
set_option maxHeartbeats 0 in
theorem PySem.Challenge.cw_slitdiscs_k50_errors_of_texts_holds : PySem.Challenge.rw_slitdiscs_k50_errors_of_texts.Holds := by
  w_on; o_law; k_head; (case hw => w_witness2)
  k_fill
  refine Sd.gwalk (l := PySem.Challenge.rw_slitdiscs_k50_errors_of_texts) (n := 63) (k := 10) (x := "script") (sp := Sd.spLaw) rfl (by decide) rfl ⟨rfl, by decide, by decide⟩ (fun w h Y => PySem.W.kIn_of Y) ?F (fun _ _ a ns hl hS => ⟨a, ns, rfl, hS, hl, fun _ => rfl⟩)
  case F =>
    intro w mg fa h KX G hmg
    refine' Sd.all_mk KX G hmg ?g_DiscError ?kp_DiscError ?hg_DiscError ?hk_DiscError ?hs_DiscError ?hd_DiscError ?ha_DiscError ?hm_DiscError ?x_DiscError ?g_InvalidNumber ?kp_InvalidNumber ?hg_InvalidNumber ?hk_InvalidNumber ?hs_InvalidNumber ?hd_InvalidNumber ?ha_InvalidNumber ?hm_InvalidNumber ?x_InvalidNumber ?g_InvalidTurn ?kp_InvalidTurn ?hg_InvalidTurn ?hk_InvalidTurn ?hs_InvalidTurn ?hd_InvalidTurn ?ha_InvalidTurn ?hm_InvalidTurn ?x_InvalidTurn ?g_InvalidSlot ?kp_InvalidSlot ?hg_InvalidSlot ?hk_InvalidSlot ?hs_InvalidSlot ?hd_InvalidSlot ?ha_InvalidSlot ?hm_InvalidSlot ?x_InvalidSlot ?g_Impossible ?kp_Impossible ?hg_Impossible ?hk_Impossible ?hs_Impossible ?hd_Impossible ?ha_Impossible ?hm_Impossible ?x_Impossible ?g_NothingToUndo ?kp_NothingToUndo ?hg_NothingToUndo ?hk_NothingToUndo ?hs_NothingToUndo ?hd_NothingToUndo ?ha_NothingToUndo ?hm_NothingToUndo ?x_NothingToUndo ?g_InvalidCommand ?kp_InvalidCommand ?hg_InvalidCommand ?hk_InvalidCommand ?hs_InvalidCommand ?hd_InvalidCommand ?ha_InvalidCommand ?hm_InvalidCommand ?x_InvalidCommand ?g_InvalidDisc ?kp_InvalidDisc ?hg_InvalidDisc ?hk_InvalidDisc ?hs_InvalidDisc ?hd_InvalidDisc ?ha_InvalidDisc ?hm_InvalidDisc ?ox_InvalidDisc ?sa_InvalidDisc ?ty_InvalidDisc ?nf_InvalidDisc_index ?g_InvalidRow ?kp_InvalidRow ?hg_InvalidRow ?hk_InvalidRow ?hs_InvalidRow ?hd_InvalidRow ?ha_InvalidRow ?hm_InvalidRow ?ox_InvalidRow ?sa_InvalidRow ?ty_InvalidRow ?nf_InvalidRow_index ?g_InvalidLights ?kp_InvalidLights ?hg_InvalidLights ?hk_InvalidLights ?hs_InvalidLights ?hd_InvalidLights ?ha_InvalidLights ?hm_InvalidLights ?ox_InvalidLights ?sa_InvalidLights ?ty_InvalidLights ?nf_InvalidLights_index ?g_InvalidLooks ?kp_InvalidLooks ?hg_InvalidLooks ?hk_InvalidLooks ?hs_InvalidLooks ?hd_InvalidLooks ?ha_InvalidLooks ?hm_InvalidLooks ?ox_InvalidLooks ?sa_InvalidLooks ?ty_InvalidLooks ?nf_InvalidLooks_index ?g_InvalidSyntax ?kp_InvalidSyntax ?hg_InvalidSyntax ?hk_InvalidSyntax ?hs_InvalidSyntax ?hd_InvalidSyntax ?ha_InvalidSyntax ?hm_InvalidSyntax ?ox_InvalidSyntax ?sa_InvalidSyntax ?ty_InvalidSyntax ?nf_InvalidSyntax_word ?hn_E ?ht_E ?rd_E ?ga_E ?vi_E ?ks_DiscError ?kb_DiscError ?kv_DiscError ?su_DiscError ?ks_InvalidNumber ?kb_InvalidNumber ?kv_InvalidNumber ?su_InvalidNumber ?ks_InvalidTurn ?kb_InvalidTurn ?kv_InvalidTurn ?su_InvalidTurn ?ks_InvalidSlot ?kb_InvalidSlot ?kv_InvalidSlot ?su_InvalidSlot ?ks_Impossible ?kb_Impossible ?kv_Impossible ?su_Impossible ?ks_NothingToUndo ?kb_NothingToUndo ?kv_NothingToUndo ?su_NothingToUndo ?ks_InvalidCommand ?kb_InvalidCommand ?kv_InvalidCommand ?su_InvalidCommand ?ks_InvalidDisc ?kb_InvalidDisc ?kv_InvalidDisc ?su_InvalidDisc ?ks_InvalidRow ?kb_InvalidRow ?kv_InvalidRow ?su_InvalidRow ?ks_InvalidLights ?kb_InvalidLights ?kv_InvalidLights ?su_InvalidLights ?ks_InvalidLooks ?kb_InvalidLooks ?kv_InvalidLooks ?su_InvalidLooks ?ks_InvalidSyntax ?kb_InvalidSyntax ?kv_InvalidSyntax ?su_InvalidSyntax ?tb_E ?a0 ?l0 ?c0 ?k0 ?a1 ?l1 ?c1 ?k1 ?a2 ?l2 ?c2 ?k2 ?a3 ?l3 ?c3 ?k3 ?a4 ?l4 ?c4 ?k4 ?a5 ?l5 ?c5 ?k5 ?a6 ?l6 ?c6 ?k6 ?a7 ?l7 ?c7 ?k7 ?a8 ?l8 ?c8 ?k8 ?a9 ?l9 ?c9 ?k9 ?a10 ?l10 ?c10 ?k10 ?a11 ?l11 ?c11 ?k11 ?a12 ?l12 ?c12 ?k12 ?a13 ?l13 ?c13 ?k13 ?a14 ?i14 ?l14 ?c14 ?k14 ?a15 ?i15 ?l15 ?c15 ?k15 ?a16 ?i16 ?l16 ?c16 ?k16 ?a17 ?i17 ?l17 ?c17 ?k17 ?a18 ?i18 ?l18 ?c18 ?k18 ?m_MOST_SLOTS ?m_MOST_LIGHT ?m_MOST_LOOKS ?m_MOST_DIGITS ?z_ValueError ?z_abs ?z_enumerate ?z_int ?z_isinstance ?z_len ?z_max ?z_min ?z_range ?z_repr ?z_str
    (case g_DiscError => k_is)
    (case kp_DiscError => k_is)
    (case hg_DiscError => k_is)
    (case hk_DiscError => k_is)
    (case hs_DiscError => k_is)
    (case hd_DiscError => k_is)
    (case ha_DiscError => k_is)
    (case hm_DiscError => k_is)
    (case x_DiscError => k_exc)
    (case g_InvalidNumber => k_is)
    (case kp_InvalidNumber => k_is)
    (case hg_InvalidNumber => k_is)
    (case hk_InvalidNumber => k_is)
    (case hs_InvalidNumber => k_is)
    (case hd_InvalidNumber => k_is)
    (case ha_InvalidNumber => k_is)
    (case hm_InvalidNumber => k_is)
    (case x_InvalidNumber => k_exc)
    (case g_InvalidTurn => k_is)
    (case kp_InvalidTurn => k_is)
    (case hg_InvalidTurn => k_is)
    (case hk_InvalidTurn => k_is)
    (case hs_InvalidTurn => k_is)
    (case hd_InvalidTurn => k_is)
    (case ha_InvalidTurn => k_is)
    (case hm_InvalidTurn => k_is)
    (case x_InvalidTurn => k_exc)
    (case g_InvalidSlot => k_is)
    (case kp_InvalidSlot => k_is)
    (case hg_InvalidSlot => k_is)
    (case hk_InvalidSlot => k_is)
    (case hs_InvalidSlot => k_is)
    (case hd_InvalidSlot => k_is)
    (case ha_InvalidSlot => k_is)
    (case hm_InvalidSlot => k_is)
    (case x_InvalidSlot => k_exc)
    (case g_Impossible => k_is)
    (case kp_Impossible => k_is)
    (case hg_Impossible => k_is)
    (case hk_Impossible => k_is)
    (case hs_Impossible => k_is)
    (case hd_Impossible => k_is)
    (case ha_Impossible => k_is)
    (case hm_Impossible => k_is)
    (case x_Impossible => k_exc)
    (case g_NothingToUndo => k_is)
    (case kp_NothingToUndo => k_is)
    (case hg_NothingToUndo => k_is)
    (case hk_NothingToUndo => k_is)
    (case hs_NothingToUndo => k_is)
    (case hd_NothingToUndo => k_is)
    (case ha_NothingToUndo => k_is)
    (case hm_NothingToUndo => k_is)
    (case x_NothingToUndo => k_exc)
    (case g_InvalidCommand => k_is)
    (case kp_InvalidCommand => k_is)
    (case hg_InvalidCommand => k_is)
    (case hk_InvalidCommand => k_is)
    (case hs_InvalidCommand => k_is)
    (case hd_InvalidCommand => k_is)
    (case ha_InvalidCommand => k_is)
    (case hm_InvalidCommand => k_is)
    (case x_InvalidCommand => k_exc)
    (case g_InvalidDisc => k_is)
    (case kp_InvalidDisc => k_is)
    (case hg_InvalidDisc => k_is)
    (case hk_InvalidDisc => k_is)
    (case hs_InvalidDisc => k_is)
    (case hd_InvalidDisc => k_is)
    (case ha_InvalidDisc => k_is)
    (case hm_InvalidDisc => k_is)
    (case ox_InvalidDisc => kernel_rfl)
    (case sa_InvalidDisc => k_is)
    (case ty_InvalidDisc => k_is)
    (case nf_InvalidDisc_index => k_is)
    (case g_InvalidRow => k_is)
    (case kp_InvalidRow => k_is)
    (case hg_InvalidRow => k_is)
    (case hk_InvalidRow => k_is)
    (case hs_InvalidRow => k_is)
    (case hd_InvalidRow => k_is)
    (case ha_InvalidRow => k_is)
    (case hm_InvalidRow => k_is)
    (case ox_InvalidRow => kernel_rfl)
    (case sa_InvalidRow => k_is)
    (case ty_InvalidRow => k_is)
    (case nf_InvalidRow_index => k_is)
    (case g_InvalidLights => k_is)
    (case kp_InvalidLights => k_is)
    (case hg_InvalidLights => k_is)
    (case hk_InvalidLights => k_is)
    (case hs_InvalidLights => k_is)
    (case hd_InvalidLights => k_is)
    (case ha_InvalidLights => k_is)
    (case hm_InvalidLights => k_is)
    (case ox_InvalidLights => kernel_rfl)
    (case sa_InvalidLights => k_is)
    (case ty_InvalidLights => k_is)
    (case nf_InvalidLights_index => k_is)
    (case g_InvalidLooks => k_is)
    (case kp_InvalidLooks => k_is)
    (case hg_InvalidLooks => k_is)
    (case hk_InvalidLooks => k_is)
    (case hs_InvalidLooks => k_is)
    (case hd_InvalidLooks => k_is)
    (case ha_InvalidLooks => k_is)
    (case hm_InvalidLooks => k_is)
    (case ox_InvalidLooks => kernel_rfl)
    (case sa_InvalidLooks => k_is)
    (case ty_InvalidLooks => k_is)
    (case nf_InvalidLooks_index => k_is)
    (case g_InvalidSyntax => k_is)
    (case kp_InvalidSyntax => k_is)
    (case hg_InvalidSyntax => k_is)
    (case hk_InvalidSyntax => k_is)
    (case hs_InvalidSyntax => k_is)
    (case hd_InvalidSyntax => k_is)
    (case ha_InvalidSyntax => k_is)
    (case hm_InvalidSyntax => k_is)
    (case ox_InvalidSyntax => kernel_rfl)
    (case sa_InvalidSyntax => k_is)
    (case ty_InvalidSyntax => k_is)
    (case nf_InvalidSyntax_word => k_is)
    (case hn_E => k_is)
    (case ht_E => k_is)
    (case rd_E => k_is)
    (case ga_E => k_is)
    (case vi_E => k_is)
    (case ks_DiscError => unfold Sd.Kits; kernel_rfl)
    (case kb_DiscError => first | k_is | rfl)
    (case kv_DiscError => first | k_is | rfl)
    (case su_DiscError => k_is)
    (case ks_InvalidNumber => unfold Sd.Kits; kernel_rfl)
    (case kb_InvalidNumber => first | k_is | rfl)
    (case kv_InvalidNumber => first | k_is | rfl)
    (case su_InvalidNumber => k_is)
    (case ks_InvalidTurn => unfold Sd.Kits; kernel_rfl)
    (case kb_InvalidTurn => first | k_is | rfl)
    (case kv_InvalidTurn => first | k_is | rfl)
    (case su_InvalidTurn => k_is)
    (case ks_InvalidSlot => unfold Sd.Kits; kernel_rfl)
    (case kb_InvalidSlot => first | k_is | rfl)
    (case kv_InvalidSlot => first | k_is | rfl)
    (case su_InvalidSlot => k_is)
    (case ks_Impossible => unfold Sd.Kits; kernel_rfl)
    (case kb_Impossible => first | k_is | rfl)
    (case kv_Impossible => first | k_is | rfl)
    (case su_Impossible => k_is)
    (case ks_NothingToUndo => unfold Sd.Kits; kernel_rfl)
    (case kb_NothingToUndo => first | k_is | rfl)
    (case kv_NothingToUndo => first | k_is | rfl)
    (case su_NothingToUndo => k_is)
    (case ks_InvalidCommand => unfold Sd.Kits; kernel_rfl)
    (case kb_InvalidCommand => first | k_is | rfl)
    (case kv_InvalidCommand => first | k_is | rfl)
    (case su_InvalidCommand => k_is)
    (case ks_InvalidDisc => unfold Sd.Kits; kernel_rfl)
    (case kb_InvalidDisc => first | k_is | rfl)
    (case kv_InvalidDisc => first | k_is | rfl)
    (case su_InvalidDisc => k_is)
    (case ks_InvalidRow => unfold Sd.Kits; kernel_rfl)
    (case kb_InvalidRow => first | k_is | rfl)
    (case kv_InvalidRow => first | k_is | rfl)
    (case su_InvalidRow => k_is)
    (case ks_InvalidLights => unfold Sd.Kits; kernel_rfl)
    (case kb_InvalidLights => first | k_is | rfl)
    (case kv_InvalidLights => first | k_is | rfl)
    (case su_InvalidLights => k_is)
    (case ks_InvalidLooks => unfold Sd.Kits; kernel_rfl)
    (case kb_InvalidLooks => first | k_is | rfl)
    (case kv_InvalidLooks => first | k_is | rfl)
    (case su_InvalidLooks => k_is)
    (case ks_InvalidSyntax => unfold Sd.Kits; kernel_rfl)
    (case kb_InvalidSyntax => first | k_is | rfl)
    (case kv_InvalidSyntax => first | k_is | rfl)
    (case su_InvalidSyntax => k_is)
    (case tb_E => k_is)
    (case a0 => k_is)
    (case l0 => k_is)
    (case c0 => k_is)
    (case k0 => k_is)
    (case a1 => k_is)
    (case l1 => k_is)
    (case c1 => k_is)
    (case k1 => k_is)
    (case a2 => k_is)
    (case l2 => k_is)
    (case c2 => k_is)
    (case k2 => k_is)
    (case a3 => k_is)
    (case l3 => k_is)
    (case c3 => k_is)
    (case k3 => k_is)
    (case a4 => k_is)
    (case l4 => k_is)
    (case c4 => k_is)
    (case k4 => k_is)
    (case a5 => k_is)
    (case l5 => k_is)
    (case c5 => k_is)
    (case k5 => k_is)
    (case a6 => k_is)
    (case l6 => k_is)
    (case c6 => k_is)
    (case k6 => k_is)
    (case a7 => k_is)
    (case l7 => k_is)
    (case c7 => k_is)
    (case k7 => k_is)
    (case a8 => k_is)
    (case l8 => k_is)
    (case c8 => k_is)
    (case k8 => k_is)
    (case a9 => k_is)
    (case l9 => k_is)
    (case c9 => k_is)
    (case k9 => k_is)
    (case a10 => k_is)
    (case l10 => k_is)
    (case c10 => k_is)
    (case k10 => k_is)
    (case a11 => k_is)
    (case l11 => k_is)
    (case c11 => k_is)
    (case k11 => k_is)
    (case a12 => k_is)
    (case l12 => k_is)
    (case c12 => k_is)
    (case k12 => k_is)
    (case a13 => k_is)
    (case l13 => k_is)
    (case c13 => k_is)
    (case k13 => k_is)
    (case a14 => k_is)
    (case i14 => k_is)
    (case l14 => k_is)
    (case c14 => k_is)
    (case k14 => k_is)
    (case a15 => k_is)
    (case i15 => k_is)
    (case l15 => k_is)
    (case c15 => k_is)
    (case k15 => k_is)
    (case a16 => k_is)
    (case i16 => k_is)
    (case l16 => k_is)
    (case c16 => k_is)
    (case k16 => k_is)
    (case a17 => k_is)
    (case i17 => k_is)
    (case l17 => k_is)
    (case c17 => k_is)
    (case k17 => k_is)
    (case a18 => k_is)
    (case i18 => k_is)
    (case l18 => k_is)
    (case c18 => k_is)
    (case k18 => k_is)
    (case m_MOST_SLOTS => k_is)
    (case m_MOST_LIGHT => k_is)
    (case m_MOST_LOOKS => k_is)
    (case m_MOST_DIGITS => k_is)
    (case z_ValueError => k_is)
    (case z_abs => k_is)
    (case z_enumerate => k_is)
    (case z_int => k_is)
    (case z_isinstance => k_is)
    (case z_len => k_is)
    (case z_max => k_is)
    (case z_min => k_is)
    (case z_range => k_is)
    (case z_repr => k_is)
    (case z_str => k_is)
