import PyProof.Rows.All
import Wide.All
import OpenK.AllK
import Wide.FinOn
import HandS.Comp
import HandS.Ends
import HandS.Iter
import HandS.Words
import HandS.WordsList
import HandS.Walk
import HandS.IsInst
import HandS.Wide
import PyProof.ReprRoads
import PyProof.ReprLen
import KE.DataMinMax
import HandS.Deep
import HandS.Walk
import HandS.DictComp
import HandS.Iter
import HandS.WordsDict
import HandS.More
import HandS.Style
import HandS.Conv
import HandS.Text
import HandS.StrMore
import HandS.FStr
import HandS.IterVal
import PyProof.StrBlock2
import HandS.SetFor
import HandS.TupSets
import HandS.Strs
import KE.GoesEnum
import HandS.RaiseMore
import KE.KEqSeq
import HandS.WideBits
import HandS.Property
import HandS.MakeKwOnly
import HandS.Words
import HandS.NamedTupSort
import HandS.OwnEq
import HandS.TryOnly
import HandS.WordsExc
import HandS.Star
import KE.KStar
import PySem.Challenge.RW_slitdiscs_k35_sure_slots_and_clashes
set_option Elab.async false
set_option linter.all false
set_option maxRecDepth 100000
set_option maxHeartbeats 4000000
/-! Own layer over HandS: defs that run where no repr is under way (FnG), repr of data, powers of great ints, calls by keywords alone. -/
namespace Sd
open PySem PySem.Spec PyProof.Rows L2

/-! ### a def called where no repr is under way -/
structure FnG (P : Program) (w : World) (K : PySem.W.Frag) (mg : Str → Option Value) (base : Heap) (C : CXT) (k : Nat) (f : Addr) (fd : FuncData) (ps : List Str) (sp : Sp) : Prop where
  cnt : ∀ {vs H Q E}, sp vs H Q E → vs.length = ps.length
  go : ∀ (A : Around) (out : List Env) (s : Shared) (H : Hp) (ar : Args) (us : List Value) (vs : List V) (Q : VK) (E : XK), A.guards = some [] → Room k A →
    Env0 P w K mg base A out s H → BindsTo s fd ar (ps.zip us) → Vals vs us → sp vs H Q E →
    codeAny (model P w) A (.call (.ref f) ar) (CR C out P w H s Q E) s

section
variable {P : Program} {w : World} {K : PySem.W.Frag} {mg : Str → Option Value} {base : Heap} {C : CXT}
theorem gfn_of {k : Nat} {f : Addr} {nm ql : Str} {pms : Arguments} {bd : List Stmt} {sc : Scope} {v1 v2 v3 v4 cd v5 oc : Value} {an od : Option Addr}
    {osl : Array (Option Value)} {N ps : List Str} {sp : Sp}
    (lk : K.lookup f = some ⟨oc, od, .func (PySem.W.fnOf nm ql pms bd sc v1 v2 v3 v4 an cd v5), osl⟩)
    (hc : PySem.W.codeIn K cd ql = true) (S : FnScope N ps sc)
    (len : ∀ vs H Q E, sp vs H Q E → vs.length = ps.length)
    (hb : ∀ (A : Around) (out : List Env) (s : Shared) (H : Hp) (vs : List V) (Q : VK) (E : XK), A.guards = some [] →
      Room k (A.deeper (envOfC ql sc s.heap.objs.size f cd)) → sp vs H Q E →
      ∃ t, PSs (cxOf C P w K mg base N ql sc f cd A out s H E) bd t ∧ t { nx := fun _ H' => Q .non H', rt := Q } (start N vs) H) :
    FnG P w K mg base C (k + 1) f (PySem.W.fnOf nm ql pms bd sc v1 v2 v3 v4 an cd v5) ps sp := by
  refine ⟨fun h => len _ _ _ _ h, fun A out s H ar us vs Q E hg hr e0 hbd r hsp => ?_⟩
  have n1 := len _ _ _ _ hsp
  have kx : K.In s.heap := e0.mod.kin.keeps fun b o e => (e0.bs b o e).1
  have li : s.heap.NoLimit := e0.mod.nolimit.keeps fun b o e => (e0.bs b o e).1
  refine codeAny_call_function hr.depth (kx _ _ lk) rfl S.co S.gen rfl (PySem.W.codeRec_of kx hc) (hbd _ _ _ _ ?_)
  refine wpAny_newFunctionEnv_cells S.kind (fun ⟨n, v⟩ hy => ?_) fun env he s1 x => ?_
  · rcases S.par n (List.of_mem_zip hy).1 with q | q
    · exact .inl q
    · exact .inr ⟨q, PySem.W.cellsFrom_some _ _ _ (.inl q)⟩
  subst he
  refine ⟨li.keeps x.toInCall.keep, codeAny_func ?_⟩
  obtain ⟨t, ht, hq⟩ := hb A out s H vs Q E hg (hr.deeper _) hsp
  have I0 := inv_start (CX := C) (E := E) S hr.hd e0 n1 r x
  refine wpAny_mono (ht.run [] s1 (start N vs) H _ I0 hq) (fun fl s' hs => ?_) fun e s' hs => hs
  cases fl with
  | next =>
    obtain ⟨σ', H', J, q⟩ := hs
    exact ⟨.non, H', J.os, J.bare, J.base, J.hok, rfl, q⟩
  | ret u =>
    obtain ⟨v, σ', H', J, rv, q⟩ := hs
    exact ⟨v, H', J.os, J.bare, J.base, J.hok, rv, q⟩
  | brk => exact hs.elim fun _ ⟨_, _, q⟩ => False.elim q
  | cont => exact hs.elim fun _ ⟨_, _, q⟩ => False.elim q

/-- as Fun.ok, where no repr is under way -/
theorem okG {x ql : Str} {st : Stmt} {f : Addr} {fd : FuncData} {N ps : List Str} {k : Nat} {sp : Sp} (F : Fun K x ql st f fd) (S : FnScope N ps (defScope st))
    (len : ∀ vs H Q E, sp vs H Q E → vs.length = ps.length)
    (hb : ∀ (cd : Value) (A : Around) (out : List Env) (s : Shared) (H : Hp) (vs : List V) (Q : VK) (E : XK), A.guards = some [] →
      Room k (A.deeper (envOfC ql (defScope st) s.heap.objs.size f cd)) → sp vs H Q E →
      ∃ t, PSs (cxOf CX0 P w K mg base N ql (defScope st) f cd A out s H E).nox (defBody st) t ∧ t { nx := fun _ H' => Q .non H', rt := Q } (start N vs) H) :
    FnG P w K mg base CX0 (k + 1) f fd ps sp := by
  obtain ⟨oc, od, v2, v3, v4, an, cd, v5, osl, rfl, lk, hc⟩ := F.ex
  refine gfn_of lk hc S len fun A out s H vs Q E hg hr hsp => ?_
  obtain ⟨t, h, q⟩ := hb cd A out s H vs Q E hg hr hsp
  exact ⟨t, h.nox, q⟩
end

section
variable {X : Cx} {C : CXT} {k : Nat} {f : Addr} {fd : FuncData} {ps ks : List Str} {sp : Sp} {dvs : List V} {ds : List Value} {E : XK} {x : Str} {p pos : Pos} {e : Expr} {es : List Expr} {kws : List Keyword} {t tk : TA}
theorem endG {pins : List (Addr × Obj)} {σ : L2.St} {H : Hp} {s s' : Shared} {Q : VK} {r : Result} (hx : Passes C X E) (I : Inv X pins σ H s) (h : CR C X.stack X.prog X.w H s Q E r s') :
    (match r with | .ok (.ret u) => EP X pins σ Q u s' | .ok _ => False | .error e => X.xe e s') := by
  cases r with
  | error e => exact hx pins σ H s e s' I h
  | ok fl =>
    cases fl with
    | ret u => exact I.after h
    | next => exact h
    | brk => exact h
    | cont => exact h
theorem goG {pins : List (Addr × Obj)} {σ : L2.St} {H : Hp} {s : Shared} {Q : VK} {us : List Value} {vs : List V} (F : FnG X.prog X.w X.K X.mg X.base C k f fd ps sp) (hA : X.A.guards = some []) (hr : Room k X.A)
    (hb : Binds X.K fd ps ds) (hd : Vals dvs ds) (hx : Passes C X E) (I : Inv X pins σ H s) (r : Vals vs us) (h : sp (vs ++ dvs) H Q E) :
    wpAny (model X.prog X.w) X.A (call (.ref f) us) (EP X pins σ Q) X.xe s := by
  have r2 := r.append hd
  have n2 : (us ++ ds).length = ps.length := r2.length.symm.trans (F.cnt h)
  refine wpAny_call (codeAny_mono (F.go X.A X.stack s H ⟨us, []⟩ _ _ Q E hA hr I.env0 (hb s us I.kIn n2) r2 h) fun r s' hq => ?_)
  have z := endG hx I hq
  cases r with
  | error e => exact z
  | ok fl => cases fl <;> exact z
/-- f(e, ..) where no repr is under way -/
theorem pe_callG (F : FnG X.prog X.w X.K X.mg X.base C k f fd ps sp) (hA : X.A.guards = some []) (hr : Room k X.A) (hg : Gl X x) (hm : X.mg x = some (.ref f)) (hk : PySem.W.keepIn X.K (.ref f) = true)
    (hb : Binds X.K fd ps ds) (hd : Vals dvs ds) (hx : Passes C X E) (ha : PA X (e :: es) t) (hdb : (x == ("__debug__" : Str)) = false := by decide)
    (he : starEach (e :: es) X.env = (false, eval e X.env) :: starEach es X.env := by rfl) (hpl : (backTo pos (starEach es X.env)).any (·.1) = false := by rfl) :
    PE X (.Call (.Name x p) (e :: es) [] pos) (tCall sp dvs E t) := by
  refine ⟨fun pins s σ H Q I h => wpAny_Call_Name_kw (ld_glob I hg hm ?_ hdb)⟩
  refine PySem.W.callWith_K (h₀ := X.base) I.ok.mod.kin hk (thn (ha.run pos pins s σ H _ I h) fun us s1 z => ?_) he hpl
  obtain ⟨vs, H1, I1, r, q⟩ := z
  exact ⟨I1.kIn, goG F hA hr hb hd hx I1 r q⟩
/-- f(k = v, ..): keywords alone -/
def tCallW (sp : Sp) (gV : List V → List V) (E : XK) (tk : TA) : TE := fun σ H Q => tk σ H fun zs H2 => sp (gV zs) H2 Q E
variable {g : List Value → List Value → List Value} {gV : List V → List V → List V}
theorem pe_callW (F : FnOk X.prog X.w X.K X.mg X.base C k f fd ps sp) (hr : Room k X.A) (hg : Gl X x) (hm : X.mg x = some (.ref f)) (hk : PySem.W.keepIn X.K (.ref f) = true) (hb : KBinds X.K fd ps ks g gV) (hx : Passes C X E)
    (hkw : PK X kws tk) (hall : (backToKw pos (keywordEach kws X.env)).all (·.1.isSome) = true := by rfl) (hks : (backToKw pos (keywordEach kws X.env)).filterMap (·.1) = ks := by rfl)
    (hdb : (x == ("__debug__" : Str)) = false := by decide)
    (hpl : ((backTo pos (starEach [] X.env)).any (·.1) || (backToKw pos (keywordEach kws X.env)).any (·.1.isNone)) = false := by rfl) :
    PE X (.Call (.Name x p) [] kws pos) (tCallW sp (gV []) E tk) := by
  refine ⟨fun pins s σ H Q I h => wpAny_Call_Name_kw (ld_glob I hg hm ?_ hdb)⟩
  refine PySem.W.callWith_KW0 (h₀ := X.base) I.ok.mod.kin hk hall (thn (hkw.run pos pins s σ H _ I h) fun ws s2 z => ?_) hpl
  obtain ⟨zs, H2, I2, rz, q2⟩ := z
  refine ⟨I2.kIn, ?_⟩
  rw [hks]
  exact run_fnk F hr hb hx I2 .nil rz q2
end

/-! ### the law's call -/
theorem glaw {P : Program} {w : World} {K : PySem.W.Frag} {mg mb : Str → Option Value} {k : Nat} {fa a : Addr} {fd : FuncData} {x : Str} {sp : Sp} {s1 : Shared} {vs : List Value} {ns : List Int}
    (kx : K.In s1.heap) (hn : s1.heap.Ns mainGlobals mg) (hb : s1.heap.Ns builtinsNs mb) (hbb : ∀ x : Str, x ≠ "__name__" → mb x = bootBuiltins x) (hlim : s1.heap.NoLimit) (hgs : s1.gens = #[])
    (ha : s1.heap.get? a = some { cls := .type "list", data := .seq vs.toArray }) (hi : IntsAre vs ns) (hl : ns.length ≤ sizeLine) (hr : Room k callerA)
    (F : ∀ base : Heap, K.In base → base.Ns mainGlobals mg → FnG P w K mg base CX0 k fa fd [x] sp) (hbind : ∀ (s : Shared) (u : Value), BindsTo s fd ⟨[u], []⟩ [(x, u)])
    (hsp : ∀ H : Hp, SqL K H a (ns.map V.int) → sp [.ref a] H (fun v _ => v = .bl true) E0) :
    codeAny (model P w) callerA (.call (.ref fa) ⟨[.ref a], []⟩) (fun r s' => r = .ok (.ret (.bool true)) ∧ OldK s1.heap s'.heap ∧ s'.os = s1.os ∧ AllBare s'.gens) s1 := by
  have rv := vals_ints hi
  have nv := hi.length
  -- the abstract heap: the script, locked, unless the module itself holds it
  have main : ∀ H : Hp, (∀ b, H b = none ∨ (b = a ∧ H b = some (.frz { cls := .type "list", data := .seq vs.toArray } (.lst (ns.map V.int))))) → (H a ≠ none → K.lookup a = none) →
      SqL K H a (ns.map V.int) → HOk P w H s1.heap →
      codeAny (model P w) callerA (.call (.ref fa) ⟨[.ref a], []⟩) (fun r s' => r = .ok (.ret (.bool true)) ∧ OldK s1.heap s'.heap ∧ s'.os = s1.os ∧ AllBare s'.gens) s1 := by
    intro H hO hK hS hok
    have out : ∀ {b : Addr} {o : Obj}, s1.heap.get? b = some o → (b = a → H b = none) → (hidT s1.heap H).get? b = some o := fun {b o} e n => hidT_get e (by
      rcases hO b with z | ⟨z, _⟩
      · exact z
      · exact n z)
    have dct : ∀ {b : Addr} {m : Str → Option Value}, s1.heap.Ns b m → (hidT s1.heap H).Ns b m := fun {b m} ⟨o, es, ep, e, d, r⟩ => ⟨o, es, ep, out e (fun z => by
      subst z
      rw [ha] at e
      cases e
      cases (show Data.seq vs.toArray _ = Data.dict es ep from d)), d, r⟩
    have kb : K.In (hidT s1.heap H) := fun b o e => out (kx b o e) fun z => by
      subst z
      cases q : H b with
      | none => rfl
      | some u =>
        rw [hK (by rw [q]; exact fun z => nomatch z)] at e
        cases e
    have md : Mod K mg (hidT s1.heap H) := ⟨kb, dct hn, ⟨mb, dct hb, hbb⟩, let ⟨mc, h1, h2⟩ := hlim; ⟨mc, dct h1, h2⟩⟩
    have en : Env0 P w K mg (hidT s1.heap H) callerA [] s1 H := ⟨rfl, md, fun b o e => of_hidT e, Nat.le_of_eq (hidT_size _ _), trivial, fun b z => (List.not_mem_nil z).elim, hok, .of_eq hgs⟩
    refine codeAny_mono ((F _ kb (dct hn)).go callerA [] s1 H ⟨[.ref a], []⟩ [.ref a] [.ref a] _ _ rfl hr en (hbind s1 (.ref a)) (.cons rfl .nil) (hsp H hS)) fun r s' h => ?_
    cases r with
    | error e => exact False.elim h
    | ok fl =>
      cases fl with
      | next => exact False.elim h
      | brk => exact False.elim h
      | cont => exact False.elim h
      | ret u =>
        obtain ⟨v, H', os, br, un, ok', r', q⟩ := h
        cases (show v = .bl true from q)
        cases (show u = Value.bool true from r')
        refine ⟨rfl, OldK.of_keep fun b o e => ?_, os, br⟩
        rcases hO b with z | ⟨_, z⟩
        · exact un.keep b o e z (fun z => (List.not_mem_nil z).elim) (fun z => (List.not_mem_nil z).elim)
        · have e1 := (hok b _ z).1
          have e2 := (ok' b _ (un.frzs b _ _ z)).1
          rw [e] at e1
          cases e1
          exact e2
  cases hk : K.lookup a with
  | some o =>
    have e := kx a o hk
    rw [ha] at e
    cases e
    refine main (fun _ => none) (fun _ => .inl rfl) (fun z => absurd rfl z) (.inr ⟨_, vs.toArray, _, hk, rfl, rfl, rfl, ?_, ?_⟩) fun b u z => nomatch (show (none : Option HO) = some u from z)
    · rw [List.size_toArray, nv]
      exact hl
    · simpa using rv
  | none =>
    refine main (fun b => if b = a then some (.frz { cls := .type "list", data := .seq vs.toArray } (.lst (ns.map V.int))) else none) (fun b => ?_) (fun _ => hk) (.inl (.inr ⟨{ cls := .type "list", data := .seq vs.toArray }, if_pos rfl⟩)) (fun b u z => ?_)
    · by_cases q : b = a
      · exact .inr ⟨q, if_pos q⟩
      · exact .inl (if_neg q)
    · by_cases q : b = a
      · have z2 := (if_pos q).symm.trans z
        cases z2
        subst q
        exact ⟨ha, by rw [List.length_map]; exact hl, vs, _, rv, ha⟩
      · have z2 := (if_neg q).symm.trans z
        cases z2
theorem gwalk {l : PySem.W.OpenLaw} {n k : Nat} {q : Program} {lo : List Str} {XP : (Str → Option Value) → Heap → Prop} {YP : World → Heap → Prop} {d : DefRec} {K : Params → PySem.W.Frag} {sp : PySem.W.Frag → Sp} {x : Str}
    (hn : l.most = some n) (hn2 : n ≤ sizeLine) (hdf : d.params.defaults = []) (hr : Room k callerA) (hY : ∀ (w : World) (h : Heap), YP w h → (K w.params).In h)
    (F : ∀ (w : World) (mg : Str → Option Value) (fa : Addr) (h : Heap), (K w.params).In h → h.Ns mainGlobals mg → mg d.name = some (.ref fa) →
      ∃ fd : FuncData, (∀ (s : Shared) (u : Value), BindsTo s fd ⟨[u], []⟩ [(x, u)]) ∧
        ∀ base : Heap, (K w.params).In base → base.Ns mainGlobals mg → FnG l.prog w (K w.params) mg base CX0 k fa fd [x] (sp (K w.params)))
    (hsp : ∀ (K : PySem.W.Frag) (H : Hp) (a : Addr) (ns : List Int), ns.length ≤ n → SqL K H a (ns.map V.int) → sp K [.ref a] H (fun v _ => v = .bl true) E0) :
    PySem.W.WalkO q lo XP YP l.row.toRowW d [] (fun f vs => PySem.call f vs) := by
  refine Att.attach_call hn hdf fun w s₀ s₁ mg mb fa o pm cd doc a vs ns G Y ho hd hcd hmg hobj hints hlen hg => ?_
  have kx := hY w _ Y
  obtain ⟨fd, hb, hF⟩ := F w mg fa _ kx G.T.g hmg
  exact glaw kx G.T.g G.T.b G.T.builtins G.T.nolimit hg hobj hints (Nat.le_trans hlen hn2) hr hF hb fun H hS => hsp (K w.params) H a ns hlen hS

/-! ### repr of data -/
def rRepr (K : PySem.W.Frag) : List V → Hp → VK → Prop := fun xs H Q => ∃ (a : Addr) (d : PyData), xs = [.ref a] ∧ Dp K H (.ref a) d ∧ d.showable = true ∧ d.hasDict = false ∧ d.depth ≤ 32 ∧ d.shown.length ≤ sizeLine ∧ Q (.str d.shown) H
theorem call_repr {X : Cx} (hA : X.A.guards = some []) {k : Nat} (hr : Room k X.A) : CallR X (.builtin "repr") (rRepr X.K) := by
  intro pins s σ H xs us Q I r h
  obtain ⟨a, d, rfl, hd, h1, h2, h3, h4, q⟩ := h
  cases r with
  | cons r1 r2 =>
    cases r2
    cases r1
    obtain ⟨as, rd⟩ := Dp.reads I d _ _ hd rfl
    have hu := hr.units
    refine repr_of_reads' rd h1 (fun z => by rw [h2] at z; cases z) hA (by omega) (fun _ _ e => e) (fun h' u tk kp => ?_) h4
    exact ⟨.str d.shown, H, I.kept (t' := tk) kp, ⟨u, rfl⟩, q⟩

/-- repr of any data -/
def rReprV (K : PySem.W.Frag) : List V → Hp → VK → Prop := fun xs H Q => ∃ (x : V) (d : PyData), xs = [x] ∧ Dp K H x d ∧ d.showable = true ∧ d.hasDict = false ∧ d.depth ≤ 32 ∧ d.shown.length ≤ sizeLine ∧ Q (.str d.shown) H
theorem reprV {X : Cx} {K : PySem.W.Frag} (hK : X.K = K) (hA : X.A.guards = some []) {k : Nat} (hr : Room k X.A) : CallR X (.builtin "repr") (rReprV K) := by
  subst hK
  intro pins s σ H xs us Q I r h
  obtain ⟨x, d, rfl, hd, h1, h2, h3, h4, q⟩ := h
  have ref : ∀ a : Addr, x = .ref a → wpAny (model X.prog X.w) X.A (call (.builtin "repr") us) (EP X pins σ Q) X.xe s := fun a e => by
    subst e
    exact call_repr hA hr pins s σ H _ us Q I r ⟨a, d, rfl, hd, h1, h2, h3, h4, q⟩
  cases hd with
  | lst _ _ => exact ref _ rfl
  | tup _ _ => exact ref _ rfl
  | non =>
    cases r with
    | cons r1 r2 =>
      cases r2
      cases r1
      exact PySem.P.repr_of_none ⟨.str (PyData.shown .none), H, I.tok _, ⟨_, rfl⟩, q⟩
  | bl b =>
    cases r with
    | cons r1 r2 =>
      cases r2
      cases r1
      cases b with
      | true => exact PySem.P.repr_of_bool ⟨.str (PyData.shown (.bool true)), H, I.tok _, ⟨_, rfl⟩, q⟩
      | false => exact PySem.P.repr_of_bool ⟨.str (PyData.shown (.bool false)), H, I.tok _, ⟨_, rfl⟩, q⟩
  | int i =>
    cases r with
    | cons r1 r2 =>
      cases r2
      obtain ⟨t, rfl⟩ := r1
      have z : i.natAbs.log2 < 1920 := by
        simp only [PyData.showable] at h1
        exact of_decide_eq_true h1
      exact PySem.P.repr_of_int z ⟨.str (PyData.shown (.int i)), H, I.tok _, ⟨_, rfl⟩, q⟩
  | str y =>
    cases r with
    | cons r1 r2 =>
      cases r2
      obtain ⟨t, rfl⟩ := r1
      exact PySem.P.repr_of_str ⟨.str (PyData.shown (.str y)), H, I.tok _, ⟨_, rfl⟩, q⟩ h4

/-! ### a statement, then the rest by a word between them -/
def tMid (t u : TS) : TS := fun D σ H => ∃ M : L2.St → Hp → Prop, t { D with nx := M } σ H ∧ ∀ σ' H', M σ' H' → u D σ' H'
theorem pss_mid {X : Cx} {st : Stmt} {rs : List Stmt} {t u : TS} (h1 : PS X st t) (h2 : PSs X rs u) : PSs X (st :: rs) (tMid t u) :=
  ⟨fun pins s σ H D I ⟨M, hm, hu⟩ => wpAny_execs_cons (thn (h1.run pins s σ H { D with nx := M } I hm) fun f s1 q => by
    cases f with
    | next => exact q.elim fun σ' ⟨H', I', z⟩ => h2.run pins s1 σ' H' D I' (hu σ' H' z)
    | ret v => exact q
    | brk => exact q
    | cont => exact q)⟩

/-! ### rules with the written part named (for blocks of comprehensions) -/
theorem ixL {X : Cx} {K : PySem.W.Frag} (h : X.K = K) : IxR X (rIxL K) := h ▸ ix_list
theorem slL {X : Cx} {K : PySem.W.Frag} (h : X.K = K) : SlR X (rSlL K) := h ▸ sl_list
def rLenL (K : PySem.W.Frag) : List V → Hp → VK → Prop := fun xs H Q => ∃ (p : Addr) (ys : List V), xs = [.ref p] ∧ (SqL K H p ys ∨ SqT K H p ys) ∧ Q (.int ys.length) H
theorem lenL {X : Cx} {K : PySem.W.Frag} (h : X.K = K) : CallR X (.builtin "len") (rLenL K) := h ▸ call_len_seq
theorem sumL {X : Cx} {K : PySem.W.Frag} (h : X.K = K) (hc : X.calm = true) : CallR X (.builtin "sum") (rSum K) := h ▸ cr_sum hc
theorem maxL {X : Cx} {K : PySem.W.Frag} (h : X.K = K) (hc : X.calm = true) : CallR X (.builtin "max") (rMax K) := h ▸ cr_max hc
theorem minL {X : Cx} {K : PySem.W.Frag} (h : X.K = K) (hc : X.calm = true) : CallR X (.builtin "min") (rMin K) := h ▸ cr_min hc
theorem isiL {X : Cx} {K : PySem.W.Frag} (h : X.K = K) : CallR X (.builtin "isinstance") (rIsi K) := h ▸ call_isi
theorem reprL {X : Cx} {K : PySem.W.Frag} (h : X.K = K) (hA : X.A.guards = some []) {k : Nat} (hr : Room k X.A) : CallR X (.builtin "repr") (rRepr K) := h ▸ call_repr hA hr
theorem pg_tupL {X : Cx} {K : PySem.W.Frag} {es : List Expr} {j : Nat} {pos : Pos} {t : TGs} {n : Nat} (h : X.K = K) (hc : X.calm = true) (hs : PGs X es t)
    (hn : (assignEach es X.env).length = n := by rfl) (hst : (assignEach es X.env).findIdx? (·.1) = none := by rfl) : PG X (.Tuple es j pos) (gTup K n t) := h ▸ pg_tup hc hs hn hst
theorem enumL {X : Cx} {K : PySem.W.Frag} {elts : List Expr} {kk : Nat} {tpos p pos : Pos} {e : Expr} {ta : TA} (h : X.K = K) (hg : Gl X "enumerate") (hm : X.mg "enumerate" = none) (ha : PA X [e] ta)
    (hs : starEach [e] X.env = [(false, eval e X.env)] := by rfl) : PI X (.Tuple elts kk tpos) (.Call (.Name "enumerate" p) [e] [] pos) (iEnum K ta) := h ▸ pi_enum hg hm ha hs
theorem zipL {X : Cx} {K : PySem.W.Frag} {elts : List Expr} {kk : Nat} {tpos p pos : Pos} {e e2 : Expr} {ta : TA} (h : X.K = K) (hg : Gl X "zip") (hm : X.mg "zip" = none) (ha : PA X [e, e2] ta)
    (hs : starEach [e, e2] X.env = (false, eval e X.env) :: starEach [e2] X.env := by rfl) (hpl : (backTo pos (starEach [e2] X.env)).any (·.1) = false := by rfl) :
    PI X (.Tuple elts kk tpos) (.Call (.Name "zip" p) [e, e2] [] pos) (iZip K ta) := h ▸ pi_zip hg hm ha hs hpl
theorem pi_tupL {X : Cx} {K : PySem.W.Frag} {tg l : Expr} {tl : TE} (h : X.K = K) (hl : PE X l tl) : PI X tg l (iTup K tl) := h ▸ pi_tup hl
theorem pi_listL {X : Cx} {K : PySem.W.Frag} {tg l : Expr} {tl : TE} (h : X.K = K) (hl : PE X l tl) : PI X tg l (iList K tl) := h ▸ pi_list hl
def rListL (K : PySem.W.Frag) : List V → Hp → VK → Prop := fun xs H Q => ∃ (p : Addr) (ys : List V), xs = [.ref p] ∧ (SqL K H p ys ∨ SqT K H p ys) ∧ ∀ l, H l = none → Q (.ref l) (upd H l (.lst ys))
theorem listL {X : Cx} {K : PySem.W.Frag} (h : X.K = K) : CallR X (.type "list") (rListL K) := h ▸ call_list_of
theorem eqD {X : Cx} {K : PySem.W.Frag} (h : X.K = K) {k : Nat} (hr : Room k X.A) : OpR X (compareOp .Eq) (rEqD K) := h ▸ op_eqD hr.units
theorem neD {X : Cx} {K : PySem.W.Frag} (h : X.K = K) {k : Nat} (hr : Room k X.A) : OpR X (compareOp .NotEq) (rNeD K) := h ▸ op_neD hr.units

/-! ### a power of a great int, the exponent small -/
def CPow3 (i j : Int) : Prop := j = 3 ∧ 0 ≤ i ∧ i.natAbs < 2 ^ 200
theorem op_pow3 {X : Cx} : OpR X (binaryOp .Pow) (rI CPow3 fun i j => .int (i ^ j.toNat)) := opI fun i j t u s Q E hc q => by
  obtain ⟨rfl, h0, h1⟩ := hc
  by_cases e : (i == 0 || i == 1) = true
  · refine PySem.AutoIntOps.pow_1 (by decide) (by decide) e ?_
    have e2 : i ^ (3 : Int).toNat = i := by
      rcases (Bool.or_eq_true _ _).mp e with z | z
      · rw [eq_of_beq z]; rfl
      · rw [eq_of_beq z]; rfl
    rw [e2] at q
    exact q
  · refine PySem.AutoIntOps.pow_4 (by decide) (by decide) e ?_ ?_ q
    · intro z
      have := eq_of_beq z
      omega
    · intro z
      unfold Builtin.Int.intTooBig at z
      have z3 := of_decide_eq_true z
      have b : Builtin.Int.intBits i ≤ 201 := by
        unfold Builtin.Int.intBits
        have y := PySem.Flt.log2_lt_of (show 0 < 200 by decide) h1
        split <;> omega
      have e : bitsLine = 134217728 := by decide
      rw [e] at z3
      omega
end Sd

namespace Sd
open PySem PySem.Spec PyProof.Rows L2

/-! ### heaps -/
/-- all but T is as it was -/
def But (T : Addr) (H H' : Hp) : Prop := ∀ b o, H b = some o → b ≠ T → H' b = some o
theorem But.refl (T : Addr) (H : Hp) : But T H H := fun _ _ h _ => h
theorem But.trans {T : Addr} {H H1 H2 : Hp} (a : But T H H1) (b : But T H1 H2) : But T H H2 := fun c o h n => b c o (a c o h n) n
theorem But.of {T : Addr} {H H' : Hp} (s : Same H H') : But T H H' := fun b o h _ => s b o h
theorem But.lst {T : Addr} {H H' : Hp} {a : Addr} {o : HO} (s : But T H H') (h : H a = some o) (n : a ≠ T) : H' a = some o := s a o h n
theorem new_same {H : Hp} {p : Addr} {o : HO} (h : H p = none) : Same H (upd H p o) := fun b x e => by
  rw [upd_ne (ne_of_none e h)]
  exact e
theorem upd_but {H : Hp} {T : Addr} {o : HO} : But T H (upd H T o) := fun b x e n => by
  rw [upd_ne n]
  exact e
theorem free_but {T : Addr} {H H' : Hp} {p : Addr} {o : HO} (s : But T H H') (hT : H T = some o) (h : H' p = none) (hT' : H' T ≠ none) : H p = none := by
  cases q : H p with
  | none => rfl
  | some u =>
    by_cases e : p = T
    · subst e
      exact absurd h hT'
    · rw [s p u q e] at h
      cases h
/-- the law's tank -/
def Tank (H : Hp) (T : Addr) (c : Int) : Prop := ∃ x y z : Int, H T = some (.lst [.int x, .int y, .int z]) ∧ 0 ≤ x ∧ 0 ≤ y ∧ y < 2 ^ 100 ∧ 0 ≤ z ∧ z ≤ c
theorem Tank.some {H : Hp} {T : Addr} {c : Int} (h : Tank H T c) : ∃ o, H T = some o := let ⟨_, _, _, e, _⟩ := h; ⟨_, e⟩
theorem Tank.same {H H' : Hp} {T : Addr} {c : Int} (h : Tank H T c) (s : Same H H') : Tank H' T c := let ⟨x, y, z, e, r⟩ := h; ⟨x, y, z, s _ _ e, r⟩
theorem Tank.ne {H : Hp} {T p : Addr} {c : Int} (h : Tank H T c) (n : H p = none) : p ≠ T := fun e => by
  obtain ⟨o, q⟩ := h.some
  rw [e, q] at n
  cases n
theorem Tank.up {H : Hp} {T p : Addr} {c : Int} {o : HO} (h : Tank H T c) (n : H p = none) : Tank (upd H p o) T c := h.same (new_same n)
theorem Tank.mono {H : Hp} {T : Addr} {c d : Int} (h : Tank H T c) (l : c ≤ d) : Tank H T d := let ⟨x, y, z, e, a, b, r, f, g⟩ := h; ⟨x, y, z, e, a, b, r, f, by omega⟩

/-! ### lists of ints -/
theorem tyx_list {K : PySem.W.Frag} {H : Hp} {a : Addr} {xs : List V} (h : SqL K H a xs) : TyX K H (.ref a) (.type "list") := by
  rcases h with (h | ⟨o, h⟩) | ⟨o, its, n, hk, hc, _⟩
  · exact .base (.lst h)
  · exact .base (.frz h)
  · exact .kList hk hc
theorem kit_int_int {K : PySem.W.Frag} : PySem.W.kitOne K (.type "int") (.type "int") = some true := kit_ty (by decide +kernel)
theorem kit_int_bool {K : PySem.W.Frag} : PySem.W.kitOne K (.type "int") (.type "bool") = some false := kit_ty (by decide +kernel)
theorem kit_list_list {K : PySem.W.Frag} : PySem.W.kitOne K (.type "list") (.type "list") = some true := kit_ty (by decide +kernel)
/-- a rim: from 1 to 40 numbers from 0 to 10 ** 30 -/
structure Rim (ns : List Int) : Prop where
  pos : 1 ≤ ns.length
  le : ns.length ≤ 40
  all : ∀ n ∈ ns, 0 ≤ n ∧ n ≤ 1000000000000000000000000000000
theorem sz40 {n : Nat} (h : n ≤ 100000) : n < sizeLine := Nat.lt_of_le_of_lt h (by decide)
theorem sz40' {n : Nat} (h : n ≤ 100000) : n ≤ sizeLine := Nat.le_of_lt (sz40 h)
theorem int_at {ns : List Int} {i : Nat} {x : V} (h : (ns.map V.int)[i]? = some x) : ∃ n, ns[i]? = some n ∧ x = .int n := by
  rw [List.getElem?_map] at h
  cases e : ns[i]? with
  | none =>
    rw [e] at h
    cases h
  | some n =>
    rw [e] at h
    exact ⟨n, rfl, (Option.some.inj h).symm⟩
theorem at_int {ns : List Int} {i : Nat} {n : Int} (h : ns[i]? = some n) : (ns.map V.int)[i]? = some (.int n) := by
  rw [List.getElem?_map, h]
  rfl
/-- xs[i] at an int that lies within -/
theorem at_in {ns : List Int} {i : Int} (h0 : 0 ≤ i) (h1 : i < ns.length) : ∃ n, ns[i.toNat]? = some n ∧ atI (ns.map V.int) i = some (.int n) := by
  have h2 : i.toNat < ns.length := by omega
  obtain ⟨j, rfl⟩ : ∃ j : Nat, i = (j : Int) := ⟨i.toNat, by omega⟩
  have h3 : j < ns.length := by omega
  exact ⟨ns[j], List.getElem?_eq_getElem h3, atI_nat (at_int (List.getElem?_eq_getElem h3))⟩
theorem ixN_in {n : Nat} {i : Int} (h0 : 0 ≤ i) (h1 : i < n) : ixN n i = some i.toNat := by
  unfold ixN
  rw [if_pos h0, if_pos h1]

/-! ### turning, mirroring -/
/-- what stands at slot j behind a turn by t -/
def rot (ns : List Int) (t : Int) : List Int := (List.range ns.length).map fun (j : Nat) => ns.getD ((((j : Int) - t) % (ns.length : Int)).toNat) 0
def mir (ns : List Int) : List Int := (List.range ns.length).map fun (j : Nat) => ns.getD (((-(j : Int)) % (ns.length : Int)).toNat) 0
theorem rot_len (ns : List Int) (t : Int) : (rot ns t).length = ns.length := by
  unfold rot
  rw [List.length_map, List.length_range]
theorem mir_len (ns : List Int) : (mir ns).length = ns.length := by
  unfold mir
  rw [List.length_map, List.length_range]
theorem rot_at {ns : List Int} {t : Int} {j : Nat} (h : j < ns.length) : (rot ns t)[j]? = some (ns.getD ((((j : Int) - t) % (ns.length : Int)).toNat) 0) := by
  unfold rot
  rw [List.getElem?_map, List.getElem?_range h]
  rfl
theorem mir_at {ns : List Int} {j : Nat} (h : j < ns.length) : (mir ns)[j]? = some (ns.getD (((-(j : Int)) % (ns.length : Int)).toNat) 0) := by
  unfold mir
  rw [List.getElem?_map, List.getElem?_range h]
  rfl
theorem mod_in {i : Int} {n : Nat} (h : 0 < n) : 0 ≤ i % (n : Int) ∧ i % (n : Int) < n := ⟨Int.emod_nonneg _ (by omega), Int.emod_lt_of_pos _ (by omega)⟩
theorem getD_at {ns : List Int} {j : Nat} {n : Int} (h : ns[j]? = some n) : ns.getD j 0 = n := by
  rw [List.getD_eq_getElem?_getD, h]
  rfl
theorem at_getD {ns : List Int} {j : Nat} (h : j < ns.length) : ns[j]? = some (ns.getD j 0) := by
  rw [List.getD_eq_getElem?_getD, List.getElem?_eq_getElem h]
  rfl
theorem rot_all {ns : List Int} {t : Int} {P : Int → Prop} (h : ∀ n ∈ ns, P n) : ∀ n ∈ rot ns t, P n := fun n hn => by
  unfold rot at hn
  obtain ⟨j, hj, rfl⟩ := List.mem_map.mp hn
  have hj := List.mem_range.mp hj
  have hm := mod_in (i := (j : Int) - t) (show 0 < ns.length by omega)
  exact h _ (List.mem_of_getElem? (at_getD (show (((j : Int) - t) % (ns.length : Int)).toNat < ns.length by omega)))
theorem mir_all {ns : List Int} {P : Int → Prop} (h : ∀ n ∈ ns, P n) : ∀ n ∈ mir ns, P n := fun n hn => by
  unfold mir at hn
  obtain ⟨j, hj, rfl⟩ := List.mem_map.mp hn
  have hj := List.mem_range.mp hj
  have hm := mod_in (i := -(j : Int)) (show 0 < ns.length by omega)
  exact h _ (List.mem_of_getElem? (at_getD (show ((-(j : Int)) % (ns.length : Int)).toNat < ns.length by omega)))
theorem Rim.rot {ns : List Int} (h : Rim ns) (t : Int) : Rim (rot ns t) := ⟨by rw [rot_len]; exact h.pos, by rw [rot_len]; exact h.le, rot_all h.all⟩
theorem Rim.mir {ns : List Int} (h : Rim ns) : Rim (mir ns) := ⟨by rw [mir_len]; exact h.pos, by rw [mir_len]; exact h.le, mir_all h.all⟩
/-- filling slot by slot: found[(i + t) % n] = ns[i] for i below k leaves rot where it was filled -/
theorem rot_back {ns : List Int} {t : Int} {i : Nat} (hi : i < ns.length) : (rot ns t)[((((i : Int) + t) % (ns.length : Int)).toNat)]? = ns[i]? := by
  have hm := mod_in (i := (i : Int) + t) (show 0 < ns.length by omega)
  rw [rot_at (by omega), at_getD hi]
  have e : ((((((i : Int) + t) % (ns.length : Int)).toNat : Nat) : Int) - t) % (ns.length : Int) = (i : Int) := by
    rw [Int.toNat_of_nonneg hm.1, Int.emod_sub_emod]
    rw [show (i : Int) + t - t = (i : Int) by omega]
    exact Int.emod_eq_of_lt (by omega) (by omega)
  rw [e, Int.toNat_natCast]
theorem mir_back {ns : List Int} {i : Nat} (hi : i < ns.length) : (mir ns)[((((0 : Int) - (i : Int)) % (ns.length : Int)).toNat)]? = ns[i]? := by
  have hm := mod_in (i := (0 : Int) - (i : Int)) (show 0 < ns.length by omega)
  rw [mir_at (by omega), at_getD hi]
  have e : (-((((((0 : Int) - (i : Int)) % (ns.length : Int)).toNat : Nat) : Int))) % (ns.length : Int) = (i : Int) := by
    rw [Int.toNat_of_nonneg hm.1]
    rw [show -(((0 : Int) - (i : Int)) % (ns.length : Int)) = 0 - ((0 : Int) - (i : Int)) % (ns.length : Int) by omega, Int.sub_emod_emod]
    rw [show (0 : Int) - (0 - (i : Int)) = (i : Int) by omega]
    exact Int.emod_eq_of_lt (by omega) (by omega)
  rw [e, Int.toNat_natCast]
/-- filled at the places f 0, f 1 .. f (k - 1) as res is -/
def Filled (f : Nat → Nat) (res ms : List Int) (k : Nat) : Prop := ms.length = res.length ∧ ∀ p, (∃ j, j < k ∧ f j = p) → ms[p]? = res[p]?
theorem Filled.step {f : Nat → Nat} {res ms : List Int} {k : Nat} {v : Int} (h : Filled f res ms k) (e : res[f k]? = some v) : Filled f res (ms.set (f k) v) (k + 1) := by
  refine ⟨by rw [List.length_set]; exact h.1, fun p ⟨j, hj, hp⟩ => ?_⟩
  have hk : f k < ms.length := by
    rw [h.1]
    exact (List.getElem?_eq_some_iff.mp e).1
  by_cases q : f k = p
  · subst q
    rw [List.getElem?_set_self hk, e]
  · rw [List.getElem?_set_ne q]
    refine h.2 p ⟨j, ?_, hp⟩
    rcases Nat.lt_or_ge j k with z | z
    · exact z
    · have : j = k := by omega
      subst this
      exact absurd hp q
theorem Filled.done {f : Nat → Nat} {res ms : List Int} {n : Nat} (h : Filled f res ms n) (on : ∀ p, p < res.length → ∃ j, j < n ∧ f j = p) : ms = res := by
  refine List.ext_getElem? fun p => ?_
  by_cases q : p < res.length
  · exact h.2 p (on p q)
  · rw [List.getElem?_eq_none (by rw [h.1]; omega), List.getElem?_eq_none (by omega)]
theorem rot_on {ns : List Int} {t : Int} {p : Nat} (hp : p < ns.length) : ∃ j, j < ns.length ∧ (((j : Int) + t) % (ns.length : Int)).toNat = p := by
  have hm := mod_in (i := (p : Int) - t) (show 0 < ns.length by omega)
  refine ⟨(((p : Int) - t) % (ns.length : Int)).toNat, by omega, ?_⟩
  have e : ((((((p : Int) - t) % (ns.length : Int)).toNat : Nat) : Int) + t) % (ns.length : Int) = (p : Int) := by
    rw [Int.toNat_of_nonneg hm.1, Int.emod_add_emod]
    rw [show (p : Int) - t + t = (p : Int) by omega]
    exact Int.emod_eq_of_lt (by omega) (by omega)
  rw [e, Int.toNat_natCast]
theorem mir_on {ns : List Int} {p : Nat} (hp : p < ns.length) : ∃ j, j < ns.length ∧ (((0 : Int) - (j : Int)) % (ns.length : Int)).toNat = p := by
  have hm := mod_in (i := (0 : Int) - (p : Int)) (show 0 < ns.length by omega)
  refine ⟨(((0 : Int) - (p : Int)) % (ns.length : Int)).toNat, by omega, ?_⟩
  have e : ((0 : Int) - (((((0 : Int) - (p : Int)) % (ns.length : Int)).toNat : Nat) : Int)) % (ns.length : Int) = (p : Int) := by
    rw [Int.toNat_of_nonneg hm.1, Int.sub_emod_emod]
    rw [show (0 : Int) - (0 - (p : Int)) = (p : Int) by omega]
    exact Int.emod_eq_of_lt (by omega) (by omega)
  rw [e, Int.toNat_natCast]
theorem map_set {ns : List Int} {j : Nat} {v : Int} : (ns.map V.int).set j (.int v) = (ns.set j v).map V.int := by
  rw [List.map_set]
theorem take_next {l : List Int} {i : Nat} {v : Int} (h : l[i]? = some v) : (l.take i).map V.int ++ [.int v] = (l.take (i + 1)).map V.int := by
  rw [List.take_add_one, h, List.map_append]
  rfl
theorem take_all {l : List Int} {n : Nat} (h : l.length ≤ n) : l.take n = l := List.take_of_length_le h
theorem rep_one (v : Int) : ∀ k : Nat, (List.replicate k [V.int v]).flatten = (List.replicate k v).map V.int
  | 0 => rfl
  | k + 1 => by
    rw [List.replicate_succ, List.replicate_succ, List.flatten_cons, List.map_cons, rep_one v k]
    rfl
theorem rep_map (ns : List Int) : ∀ k : Nat, (List.replicate k (ns.map V.int)).flatten = ((List.replicate k ns).flatten).map V.int
  | 0 => rfl
  | k + 1 => by
    rw [List.replicate_succ, List.replicate_succ, List.flatten_cons, List.flatten_cons, List.map_append, rep_map ns k]
theorem rep_len (ns : List Int) : ∀ k : Nat, ((List.replicate k ns).flatten).length = k * ns.length
  | 0 => by simp
  | k + 1 => by
    rw [List.replicate_succ, List.flatten_cons, List.length_append, rep_len ns k, Nat.succ_mul, Nat.add_comm]
theorem rep_mem {ns : List Int} {k : Nat} {x : Int} (h : x ∈ (List.replicate k ns).flatten) : x ∈ ns := by
  obtain ⟨l, hl, hx⟩ := List.mem_flatten.mp h
  rw [(List.mem_replicate.mp hl).2] at hx
  exact hx
theorem cut_take (ns : List Int) (s : Int) (h0 : 0 ≤ s) : cutV (ns.map V.int) none (some s) = (ns.take s.toNat).map V.int := by
  obtain ⟨k, rfl⟩ : ∃ k : Nat, s = (k : Int) := ⟨s.toNat, by omega⟩
  unfold cutV
  rw [HT.sIx_none, HT.sIx_nat, Int.toNat_natCast, List.drop_zero, Nat.sub_zero, List.map_take]
  rcases Nat.le_total k (ns.map V.int).length with z | z
  · rw [Nat.min_eq_left z]
  · rw [Nat.min_eq_right z, List.take_of_length_le (Nat.le_refl _), List.take_of_length_le z]

/-! ### data: lists of ints, for repr and == -/
def dI (ns : List Int) : PyData := .list (ns.map PyData.int)
theorem dpAll_ints {K : PySem.W.Frag} {H : Hp} : ∀ ns : List Int, DpAll K H (ns.map V.int) (ns.map PyData.int)
  | [] => .nil
  | n :: ns => .cons (.int n) (dpAll_ints ns)
theorem dp_ints {K : PySem.W.Frag} {H : Hp} {a : Addr} {ns : List Int} (h : SqL K H a (ns.map V.int)) : Dp K H (.ref a) (dI ns) := .lst h (dpAll_ints ns)
/-- what repr and == ask of data -/
structure RP (d : PyData) : Prop where
  sh : d.showable = true
  nd : d.hasDict = false
  cl : d.canLay0 = true
  dp : d.depth ≤ 32
theorem RP.shaped {d : PyData} (h : RP d) : SeqAt.shaped d = true := by
  have := h.dp
  exact Bool.and_eq_true_iff.mpr ⟨h.cl, decide_eq_true (by omega)⟩
theorem RP.refl {d : PyData} (h : RP d) : PyData.eqv d d = true := SeqAt.eqv_refl d h.cl
theorem rp_int {i : Int} (h : i.natAbs < 2 ^ 1000) : RP (.int i) := ⟨by simp only [PyData.showable]; exact decide_eq_true (Nat.lt_trans (PySem.Flt.log2_lt_of (by decide) h) (by decide)), by simp only [PyData.hasDict], by simp only [PyData.canLay0], by simp only [PyData.depth]; omega⟩
/-- all of a list: depth one less -/
structure RPs (k : Nat) (ds : List PyData) : Prop where
  sh : PyData.showableAll ds = true
  nd : PyData.hasDictAll ds = false
  cl : PyData.canLayAll0 ds = true
  dp : PyData.depthAll ds ≤ k
theorem RPs.nil {k : Nat} : RPs k [] := ⟨by simp only [PyData.showableAll], by simp only [PyData.hasDictAll], by simp only [PyData.canLayAll0], by simp only [PyData.depthAll]; omega⟩
theorem RPs.cons {k : Nat} {d : PyData} {ds : List PyData} (h : RP d) (hk : d.depth ≤ k) (hs : RPs k ds) : RPs k (d :: ds) := by
  refine ⟨?_, ?_, ?_, ?_⟩
  · simp only [PyData.showableAll, h.sh, hs.sh, Bool.and_self]
  · simp only [PyData.hasDictAll, h.nd, hs.nd, Bool.or_self]
  · simp only [PyData.canLayAll0, h.cl, hs.cl, Bool.and_self]
  · simp only [PyData.depthAll]
    have := hs.dp
    omega
theorem RPs.list {k : Nat} {ds : List PyData} (h : RPs k ds) (hk : k ≤ 31) : RP (.list ds) ∧ (PyData.list ds).depth ≤ k + 1 := by
  have hd : (PyData.list ds).depth ≤ k + 1 := by
    simp only [PyData.depth]
    have := h.dp
    omega
  refine ⟨⟨?_, ?_, ?_, by omega⟩, hd⟩
  · simp only [PyData.showable, h.sh]
  · simp only [PyData.hasDict, h.nd]
  · simp only [PyData.canLay0, h.cl]
theorem rps_ints : ∀ {ns : List Int}, (∀ n ∈ ns, n.natAbs < 2 ^ 1000) → RPs 0 (ns.map PyData.int)
  | [], _ => RPs.nil
  | n :: ns, h => RPs.cons (rp_int (h n List.mem_cons_self)) (by simp only [PyData.depth]; omega) (rps_ints fun x hx => h x (List.mem_cons_of_mem _ hx))
theorem rp_ints {ns : List Int} (h : ∀ n ∈ ns, n.natAbs < 2 ^ 1000) : RP (dI ns) := ((rps_ints h).list (by omega)).1
theorem dp_ints_depth {ns : List Int} (h : ∀ n ∈ ns, n.natAbs < 2 ^ 1000) : (dI ns).depth ≤ 1 := ((rps_ints h).list (by omega)).2
theorem sum_bound {B : Nat} : ∀ {l : List Nat}, (∀ x ∈ l, x ≤ B) → l.sum ≤ B * l.length
  | [], _ => Nat.zero_le _
  | x :: l, h => by
    have h1 := h x List.mem_cons_self
    have h2 := sum_bound (B := B) (l := l) fun y hy => h y (List.mem_cons_of_mem _ hy)
    rw [List.sum_cons, List.length_cons, Nat.mul_succ]
    omega
theorem shownAll_map (ds : List PyData) : PyData.shownAll ds = ds.map PyData.shown := by
  induction ds with
  | nil => rfl
  | cons d ds ih =>
    simp only [PyData.shownAll, List.map_cons, ih]
/-- how long a list's text is at most, by its items' -/
theorem shown_list {B : Nat} {ds : List PyData} (h : ∀ d ∈ ds, d.shown.length ≤ B) : (PyData.list ds).shown.length ≤ (B + 2) * ds.length + 3 := by
  simp only [PyData.shown]
  have h1 := listText_len_le (PyData.shownAll ds)
  have h2 : ((PyData.shownAll ds).map (·.length)).sum ≤ B * ds.length := by
    rw [shownAll_map, List.map_map]
    have := sum_bound (B := B) (l := ds.map ((fun x => x.length) ∘ PyData.shown)) fun x hx => by
      obtain ⟨d, hd, rfl⟩ := List.mem_map.mp hx
      exact h d hd
    rw [List.length_map] at this
    exact this
  have h3 : (PyData.shownAll ds).length = ds.length := by rw [shownAll_map, List.length_map]
  rw [h3] at h1
  rw [Nat.add_mul]
  omega
theorem shown_int {i : Int} (h : i.natAbs < 2 ^ 1000) : (PyData.int i).shown.length ≤ 1001 := by
  simp only [PyData.shown]
  rw [PySem.ofString_length]
  exact int_text_length_le (by decide) (PySem.Flt.log2_lt_of (by decide) h)
theorem shown_ints {ns : List Int} (h : ∀ n ∈ ns, n.natAbs < 2 ^ 1000) : (dI ns).shown.length ≤ 1003 * ns.length + 3 := by
  have := shown_list (B := 1001) (ds := ns.map PyData.int) fun d hd => by
    obtain ⟨n, hn, rfl⟩ := List.mem_map.mp hd
    exact shown_int (h n hn)
  rw [List.length_map] at this
  exact this
theorem small_abs {n : Int} (h0 : 0 ≤ n) (h1 : n ≤ 1000000000000000000000000000000) : n.natAbs < 2 ^ 1000 := Nat.lt_of_le_of_lt (m := 1000000000000000000000000000000) (by omega) (by decide +kernel)
theorem Rim.abs {ns : List Int} (h : Rim ns) : ∀ n ∈ ns, n.natAbs < 2 ^ 1000 := fun n hn => small_abs (h.all n hn).1 (h.all n hn).2
theorem Rim.rp {ns : List Int} (h : Rim ns) : RP (dI ns) := rp_ints h.abs
theorem Rim.fits {ns : List Int} (h : Rim ns) : (dI ns).shown.length ≤ sizeLine := by
  have := shown_ints h.abs
  have := h.le
  exact sz40' (by omega)
/-- an object that was not there is written -/
theorem same_over {H H4 : Hp} {l : Addr} {o : HO} (s : Same H H4) (n : H l = none) : Same H (upd H4 l o) := fun b x e => by
  rw [upd_ne (ne_of_none e n)]
  exact s b x e
/-- turned back -/
theorem rot_rot {ns : List Int} {t : Int} : rot (rot ns t) (0 - t) = ns := by
  refine List.ext_getElem? fun j => ?_
  by_cases h : j < ns.length
  · rw [rot_at (by rw [rot_len]; exact h), rot_len]
    have hm := mod_in (i := (j : Int) - (0 - t)) (show 0 < ns.length by omega)
    have e := rot_back (t := t) h
    rw [show (j : Int) - (0 - t) = (j : Int) + t by omega]
    rw [show (j : Int) - (0 - t) = (j : Int) + t by omega] at hm
    rw [← e, ← at_getD (by rw [rot_len]; omega)]
  · rw [List.getElem?_eq_none (by rw [rot_len, rot_len]; omega), List.getElem?_eq_none (by omega)]
theorem mir_mir {ns : List Int} : mir (mir ns) = ns := by
  refine List.ext_getElem? fun j => ?_
  by_cases h : j < ns.length
  · rw [mir_at (by rw [mir_len]; exact h), mir_len]
    have hm := mod_in (i := (0 : Int) - (j : Int)) (show 0 < ns.length by omega)
    have e := mir_back h
    rw [show -(j : Int) = (0 : Int) - (j : Int) by omega]
    rw [← e, ← at_getD (by rw [mir_len]; omega)]
  · rw [List.getElem?_eq_none (by rw [mir_len, mir_len]; omega), List.getElem?_eq_none (by omega)]
end Sd

namespace Sd
open PySem PySem.Spec PyProof.Rows L2

/-! ### lights -/
def Ab (k : Nat) (ns : List Int) : Prop := ∀ n ∈ ns, n.natAbs < 2 ^ k
theorem pow_up {a b : Nat} (h : a ≤ b) : (2 : Nat) ^ a ≤ 2 ^ b := Nat.pow_le_pow_right (by decide) h
theorem Ab.mono {k j : Nat} {ns : List Int} (h : Ab k ns) (l : k ≤ j) : Ab j ns := fun n hn => Nat.lt_of_lt_of_le (h n hn) (pow_up l)
theorem Rim.ab {ns : List Int} (h : Rim ns) : Ab 100 ns := fun n hn => by
  have := h.all n hn
  exact Nat.lt_of_le_of_lt (m := 1000000000000000000000000000000) (by omega) (by decide +kernel)
theorem Ab.rot {k : Nat} {ns : List Int} (h : Ab k ns) (t : Int) : Ab k (rot ns t) := rot_all h
theorem Ab.at {k : Nat} {ns : List Int} (h : Ab k ns) {i : Nat} {n : Int} (e : ns[i]? = some n) : n.natAbs < 2 ^ k := h n (List.mem_of_getElem? e)
def prods (ns ms : List Int) : List Int := List.zipWith (· * ·) ns ms
theorem prods_len (ns ms : List Int) : (prods ns ms).length = min ns.length ms.length := List.length_zipWith
theorem prods_at {ns ms : List Int} {i : Nat} {x y : Int} (h1 : ns[i]? = some x) (h2 : ms[i]? = some y) : (prods ns ms)[i]? = some (x * y) := by
  unfold prods
  rw [List.getElem?_zipWith, h1, h2]
theorem prods_ab {a b : Nat} : ∀ {ns ms : List Int}, Ab a ns → Ab b ms → Ab (a + b) (prods ns ms)
  | [], _, _, _ => fun n hn => by
    simp only [prods, List.zipWith_nil_left] at hn
    exact (List.not_mem_nil hn).elim
  | _ :: _, [], _, _ => fun n hn => by
    simp only [prods, List.zipWith_nil_right] at hn
    exact (List.not_mem_nil hn).elim
  | x :: ns, y :: ms, h1, h2 => fun n hn => by
    have hn : n ∈ x * y :: prods ns ms := hn
    rcases List.mem_cons.mp hn with e | e
    · subst e
      exact wide_lt (h1 x List.mem_cons_self) (h2 y List.mem_cons_self)
    · exact prods_ab (fun z hz => h1 z (List.mem_cons_of_mem _ hz)) (fun z hz => h2 z (List.mem_cons_of_mem _ hz)) n e
theorem sum_ab {k : Nat} : ∀ {ns : List Int}, Ab k ns → ns.sum.natAbs ≤ ns.length * 2 ^ k
  | [], _ => Nat.zero_le _
  | x :: ns, h => by
    have h1 := h x List.mem_cons_self
    have h2 := sum_ab (k := k) (ns := ns) fun z hz => h z (List.mem_cons_of_mem _ hz)
    rw [List.sum_cons, List.length_cons, Nat.succ_mul]
    have := Int.natAbs_add_le x ns.sum
    omega
theorem sum_lt {k : Nat} {ns : List Int} (h : Ab k ns) (hl : ns.length < 1024) : ns.sum.natAbs < 2 ^ (k + 10) := by
  have h1 := sum_ab h
  rw [Nat.pow_add]
  refine Nat.lt_of_le_of_lt h1 ?_
  rw [Nat.mul_comm]
  exact Nat.mul_lt_mul_of_pos_left hl (Nat.two_pow_pos k)
/-- the light at a turn -/
def lightV (ns ms : List Int) (t : Int) : Int := (prods ns (rot ms t)).sum
def lightsV (ns ms : List Int) : List Int := (List.range ns.length).map fun (i : Nat) => lightV ns ms (i : Int)
theorem lightsV_len (ns ms : List Int) : (lightsV ns ms).length = ns.length := by
  unfold lightsV
  rw [List.length_map, List.length_range]
theorem lightsV_at {ns ms : List Int} {i : Nat} (h : i < ns.length) : (lightsV ns ms)[i]? = some (lightV ns ms (i : Int)) := by
  unfold lightsV
  rw [List.getElem?_map, List.getElem?_range h]
  rfl
theorem lightV_lt {a b : Nat} {ns ms : List Int} (h1 : Ab a ns) (h2 : Ab b ms) (hl : ns.length < 1024) (t : Int) : (lightV ns ms t).natAbs < 2 ^ (a + b + 10) := by
  refine sum_lt (prods_ab h1 (h2.rot t)) ?_
  rw [prods_len]
  omega
theorem lightsV_ab {a b : Nat} {ns ms : List Int} (h1 : Ab a ns) (h2 : Ab b ms) (hl : ns.length < 1024) : Ab (a + b + 10) (lightsV ns ms) := fun n hn => by
  unfold lightsV at hn
  obtain ⟨i, _, rfl⟩ := List.mem_map.mp hn
  exact lightV_lt h1 h2 hl i
theorem rot_mod (ms : List Int) (t : Int) : rot ms (t % (ms.length : Int)) = rot ms t := by
  unfold rot
  refine List.map_congr_left fun j _ => ?_
  rw [Int.sub_emod_emod]
theorem lightV_mod {ns ms : List Int} (t : Int) : lightV ns ms (t % (ms.length : Int)) = lightV ns ms t := by
  unfold lightV
  rw [rot_mod]
/-- lights[t % n], whatever the turn -/
theorem lights_any {ns ms : List Int} (t : Int) (hl : ns.length = ms.length) (h1 : 1 ≤ ns.length) : atI ((lightsV ns ms).map V.int) (t % (ns.length : Int)) = some (.int (lightV ns ms t)) := by
  have hm := mod_in (i := t) (show 0 < ns.length by omega)
  obtain ⟨n, hn, hat⟩ := at_in (ns := lightsV ns ms) hm.1 (by rw [lightsV_len]; exact hm.2)
  rw [lightsV_at (by omega), Int.toNat_of_nonneg hm.1, hl, lightV_mod] at hn
  rw [hat, ← Option.some.inj hn]
/-! ### the greatest, the places of some -/
theorem max_ex : ∀ {ns : List Int}, 1 ≤ ns.length → ∃ m, m ∈ ns ∧ ∀ y ∈ ns, y ≤ m
  | [], h => absurd h (by decide)
  | [x], _ => ⟨x, List.mem_cons_self, fun y hy => by rw [List.mem_singleton.mp hy]; exact Int.le_refl _⟩
  | x :: z :: ns, _ => by
    obtain ⟨m, hm, hg⟩ := max_ex (ns := z :: ns) (by simp)
    by_cases h : x ≤ m
    · refine ⟨m, List.mem_cons_of_mem _ hm, fun y hy => ?_⟩
      rcases List.mem_cons.mp hy with e | e
      · rw [e]
        exact h
      · exact hg y e
    · refine ⟨x, List.mem_cons_self, fun y hy => ?_⟩
      rcases List.mem_cons.mp hy with e | e
      · rw [e]
        exact Int.le_refl _
      · have := hg y e
        omega
theorem max_one {ns : List Int} {m m' : Int} (h1 : m ∈ ns) (h2 : ∀ y ∈ ns, y ≤ m) (h3 : m' ∈ ns) (h4 : ∀ y ∈ ns, y ≤ m') : m = m' := Int.le_antisymm (h4 _ h1) (h2 _ h3)
/-- the places below k of the items for which p holds -/
def places (p : Int → Bool) (ns : List Int) (k : Nat) : List Int := ((List.range k).filter fun i => p (ns.getD i 0)).map fun (i : Nat) => (i : Int)
theorem places_len (p : Int → Bool) (ns : List Int) (k : Nat) : (places p ns k).length ≤ k := by
  unfold places
  rw [List.length_map]
  refine Nat.le_trans (List.length_filter_le _ _) ?_
  rw [List.length_range]
  exact Nat.le_refl _
theorem places_yes {p : Int → Bool} {ns : List Int} {k : Nat} {n : Int} (h : ns[k]? = some n) (hp : p n = true) : places p ns (k + 1) = places p ns k ++ [(k : Int)] := by
  unfold places
  rw [List.range_succ, List.filter_append, List.map_append]
  have : ([k].filter fun i => p (ns.getD i 0)) = [k] := by
    rw [List.filter_cons, getD_at h, if_pos hp]
    rfl
  rw [this]
  rfl
theorem places_no {p : Int → Bool} {ns : List Int} {k : Nat} {n : Int} (h : ns[k]? = some n) (hp : ¬ p n = true) : places p ns (k + 1) = places p ns k := by
  unfold places
  rw [List.range_succ, List.filter_append, List.map_append]
  have : ([k].filter fun i => p (ns.getD i 0)) = [] := by
    rw [List.filter_cons, getD_at h, if_neg hp]
    rfl
  rw [this]
  simp
theorem places_ab (p : Int → Bool) (ns : List Int) {k : Nat} (h : k < 1000) : Ab 100 (places p ns k) := fun n hn => by
  unfold places at hn
  obtain ⟨i, hi, rfl⟩ := List.mem_map.mp hn
  have := List.mem_range.mp (List.mem_filter.mp hi).1
  exact Nat.lt_of_lt_of_le (m := 1000) (by omega) (by decide)
theorem Ab.rp {k : Nat} {ns : List Int} (h : Ab k ns) (hk : k ≤ 1000) : RP (dI ns) := rp_ints (h.mono hk)
theorem Ab.fits {k : Nat} {ns : List Int} (h : Ab k ns) (hk : k ≤ 1000) (hl : ns.length ≤ 2000) : (dI ns).shown.length ≤ 2100000 := by
  have := shown_ints (h.mono hk)
  omega
theorem fit_le {n : Nat} (h : n ≤ 16000000) : n ≤ sizeLine := Nat.le_trans h (by decide)
/-- some lists of ints, in a list -/
def dL (ls : List (List Int)) : PyData := .list (ls.map dI)
theorem rps_lists {k : Nat} (hk : k ≤ 1000) : ∀ {ls : List (List Int)}, (∀ l ∈ ls, Ab k l) → RPs 1 (ls.map dI)
  | [], _ => RPs.nil
  | l :: ls, h => RPs.cons ((h l List.mem_cons_self).rp hk) (dp_ints_depth ((h l List.mem_cons_self).mono hk)) (rps_lists hk fun x hx => h x (List.mem_cons_of_mem _ hx))
theorem rp_lists {k : Nat} (hk : k ≤ 1000) {ls : List (List Int)} (h : ∀ l ∈ ls, Ab k l) : RP (dL ls) := ((rps_lists hk h).list (by omega)).1
theorem fits_lists {k : Nat} (hk : k ≤ 1000) {ls : List (List Int)} (h : ∀ l ∈ ls, Ab k l) (hl : ∀ l ∈ ls, l.length ≤ 1000) (hn : ls.length ≤ 7) : (dL ls).shown.length ≤ sizeLine := by
  have h1 := shown_list (B := 2100000) (ds := ls.map dI) fun d hd => by
    obtain ⟨l, hm, rfl⟩ := List.mem_map.mp hd
    exact (h l hm).fits hk (by have := hl l hm; omega)
  rw [List.length_map] at h1
  refine fit_le (Nat.le_trans h1 ?_)
  omega
theorem all2 {P : List Int → Prop} {a b : List Int} (h1 : P a) (h2 : P b) : ∀ l ∈ [a, b], P l := fun l hl => by
  simp only [List.mem_cons, List.not_mem_nil, or_false] at hl
  rcases hl with rfl | rfl <;> assumption
theorem all3 {P : List Int → Prop} {a b c : List Int} (h1 : P a) (h2 : P b) (h3 : P c) : ∀ l ∈ [a, b, c], P l := fun l hl => by
  simp only [List.mem_cons, List.not_mem_nil, or_false] at hl
  rcases hl with rfl | rfl | rfl <;> assumption
end Sd

namespace Sd
open PySem PySem.Spec PyProof.Rows L2

/-! ### by steps -/
def stepsV (ns ms : List Int) (f st : Int) (k : Nat) : List Int := (List.range k).map fun (i : Nat) => lightV ns ms (f + st * (i : Int))
theorem stepsV_len (ns ms : List Int) (f st : Int) (k : Nat) : (stepsV ns ms f st k).length = k := by
  unfold stepsV
  rw [List.length_map, List.length_range]
theorem stepsV_at {ns ms : List Int} {f st : Int} {k i : Nat} (h : i < k) : (stepsV ns ms f st k)[i]? = some (lightV ns ms (f + st * (i : Int))) := by
  unfold stepsV
  rw [List.getElem?_map, List.getElem?_range h]
  rfl
/-- the first of them, None if there is none -/
def headV : List Int → V
  | [] => .non
  | x :: _ => .int x
def headD : List Int → PyData
  | [] => .none
  | x :: _ => .int x
theorem places_more (p : Int → Bool) (ns : List Int) (i : Nat) : ∀ d : Nat, ∃ r, places p ns (i + d) = places p ns i ++ r
  | 0 => ⟨[], by simp⟩
  | d + 1 => by
    obtain ⟨r, e⟩ := places_more p ns i d
    refine ⟨r ++ ([i + d].filter fun j => p (ns.getD j 0)).map fun (j : Nat) => (j : Int), ?_⟩
    rw [← List.append_assoc, ← e]
    unfold places
    rw [show i + (d + 1) = (i + d) + 1 from rfl, List.range_succ, List.filter_append, List.map_append]
theorem places_head {p : Int → Bool} {ns : List Int} {i k : Nat} {x : Int} (hx : ns[i]? = some x) (hp : p x = true) (hno : places p ns i = []) (hk : i < k) : headV (places p ns k) = .int i := by
  obtain ⟨r, e⟩ := places_more p ns (i + 1) (k - (i + 1))
  rw [show i + 1 + (k - (i + 1)) = k by omega, places_yes hx hp, hno] at e
  rw [e]
  rfl
theorem places_none {p : Int → Bool} {ns : List Int} {k : Nat} : places p ns k = [] ↔ ∀ i, i < k → ¬ p (ns.getD i 0) = true := by
  unfold places
  rw [List.map_eq_nil_iff, List.filter_eq_nil_iff]
  exact ⟨fun h i hi => h i (List.mem_range.mpr hi), fun h i hi => h i (List.mem_range.mp hi)⟩
theorem places_congr {p : Int → Bool} {ns ms : List Int} {k : Nat} (h : ∀ i, i < k → ns.getD i 0 = ms.getD i 0) : places p ns k = places p ms k := by
  unfold places
  refine congrArg _ (List.filter_congr fun i hi => ?_)
  rw [h i (List.mem_range.mp hi)]
theorem stepsV_getD {ns ms : List Int} {f st : Int} {k i : Nat} (h : i < k) : (stepsV ns ms f st k).getD i 0 = lightV ns ms (f + st * (i : Int)) := getD_at (stepsV_at h)
/-- twice around tells nothing more -/
theorem twice {p : Int → Bool} {ns ms : List Int} {f st : Int} (hl : ns.length = ms.length) : headV (places p (stepsV ns ms f st (2 * ns.length)) (2 * ns.length)) = headV (places p (stepsV ns ms f st ns.length) ns.length) := by
  have e1 : places p (stepsV ns ms f st (2 * ns.length)) ns.length = places p (stepsV ns ms f st ns.length) ns.length :=
    places_congr fun i hi => by rw [stepsV_getD (by omega), stepsV_getD hi]
  obtain ⟨r, e2⟩ := places_more p (stepsV ns ms f st (2 * ns.length)) ns.length ns.length
  rw [show ns.length + ns.length = 2 * ns.length by omega, e1] at e2
  cases e3 : places p (stepsV ns ms f st ns.length) ns.length with
  | cons x xs =>
    rw [e2, e3]
    rfl
  | nil =>
    have h0 := places_none.mp e3
    have h1 : places p (stepsV ns ms f st (2 * ns.length)) (2 * ns.length) = [] := places_none.mpr fun i hi => by
      by_cases hn : i < ns.length
      · have := h0 i hn
        rw [stepsV_getD hn] at this
        rw [stepsV_getD hi]
        exact this
      · have := h0 (i - ns.length) (by omega)
        rw [stepsV_getD (by omega)] at this
        rw [stepsV_getD hi]
        have e4 : lightV ns ms (f + st * (i : Int)) = lightV ns ms (f + st * ((i - ns.length : Nat) : Int)) := by
          rw [← lightV_mod (f + st * (i : Int)), ← lightV_mod (f + st * ((i - ns.length : Nat) : Int)), ← hl]
          have e5 : f + st * (i : Int) = (f + st * ((i - ns.length : Nat) : Int)) + (ns.length : Int) * st := by
            have e6 : (i : Int) = ((i - ns.length : Nat) : Int) + (ns.length : Int) := by omega
            rw [e6, Int.mul_add, Int.mul_comm (ns.length : Int) st]
            have e7 : ((((i - ns.length : Nat) : Int) + (ns.length : Int)) : Int) = (i : Int) := e6.symm
            omega
          rw [e5, Int.add_mul_emod_self_left]
        rw [e4]
        exact this
    rw [h1]
theorem dp_head {K : PySem.W.Frag} {H : Hp} : ∀ l : List Int, Dp K H (headV l) (headD l)
  | [] => .non
  | x :: _ => .int x
theorem rp_head : ∀ {l : List Int}, Ab 100 l → RP (headD l)
  | [], _ => ⟨rfl, rfl, rfl, by decide⟩
  | x :: _, h => rp_int (Nat.lt_of_lt_of_le (h x List.mem_cons_self) (pow_up (by decide)))
theorem fits_head : ∀ {l : List Int}, Ab 100 l → (headD l).shown.length ≤ sizeLine
  | [], _ => by decide +kernel
  | x :: _, h => fit_le (Nat.le_trans (shown_int (Nat.lt_of_lt_of_le (h x List.mem_cons_self) (pow_up (by decide)))) (by decide))
end Sd

namespace Sd
open PySem PySem.Spec PyProof.Rows L2

/-! ### far sums -/
def farV (ns ms : List Int) (f st N : Int) : Int := N / (ns.length : Int) * (stepsV ns ms f st ns.length).sum + ((stepsV ns ms f st ns.length).take (N % (ns.length : Int)).toNat).sum
theorem stepsV_take {ns ms : List Int} {f st : Int} {k r : Nat} (h : r ≤ k) : (stepsV ns ms f st k).take r = stepsV ns ms f st r := by
  unfold stepsV
  rw [← List.map_take, List.take_range, Nat.min_eq_left h]
theorem stepsV_next (ns ms : List Int) (f st : Int) (k : Nat) : (stepsV ns ms f st (k + 1)).sum = (stepsV ns ms f st k).sum + lightV ns ms (f + st * (k : Int)) := by
  unfold stepsV
  rw [List.range_succ, List.map_append, List.sum_append]
  simp
theorem stepsV_add (ns ms : List Int) (f st : Int) (a : Nat) : ∀ b : Nat, (stepsV ns ms f st (a + b)).sum = (stepsV ns ms f st a).sum + (stepsV ns ms (f + st * (a : Int)) st b).sum
  | 0 => by
    show (stepsV ns ms f st a).sum = (stepsV ns ms f st a).sum + 0
    omega
  | b + 1 => by
    rw [show a + (b + 1) = (a + b) + 1 from rfl, stepsV_next, stepsV_next, stepsV_add ns ms f st a b]
    rw [show f + st * (((a + b : Nat)) : Int) = f + st * (a : Int) + st * (b : Int) by rw [Int.natCast_add, Int.mul_add]; omega]
    omega
theorem lightV_congr {ns ms : List Int} {t u : Int} (h : t % (ms.length : Int) = u % (ms.length : Int)) : lightV ns ms t = lightV ns ms u := by
  rw [← lightV_mod t, h, lightV_mod]
theorem stepsV_mod (ns ms : List Int) (f st : Int) (k : Nat) : stepsV ns ms (f % (ms.length : Int)) st k = stepsV ns ms f st k := by
  unfold stepsV
  refine List.map_congr_left fun i _ => lightV_congr ?_
  rw [Int.emod_add_emod]
theorem stepsV_round {ns ms : List Int} (hl : ns.length = ms.length) (f st : Int) (k : Nat) : stepsV ns ms (f + st * (ns.length : Int)) st k = stepsV ns ms f st k := by
  unfold stepsV
  refine List.map_congr_left fun i _ => lightV_congr ?_
  rw [hl, show f + st * (ms.length : Int) + st * (i : Int) = f + st * (i : Int) + st * (ms.length : Int) by omega, Int.add_mul_emod_self_right]
theorem stepsV_rounds {ns ms : List Int} (hl : ns.length = ms.length) (f st : Int) (r : Nat) : ∀ q : Nat, (stepsV ns ms f st (q * ns.length + r)).sum = (q : Int) * (stepsV ns ms f st ns.length).sum + (stepsV ns ms f st r).sum
  | 0 => by simp
  | q + 1 => by
    rw [show (q + 1) * ns.length + r = ns.length + (q * ns.length + r) by rw [Nat.succ_mul]; omega, stepsV_add, stepsV_round hl, stepsV_rounds hl f st r q]
    rw [Int.natCast_succ, Int.add_mul]
    omega
theorem far_eq {ns ms : List Int} (hl : ns.length = ms.length) (h1 : 1 ≤ ns.length) (f st : Int) {N : Int} (h0 : 0 ≤ N) : farV ns ms f st N = (stepsV ns ms f st N.toNat).sum := by
  have hm := mod_in (i := N) (show 0 < ns.length by omega)
  have hq : 0 ≤ N / (ns.length : Int) := Int.ediv_nonneg h0 (by omega)
  have e : N.toNat = (N / (ns.length : Int)).toNat * ns.length + (N % (ns.length : Int)).toNat := by
    have e1 := Int.mul_ediv_add_emod N (ns.length : Int)
    have e2 : (((N / (ns.length : Int)).toNat * ns.length + (N % (ns.length : Int)).toNat : Nat) : Int) = N := by
      rw [Int.natCast_add, Int.natCast_mul, Int.toNat_of_nonneg hq, Int.toNat_of_nonneg hm.1, Int.mul_comm]
      exact e1
    omega
  rw [e, stepsV_rounds hl, Int.toNat_of_nonneg hq]
  unfold farV
  rw [stepsV_take (by omega)]
theorem far_parts {ns ms : List Int} (hl : ns.length = ms.length) (h1 : 1 ≤ ns.length) (f st : Int) {N M : Int} (h0 : 0 ≤ M) (hM : M ≤ N) : farV ns ms f st M + farV ns ms ((f + M * st) % (ns.length : Int)) st (N - M) = farV ns ms f st N := by
  rw [far_eq hl h1 f st h0, far_eq hl h1 _ st (show 0 ≤ N - M by omega), far_eq hl h1 f st (show 0 ≤ N by omega)]
  rw [show N.toNat = M.toNat + (N - M).toNat by omega, stepsV_add, hl, stepsV_mod, Int.toNat_of_nonneg h0, Int.mul_comm st M]
theorem stepsV_ab {a b : Nat} {ns ms : List Int} (h1 : Ab a ns) (h2 : Ab b ms) (hl : ns.length < 1024) (f st : Int) (k : Nat) : Ab (a + b + 10) (stepsV ns ms f st k) := fun n hn => by
  unfold stepsV at hn
  obtain ⟨i, _, rfl⟩ := List.mem_map.mp hn
  exact lightV_lt h1 h2 hl _
theorem steps_sum_lt {ns ms : List Int} (h1 : Ab 100 ns) (h2 : Ab 100 ms) (hl : ns.length < 1024) (f st : Int) (k : Nat) (hk : k < 1024) : (stepsV ns ms f st k).sum.natAbs < 2 ^ 220 :=
  sum_lt (stepsV_ab h1 h2 hl f st k) (by rw [stepsV_len]; exact hk)
theorem far_lt {ns ms : List Int} (h1 : Ab 100 ns) (h2 : Ab 100 ms) (hl : ns.length < 1024) (hp : 1 ≤ ns.length) (f st : Int) {N : Int} (h0 : 0 ≤ N) (hN : N.natAbs < 2 ^ 200) : (farV ns ms f st N).natAbs < 2 ^ 430 := by
  have hm := mod_in (i := N) (show 0 < ns.length by omega)
  have hq : 0 ≤ N / (ns.length : Int) := Int.ediv_nonneg h0 (by omega)
  have hqn : N / (ns.length : Int) ≤ N := Int.ediv_le_self _ h0
  have a1 : (N / (ns.length : Int)).natAbs < 2 ^ 200 := by omega
  have a2 := steps_sum_lt h1 h2 hl f st ns.length hl
  have a3 := wide_lt a1 a2
  unfold farV
  rw [stepsV_take (by omega)]
  have a4 := steps_sum_lt h1 h2 hl f st (N % (ns.length : Int)).toNat (by omega)
  have a5 := Int.natAbs_add_le (N / (ns.length : Int) * (stepsV ns ms f st ns.length).sum) (stepsV ns ms f st (N % (ns.length : Int)).toNat).sum
  have p1 : (2 : Nat) ^ 420 + 2 ^ 220 ≤ 2 ^ 430 := by decide +kernel
  have a3' : (N / (ns.length : Int) * (stepsV ns ms f st ns.length).sum).natAbs < 2 ^ 420 := a3
  exact Nat.lt_of_le_of_lt a5 (Nat.lt_of_lt_of_le (Nat.add_lt_add a3' a4) p1)
end Sd

namespace Sd
open PySem PySem.Spec PyProof.Rows L2

/-! ### lists of ints by their order -/
def LtI (a b : List Int) : Bool := PySem.W.dataLt (dI a) (dI b)
theorem ltI_irr (a : List Int) : LtI a a = false := lex_irrefl _
theorem ltI_trans {a b c : List Int} (h : LtI a b = true) (k : LtI b c = true) : LtI a c = true := lex_trans _ _ _ h k
theorem toks_int (x : Int) : PySem.W.keyToks (.int x) = [.inl x] := by rw [PySem.W.keyToks]
theorem toks_inj : ∀ {a b : List Int}, PySem.W.keyToksAll (a.map PyData.int) = PySem.W.keyToksAll (b.map PyData.int) → a = b
  | [], [], _ => rfl
  | [], y :: b, h => by
    rw [List.map_nil, List.map_cons, PySem.W.toks_all_cons, PySem.W.keyToksAll] at h
    have := (List.cons.inj h).1
    cases this
  | x :: a, [], h => by
    rw [List.map_nil, List.map_cons, PySem.W.toks_all_cons, PySem.W.keyToksAll] at h
    have := (List.cons.inj h).1
    cases this
  | x :: a, y :: b, h => by
    rw [List.map_cons, List.map_cons, PySem.W.toks_all_cons, PySem.W.toks_all_cons, toks_int, toks_int] at h
    have h2 := (List.cons.inj h).2
    have h3 := (List.cons.inj h2).1
    have h4 := (List.cons.inj h2).2
    cases h3
    rw [toks_inj h4]
theorem ltI_total {a b : List Int} (h : LtI a b = false) (k : LtI b a = false) : a = b := by
  have e := lex_total _ _ h k
  unfold dI at e
  rw [PySem.W.keyToks, PySem.W.keyToks] at e
  exact toks_inj e
/-- the least of some lists -/
def LeastI (S : List (List Int)) (m : List Int) : Prop := m ∈ S ∧ ∀ y ∈ S, LtI y m = false
theorem least_one {S : List (List Int)} {m m' : List Int} (h : LeastI S m) (k : LeastI S m') : m = m' := ltI_total (k.2 _ h.1) (h.2 _ k.1)
theorem least_set {S S' : List (List Int)} {m : List Int} (h : LeastI S m) (e : ∀ x, x ∈ S ↔ x ∈ S') : LeastI S' m := ⟨(e _).mp h.1, fun y hy => h.2 y ((e _).mpr hy)⟩
theorem least_le {S : List (List Int)} {m y : List Int} (h : LeastI S m) (hy : y ∈ S) : m = y ∨ LtI m y = true := by
  cases q : LtI m y with
  | true => exact .inr rfl
  | false => exact .inl (ltI_total q (h.2 _ hy))
theorem least_app {S S' : List (List Int)} {a b : List Int} (h : LeastI S a) (k : LeastI S' b) : LeastI (S ++ S') (if LtI b a then b else a) := by
  cases q : LtI b a with
  | true =>
    refine ⟨List.mem_append_right _ k.1, fun y hy => ?_⟩
    rcases List.mem_append.mp hy with hy | hy
    · cases z : LtI y b with
      | false => exact z
      | true =>
        have := ltI_trans z q
        rw [h.2 _ hy] at this
        cases this
    · exact k.2 _ hy
  | false =>
    refine ⟨List.mem_append_left _ h.1, fun y hy => ?_⟩
    rcases List.mem_append.mp hy with hy | hy
    · exact h.2 _ hy
    · cases z : LtI y a with
      | false => exact z
      | true =>
        exfalso
        rcases least_le k hy with e | e
        · rw [e, z] at q
          cases q
        · rw [ltI_trans e z] at q
          cases q
theorem minD_least (x : List Int) (xs : List (List Int)) : ∃ m, PySem.W.minD (dI x) (xs.map dI) = dI m ∧ LeastI (x :: xs) m := by
  have key : ∀ (xs done : List (List Int)) (x : List Int), LeastI done x → ∃ m, PySem.W.minD (dI x) (xs.map dI) = dI m ∧ LeastI (done ++ xs) m := by
    intro xs
    induction xs with
    | nil =>
      intro done x h
      exact ⟨x, rfl, by rw [List.append_nil]; exact h⟩
    | cons y r ih =>
      intro done x h
      have h2 : LeastI (done ++ [y]) (if LtI y x then y else x) := least_app h ⟨List.mem_singleton.mpr rfl, fun z hz => by rw [List.mem_singleton.mp hz]; exact ltI_irr _⟩
      obtain ⟨m, e, hm⟩ := ih _ _ h2
      refine ⟨m, ?_, by rw [List.append_assoc] at hm; exact hm⟩
      rw [← e]
      unfold PySem.W.minD
      rw [List.map_cons, List.foldl_cons]
      have e2 : (if PySem.W.dataLt (dI y) (dI x) then dI y else dI x) = dI (if LtI y x then y else x) := by
        show (if LtI y x = true then dI y else dI x) = dI (if LtI y x then y else x)
        cases LtI y x <;> rfl
      rw [e2]
  exact key xs [x] x ⟨List.mem_singleton.mpr rfl, fun z hz => by rw [List.mem_singleton.mp hz]; exact ltI_irr _⟩

theorem dI_inj {a b : List Int} (h : dI a = dI b) : a = b := by
  unfold dI at h
  have h2 := PyData.list.inj h
  have : ∀ {a b : List Int}, a.map PyData.int = b.map PyData.int → a = b := by
    intro a
    induction a with
    | nil => intro b h; cases b with
      | nil => rfl
      | cons _ _ => cases h
    | cons x a ih => intro b h; cases b with
      | nil => cases h
      | cons y b =>
        rw [List.map_cons, List.map_cons] at h
        have := PyData.int.inj (List.cons.inj h).1
        rw [this, ih (List.cons.inj h).2]
  exact this h2
theorem alike_ints : ∀ a b : List Int, PySem.W.alikeAll (a.map PyData.int) (b.map PyData.int) = true
  | [], _ => by rw [List.map_nil, PySem.W.alikeAll]
  | _ :: _, [] => by rw [List.map_nil, List.map_cons, PySem.W.alikeAll]
  | x :: a, y :: b => by
    rw [List.map_cons, List.map_cons, PySem.W.alikeAll, alike_ints a b, PySem.W.alike]
    rfl
theorem alike_dI (a b : List Int) : PySem.W.alike (dI a) (dI b) = true := by
  unfold dI
  rw [PySem.W.alike]
  exact alike_ints a b
theorem alikeAll_dI (S : List (List Int)) : PySem.W.AlikeAll (S.map dI) := by
  refine ⟨fun x hx y hy => ?_, fun x hx e => ?_⟩
  · obtain ⟨a, _, rfl⟩ := List.mem_map.mp hx
    obtain ⟨b, _, rfl⟩ := List.mem_map.mp hy
    exact alike_dI a b
  · obtain ⟨a, _, rfl⟩ := List.mem_map.mp hx
    unfold dI at e
    cases e
theorem depthAll_ints : ∀ a : List Int, PyData.depthAll (a.map PyData.int) = 0
  | [] => rfl
  | x :: a => by
    show max (PyData.depth (.int x)) (PyData.depthAll (a.map PyData.int)) = 0
    rw [depthAll_ints a]
    simp only [PyData.depth, Nat.max_self]
theorem depth_dI (a : List Int) : (dI a).depth ≤ 1 := by
  unfold dI
  simp only [PyData.depth]
  rw [depthAll_ints]
  exact Nat.le_refl _
theorem depthAll_dI : ∀ S : List (List Int), PyData.depthAll (S.map dI) ≤ 1
  | [] => by show (0 : Nat) ≤ 1; omega
  | a :: S => by
    show max (dI a).depth (PyData.depthAll (S.map dI)) ≤ 1
    have h1 := depth_dI a
    have h2 := depthAll_dI S
    omega

theorem readsAll_kp {h h' : Heap} (k : ∀ c o, h.get? c = some o → h'.get? c = some o) : ∀ {us : List Value} {ds : List PyData} {as : List Addr}, PySem.ReadsAll h us ds as → PySem.ReadsAll h' us ds as
  | _, _, _, .nil => .nil
  | _, _, _, .cons r rs => .cons (PySem.W.reads_keeps k r) (readsAll_kp k rs)
theorem readsAll_ix {h : Heap} : ∀ {us : List Value} {ds : List PyData} {as : List Addr} {i : Nat} {u : Value}, PySem.ReadsAll h us ds as → us[i]? = some u → ∃ d bs, ds[i]? = some d ∧ PySem.Reads h u d bs
  | _, _, _, _, _, .nil, e => by simp at e
  | _, _, _, 0, _, .cons r _, e => by
    have e := Option.some.inj (show some _ = some _ from e)
    subst e
    exact ⟨_, _, rfl, r⟩
  | _, _, _, i + 1, _, .cons _ rs, e => by
    obtain ⟨d, bs, h1, h2⟩ := readsAll_ix (i := i) rs (by simpa using e)
    exact ⟨d, bs, by simpa using h1, h2⟩
theorem vals_ix : ∀ {vs : List V} {us : List Value} {i : Nat} {u : Value}, Vals vs us → us[i]? = some u → ∃ v, vs[i]? = some v ∧ RelV v u
  | _, _, _, _, .nil, e => by simp at e
  | _, _, 0, _, .cons r _, e => by
    have e := Option.some.inj (show some _ = some _ from e)
    subst e
    exact ⟨_, rfl, r⟩
  | _, _, i + 1, _, .cons _ rs, e => by
    obtain ⟨d, h1, h2⟩ := vals_ix (i := i) rs (by simpa using e)
    exact ⟨d, by simpa using h1, h2⟩

/-! ### min(S), S a list of lists of ints -/
def rMinI (K : PySem.W.Frag) : List V → Hp → VK → Prop := fun vs H Q => ∃ (a : Addr) (xs : List V) (S : List (List Int)), vs = [V.ref a] ∧ SqL K H a xs ∧ DpAll K H xs (S.map dI) ∧ 0 < S.length ∧
  ∀ (i : Nat) (v : V) (m : List Int), xs[i]? = some v → S[i]? = some m → LeastI S m → Q v H
theorem cr_minI {X : Cx} {K : PySem.W.Frag} (hK : X.K = K) (hc : X.calm = true) {k : Nat} (hr : Room k X.A) : CallR X (.builtin "min") (rMinI K) := by
  subst hK
  intro pins s σ H vs us Q I r h
  obtain ⟨a, xs, S, rfl, hs, hd, hne, q⟩ := h
  obtain ⟨its, rv, hl, _⟩ := I.list hs
  rw [Vals.ref1 r]
  obtain ⟨as, hR⟩ := Dp.readsAll I _ _ _ hd rv
  cases S with
  | nil => exact absurd hne (Nat.lt_irrefl 0)
  | cons x S =>
    have hu := hr.units
    have hd1 := depthAll_dI (x :: S)
    refine PySem.W.min_list_data (x := dI x) (xs := S.map dI) (as := as) (I.ok.hd hc) hl.isList hR (alikeAll_dI (x :: S)) ?_ fun i v h' tk bs hv hR' kp => ?_
    · have e : PyData.depthAll (dI x :: S.map dI) ≤ 1 := hd1
      omega
    · obtain ⟨m, em, hm⟩ := minD_least x S
      have hv' : its[i]? = some v := by simpa using hv
      obtain ⟨d, cs, hd2, hR2⟩ := readsAll_ix hR hv'
      obtain ⟨y, hy, ry⟩ := vals_ix rv hv'
      obtain ⟨n, hn, e⟩ : ∃ n, (x :: S)[i]? = some n ∧ d = dI n := by
        rw [List.getElem?_map] at hd2
        cases z : (x :: S)[i]? with
        | none =>
          rw [z] at hd2
          cases hd2
        | some n =>
          rw [z] at hd2
          exact ⟨n, rfl, (Option.some.inj hd2).symm⟩
      subst e
      rw [em] at hR'
      have e2 := PySem.W.alike_unique _ _ v _ _ (alike_dI n m) (PySem.W.reads_keeps kp hR2) hR'
      have e3 := dI_inj e2
      subst e3
      exact ⟨y, H, I.kept kp, ry, q i y n hy hn hm⟩
/-! ### min(a, b) of two values, compared where a heap stands -/
section
variable {prog : Program} {w : World} {A : Around} {E : Value → Shared → Prop} {s : Shared}
theorem min_pair {a b : Value} {x y : PyData} {as : List Addr} {Q : Value → Shared → Prop} (hh : A.handled = none) (hR : PySem.ReadsAll s.heap [a, b] [x, y] as) (ha : PySem.W.AlikeAll [x, y]) (hu : A.units + 1 + PyData.depthAll [x, y] < cLine)
    (h : ∀ h' tk, (∀ c o, s.heap.get? c = some o → h'.get? c = some o) → Q (if PySem.W.dataLt y x then b else a) { s with heap := h', toks := tk }) : wpAny (model prog w) A (call (.builtin "min") [a, b]) Q E s := by
  have nm : (toString "min" ++ toString ".loop" : String) = "min.loop" := by decide
  have hT : (s.heap.push { cls := .type "tuple", data := .seq #[a, b] }).IsTuple s.heap.objs.size #[a, b] := ⟨_, Heap.get?_push_size _ rfl, rfl, 0, rfl⟩
  have kp0 : ∀ c o, s.heap.get? c = some o → (s.heap.push { cls := .type "tuple", data := .seq #[a, b] }).get? c = some o := fun c o e => Heap.get?_push_of_some _ e
  have hR2 : PySem.ReadsAll (s.heap.push { cls := .type "tuple", data := .seq #[a, b] }) (#[a, b] : Array Value).toList [x, y] as := readsAll_kp kp0 hR
  refine call_function_tree F.kind_min F.plain_min F.entry_min (F.args_min2 _ _) ?_
  show wpAny _ A.in1 (Builtin.Builtins.bindParams _ _ _ _ >>= _) _ _ s
  refine wpAny_bind (wpAny_of_eq (show Builtin.Builtins.bindParams "min" ["key", "default"] 0 ⟨[], []⟩ = pure [none, none] from rfl) (show wpAny _ A.in1 (newTuple [a, b] >>= _) _ _ s from wpAny_bind (wpAny_newObj_type (wpAny_bind ?_))))
  refine PySem.W.iter_tupleW (A := A.in1) (s := { s with heap := s.heap.push { cls := .type "tuple", data := .seq #[a, b] } }) hh hT fun s₂ e W st hfp hw hk => ?_
  have hS : s₂.heap.objs.size ∉ _ := fun hm => Nat.lt_irrefl _ (hfp _ hm)
  refine wpAny_bind (wpAny_newObj_type ?_)
  rw [nm]
  refine wpAny_pure ⟨plainId_quiet F.plain_min_loop _, codeAny_min_loop_firstH W (s.heap.push { cls := .type "tuple", data := .seq #[a, b] }) hw (fun i j => PySem.W.dataLt ([x, y].getD i .none) ([x, y].getD j .none)) ?_ s₂.heap.objs.size hS (fresh_in hk) _ (show 0 < 2 by decide) (fun c o e => Heap.get?_push_of_some _ (hk c o e)) (W.frame 0 s₂ _ s₂.toks st (Nat.le_refl _) fun c _ o e => Heap.get?_push_of_some _ e) (Heap.get?_push_size _ rfl) fun v s' hP hm => ?_⟩
  · exact PySem.W.cmpIn_lt (A := A.in1) (s := { s with heap := s.heap.push { cls := .type "tuple", data := .seq #[a, b] } }) hR2 ha hu
  · obtain ⟨h', tk, rfl, hk'⟩ := PySem.W.moved_old e rfl (Moved.drop_new (tk := s₂.toks) hm (Nat.le_refl _))
    have q := h h' tk fun c o e => hk' c o (kp0 c o e)
    have ev : v = if PySem.W.dataLt y x then b else a := by
      cases z : PySem.W.dataLt y x with
      | true =>
        have e1 : argBest (fun i j => PySem.W.dataLt ([x, y].getD i .none) ([x, y].getD j .none)) 1 = 1 := if_pos z
        rw [show (#[a, b] : Array Value).size - 1 = 1 from rfl, e1] at hP
        exact (Option.some.inj hP).symm
      | false =>
        have e1 : argBest (fun i j => PySem.W.dataLt ([x, y].getD i .none) ([x, y].getD j .none)) 1 = 0 := if_neg (fun c => by
          have c : PySem.W.dataLt y x = true := c
          rw [z] at c
          cases c)
        rw [show (#[a, b] : Array Value).size - 1 = 1 from rfl, e1] at hP
        exact (Option.some.inj hP).symm
    rw [ev]
    exact q
end
/-- min(a, b) of two lists of ints -/
def rMin2 (K : PySem.W.Frag) : List V → Hp → VK → Prop := fun vs H Q => ∃ (x y : V) (a b : List Int), vs = [x, y] ∧ Dp K H x (dI a) ∧ Dp K H y (dI b) ∧ Q (if LtI b a then y else x) H
theorem cr_min2 {X : Cx} {K : PySem.W.Frag} (hK : X.K = K) (hc : X.calm = true) {k : Nat} (hr : Room k X.A) : CallR X (.builtin "min") (rMin2 K) := by
  subst hK
  intro pins s σ H vs us Q I r h
  obtain ⟨x, y, a, b, rfl, hx, hy, q⟩ := h
  obtain ⟨as, hR⟩ := Dp.readsAll I _ _ _ (.cons hx (.cons hy .nil)) r
  cases r with
  | cons r1 r2 =>
    cases r2 with
    | cons r2 r3 =>
      cases r3
      have hu := hr.units
      have hd1 := depthAll_dI [a, b]
      refine min_pair (I.ok.hd hc) hR (alikeAll_dI [a, b]) ?_ fun h' tk kp => ?_
      · have e : PyData.depthAll [dI a, dI b] ≤ 1 := hd1
        omega
      · have q : Q (if PySem.W.dataLt (dI b) (dI a) then y else x) H := q
        cases z : PySem.W.dataLt (dI b) (dI a) with
        | true =>
          rw [z] at q
          exact ⟨y, H, I.kept kp, r2, q⟩
        | false =>
          rw [z] at q
          exact ⟨x, H, I.kept kp, r1, q⟩
end Sd

namespace Sd
open PySem PySem.Spec PyProof.Rows L2

/-! ### turns, and all that are like -/
theorem ext_getD {a b : List Int} (hl : a.length = b.length) (h : ∀ j, j < a.length → a.getD j 0 = b.getD j 0) : a = b := by
  refine List.ext_getElem? fun j => ?_
  by_cases q : j < a.length
  · rw [at_getD q, at_getD (by omega), h j q]
  · rw [List.getElem?_eq_none (by omega), List.getElem?_eq_none (by omega)]
theorem rot_get {ns : List Int} {t : Int} {j : Nat} (h : j < ns.length) : (rot ns t).getD j 0 = ns.getD ((((j : Int) - t) % (ns.length : Int)).toNat) 0 := getD_at (rot_at h)
theorem mir_get {ns : List Int} {j : Nat} (h : j < ns.length) : (mir ns).getD j 0 = ns.getD (((-(j : Int)) % (ns.length : Int)).toNat) 0 := getD_at (mir_at h)
theorem rot_add (ns : List Int) (s t : Int) : rot (rot ns s) t = rot ns (s + t) := by
  refine ext_getD (by simp only [rot_len]) fun j hj => ?_
  simp only [rot_len] at hj
  have hm := mod_in (i := (j : Int) - t) (show 0 < ns.length by omega)
  rw [rot_get (by rw [rot_len]; exact hj), rot_len, rot_get (by omega), rot_get hj]
  rw [Int.toNat_of_nonneg hm.1, Int.emod_sub_emod]
  rw [show (j : Int) - t - s = (j : Int) - (s + t) by omega]
theorem rot_zero (ns : List Int) : rot ns 0 = ns := by
  refine ext_getD (rot_len _ _) fun j hj => ?_
  rw [rot_len] at hj
  rw [rot_get hj, Int.sub_zero, Int.emod_eq_of_lt (by omega) (by omega), Int.toNat_natCast]
theorem rot_full (ns : List Int) : rot ns (ns.length : Int) = ns := by
  rw [← rot_mod, Int.emod_self, rot_zero]
theorem mir_rot (ns : List Int) (t : Int) : mir (rot ns t) = rot (mir ns) (-t) := by
  refine ext_getD (by simp only [rot_len, mir_len]) fun j hj => ?_
  simp only [rot_len, mir_len] at hj
  have hm := mod_in (i := -(j : Int)) (show 0 < ns.length by omega)
  have hm2 := mod_in (i := (j : Int) - -t) (show 0 < ns.length by omega)
  rw [mir_get (by rw [rot_len]; exact hj), rot_len, rot_get (by omega), rot_get (by rw [mir_len]; exact hj), mir_len, mir_get (by omega)]
  rw [Int.toNat_of_nonneg hm.1, Int.toNat_of_nonneg hm2.1, Int.emod_sub_emod]
  have e : (-(((j : Int) - -t) % (ns.length : Int))) % (ns.length : Int) = (-((j : Int) - -t)) % (ns.length : Int) := by
    rw [← Int.zero_sub, ← Int.zero_sub ((j : Int) - -t), Int.sub_emod_emod]
  rw [e, show -((j : Int) - -t) = -(j : Int) - t by omega]
def turnsL (ns : List Int) : List (List Int) := (List.range ns.length).map fun (t : Nat) => rot ns (t : Int)
def bothL (ns : List Int) : List (List Int) := turnsL ns ++ turnsL (mir ns)
theorem turns_len (ns : List Int) : (turnsL ns).length = ns.length := by
  unfold turnsL
  rw [List.length_map, List.length_range]
theorem mem_turns {ns x : List Int} (h : 1 ≤ ns.length) : x ∈ turnsL ns ↔ ∃ t : Int, x = rot ns t := by
  unfold turnsL
  constructor
  · intro hx
    obtain ⟨t, _, rfl⟩ := List.mem_map.mp hx
    exact ⟨_, rfl⟩
  · intro ⟨t, ht⟩
    have hm := mod_in (i := t) (show 0 < ns.length by omega)
    refine List.mem_map.mpr ⟨(t % (ns.length : Int)).toNat, List.mem_range.mpr (by omega), ?_⟩
    rw [Int.toNat_of_nonneg hm.1, rot_mod, ht]
theorem mem_both {ns x : List Int} (h : 1 ≤ ns.length) : x ∈ bothL ns ↔ ∃ t : Int, x = rot ns t ∨ x = rot (mir ns) t := by
  unfold bothL
  rw [List.mem_append, mem_turns h, mem_turns (by rw [mir_len]; exact h)]
  constructor
  · rintro (⟨t, e⟩ | ⟨t, e⟩)
    · exact ⟨t, .inl e⟩
    · exact ⟨t, .inr e⟩
  · rintro ⟨t, e | e⟩
    · exact .inl ⟨t, e⟩
    · exact .inr ⟨t, e⟩
theorem both_len {ns x : List Int} (h : 1 ≤ ns.length) (hx : x ∈ bothL ns) : x.length = ns.length := by
  obtain ⟨t, rfl | rfl⟩ := (mem_both h).mp hx
  · exact rot_len _ _
  · rw [rot_len, mir_len]
theorem both_sub {ns ms x : List Int} (h : 1 ≤ ns.length) (hm : ms ∈ bothL ns) (hx : x ∈ bothL ms) : x ∈ bothL ns := by
  have hl := both_len h hm
  obtain ⟨s, e⟩ := (mem_both (by omega)).mp hx
  obtain ⟨t, rfl | rfl⟩ := (mem_both h).mp hm
  · rcases e with rfl | rfl
    · rw [rot_add]
      exact (mem_both h).mpr ⟨_, .inl rfl⟩
    · rw [mir_rot, rot_add]
      exact (mem_both h).mpr ⟨_, .inr rfl⟩
  · rcases e with rfl | rfl
    · rw [rot_add]
      exact (mem_both h).mpr ⟨_, .inr rfl⟩
    · rw [mir_rot, mir_mir, rot_add]
      exact (mem_both h).mpr ⟨_, .inl rfl⟩
theorem both_symm {ns ms : List Int} (h : 1 ≤ ns.length) (hm : ms ∈ bothL ns) : ns ∈ bothL ms := by
  have hl := both_len h hm
  obtain ⟨t, rfl | rfl⟩ := (mem_both h).mp hm
  · refine (mem_both (by omega)).mpr ⟨-t, .inl ?_⟩
    rw [rot_add, show t + -t = 0 by omega, rot_zero]
  · refine (mem_both (by omega)).mpr ⟨t, .inr ?_⟩
    rw [mir_rot, mir_mir, rot_add, show -t + t = 0 by omega, rot_zero]
theorem like_iff {ns ms m m' : List Int} (h : 1 ≤ ns.length) (h2 : 1 ≤ ms.length) (hm : LeastI (bothL ns) m) (hm' : LeastI (bothL ms) m') : m = m' ↔ ms ∈ bothL ns := by
  constructor
  · rintro rfl
    exact both_sub h hm.1 (both_symm h2 hm'.1)
  · intro e
    refine least_one hm (least_set hm' fun x => ⟨both_sub h e, both_sub h2 (both_symm h e)⟩)
theorem eqv_dI (a b : List Int) : PyData.eqv (dI a) (dI b) = decide (a = b) := by
  by_cases e : a = b
  · subst e
    rw [decide_eq_true rfl]
    exact PySem.W.eqv_refl_alike _ (alike_dI a a)
  · rw [decide_eq_false e]
    cases q : PyData.eqv (dI a) (dI b) with
    | false => rfl
    | true =>
      exfalso
      have z := (PySem.W.toks_eqv (dI a) (dI b) (alike_dI a b)).1 q
      unfold dI at z
      rw [PySem.W.keyToks, PySem.W.keyToks] at z
      exact e (toks_inj z)
theorem any_dI (S : List (List Int)) (m : List Int) : ((S.map dI).any fun z => PyData.eqv z (dI m)) = decide (m ∈ S) := by
  induction S with
  | nil => simp
  | cons a S ih =>
    rw [List.map_cons, List.any_cons, ih, eqv_dI]
    by_cases e : a = m
    · subst e
      simp
    · have e2 : ¬ m = a := fun z => e z.symm
      simp [e, e2]

/-! ### the turns at which one becomes the other -/
def hits (xs ys : List Int) (o : Int) : Nat → List Int
  | 0 => []
  | k + 1 => hits xs ys o k ++ (if rot xs (o + (k : Int)) = ys then [o + (k : Int)] else [])
theorem hits_yes {xs ys : List Int} {o : Int} {k : Nat} (h : rot xs (o + (k : Int)) = ys) : hits xs ys o (k + 1) = hits xs ys o k ++ [o + (k : Int)] := by
  rw [hits, if_pos h]
theorem hits_no {xs ys : List Int} {o : Int} {k : Nat} (h : ¬ rot xs (o + (k : Int)) = ys) : hits xs ys o (k + 1) = hits xs ys o k := by
  rw [hits, if_neg h, List.append_nil]
theorem hits_more (xs ys : List Int) (o : Int) (k : Nat) : ∀ m, ∃ r, hits xs ys o (k + m) = hits xs ys o k ++ r
  | 0 => ⟨[], by rw [List.append_nil]; rfl⟩
  | m + 1 => by
    obtain ⟨r, e⟩ := hits_more xs ys o k m
    refine ⟨r ++ (if rot xs (o + ((k + m : Nat) : Int)) = ys then [o + ((k + m : Nat) : Int)] else []), ?_⟩
    rw [← List.append_assoc, ← e]
    rfl
theorem hits_head {xs ys : List Int} {o : Int} {k n : Nat} (h0 : hits xs ys o k = []) (h : rot xs (o + (k : Int)) = ys) (hk : k < n) : ∃ r, hits xs ys o n = (o + (k : Int)) :: r := by
  obtain ⟨r, e⟩ := hits_more xs ys o (k + 1) (n - (k + 1))
  rw [show k + 1 + (n - (k + 1)) = n by omega, hits_yes h, h0] at e
  exact ⟨r, e⟩
theorem hits_shift (xs ys : List Int) (o : Int) : ∀ k, hits xs ys o k = (hits (rot xs o) ys 0 k).map (o + ·)
  | 0 => rfl
  | k + 1 => by
    have e : rot (rot xs o) (0 + (k : Int)) = rot xs (o + (k : Int)) := by rw [rot_add, show o + (0 + (k : Int)) = o + (k : Int) by omega]
    by_cases q : rot xs (o + (k : Int)) = ys
    · rw [hits_yes q, hits_yes (by rw [e]; exact q), hits_shift xs ys o k, List.map_append]
      simp
    · rw [hits_no q, hits_no (by rw [e]; exact q), hits_shift xs ys o k]
theorem hits_all {xs ys : List Int} {o : Int} : ∀ {k : Nat}, ∀ t ∈ hits xs ys o k, o ≤ t ∧ t < o + (k : Int)
  | 0, t, h => by cases h
  | k + 1, t, h => by
    rw [hits] at h
    rcases List.mem_append.mp h with h | h
    · have := hits_all t h
      omega
    · split at h
      · have := List.mem_singleton.mp h
        omega
      · cases h
theorem hits_len (xs ys : List Int) (o : Int) : ∀ k, (hits xs ys o k).length ≤ k
  | 0 => Nat.le_refl _
  | k + 1 => by
    have := hits_len xs ys o k
    rw [hits, List.length_append]
    split
    · simp only [List.length_singleton]; omega
    · simp only [List.length_nil]; omega
theorem hits_ab {xs ys : List Int} {o : Int} {k : Nat} (h0 : 0 ≤ o) (ho : o ≤ 10) (hk : k ≤ 1000) : Ab 100 (hits xs ys o k) := fun t ht => by
  have := hits_all t ht
  exact Nat.lt_of_lt_of_le (m := 1100) (by omega) (by decide)
/-- the period -/
def perL (ns : List Int) : List Int := hits ns ns 1 ns.length
theorem per_ex {ns : List Int} (h : 1 ≤ ns.length) : ∃ p r, perL ns = p :: r := by
  unfold perL
  cases e : hits ns ns 1 ns.length with
  | cons p r => exact ⟨p, r, rfl⟩
  | nil =>
    exfalso
    obtain ⟨k, hk⟩ : ∃ k, ns.length = k + 1 := ⟨ns.length - 1, by omega⟩
    rw [hk, hits_yes (by rw [show (1 : Int) + (k : Int) = ((k + 1 : Nat) : Int) by omega, ← hk]; exact rot_full ns)] at e
    have := congrArg List.length e
    simp at this

/-! ### rows of new lists -/
inductive Rows (H H' : Hp) : List V → List (List Int) → Prop
  | nil : Rows H H' [] []
  | cons {l : Addr} {m : List Int} {vs : List V} {S : List (List Int)} : H l = none → H' l = some (.lst (m.map V.int)) → Rows H H' vs S → Rows H H' (.ref l :: vs) (m :: S)
theorem Rows.up {H H1 H2 : Hp} {vs : List V} {S : List (List Int)} (h : Rows H H1 vs S) (s : Same H1 H2) : Rows H H2 vs S := by
  induction h with
  | nil => exact .nil
  | cons a b _ ih => exact .cons a (s _ _ b) ih
theorem Rows.down {H0 H H1 : Hp} {vs : List V} {S : List (List Int)} (h : Rows H H1 vs S) (s : Same H0 H) : Rows H0 H1 vs S := by
  induction h with
  | nil => exact .nil
  | cons a b _ ih => exact .cons (s.free a) b ih
theorem Rows.snoc {H H1 : Hp} {vs : List V} {S : List (List Int)} {l : Addr} {m : List Int} (h : Rows H H1 vs S) (a : H l = none) (b : H1 l = some (.lst (m.map V.int))) : Rows H H1 (vs ++ [.ref l]) (S ++ [m]) := by
  induction h with
  | nil => exact .cons a b .nil
  | cons c d _ ih => exact .cons c d ih
theorem Rows.app {H H1 : Hp} {vs ws : List V} {S T : List (List Int)} (h : Rows H H1 vs S) (k : Rows H H1 ws T) : Rows H H1 (vs ++ ws) (S ++ T) := by
  induction h with
  | nil => exact k
  | cons c d _ ih => exact .cons c d ih
theorem Rows.len {H H1 : Hp} {vs : List V} {S : List (List Int)} (h : Rows H H1 vs S) : vs.length = S.length := by
  induction h with
  | nil => rfl
  | cons _ _ _ ih => rw [List.length_cons, List.length_cons, ih]
theorem Rows.dp {K : PySem.W.Frag} {H H1 : Hp} {vs : List V} {S : List (List Int)} (h : Rows H H1 vs S) : DpAll K H1 vs (S.map dI) := by
  induction h with
  | nil => exact .nil
  | cons _ b _ ih => exact .cons (dp_ints (SqL.of b)) ih
theorem Rows.at {H H1 : Hp} {vs : List V} {S : List (List Int)} (h : Rows H H1 vs S) {i : Nat} {v : V} (hv : vs[i]? = some v) : ∃ l m, v = .ref l ∧ S[i]? = some m ∧ H l = none ∧ H1 l = some (.lst (m.map V.int)) := by
  induction h generalizing i with
  | nil => simp at hv
  | cons a b _ ih =>
    cases i with
    | zero =>
      have e := Option.some.inj (show some _ = some _ from hv)
      subst e
      exact ⟨_, _, rfl, rfl, a, b⟩
    | succ i => exact ih (i := i) (by simpa using hv)
theorem take_map_next {f : Nat → List Int} {n i : Nat} (h : i < n) : ((List.range n).map f).take i ++ [f i] = ((List.range n).map f).take (i + 1) := by
  rw [List.take_add_one, List.getElem?_map, List.getElem?_range h]
  rfl
theorem rows_over {H H1 : Hp} {vs : List V} {S : List (List Int)} {D : Addr} {o : HO} (h : Rows H H1 vs S) (k : ∀ l, V.ref l ∈ vs → l ≠ D) : Rows H (upd H1 D o) vs S := by
  induction h with
  | nil => exact .nil
  | cons a b _ ih => exact .cons a (by rw [upd_ne (k _ List.mem_cons_self)]; exact b) (ih fun l hl => k l (List.mem_cons_of_mem _ hl))
theorem Rows.ne {H H1 : Hp} {vs : List V} {S : List (List Int)} {D : Addr} {o : HO} (h : Rows H H1 vs S) (e : H1 D = some (.lst vs)) : ∀ l, V.ref l ∈ vs → l ≠ D := by
  intro l hl z
  subst z
  have : ∀ {ws : List V} {T : List (List Int)}, Rows H H1 ws T → V.ref l ∈ ws → ∃ m : List Int, H1 l = some (.lst (m.map V.int)) := by
    intro ws T h2
    induction h2 with
    | nil => intro z; cases z
    | cons a b _ ih =>
      intro z
      rcases List.mem_cons.mp z with z | z
      · cases z
        exact ⟨_, b⟩
      · exact ih z
  obtain ⟨m, hm⟩ := this h hl
  rw [e] at hm
  have hm : vs = m.map V.int := by
    have := Option.some.inj hm
    injection this
  rw [hm] at hl
  obtain ⟨i, _, z⟩ := List.mem_map.mp hl
  cases z
theorem Rim.of_both {ns m : List Int} (h : Rim ns) (hm : m ∈ bothL ns) : Rim m := by
  obtain ⟨t, rfl | rfl⟩ := (mem_both h.pos).mp hm
  · exact h.rot t
  · exact h.mir.rot t
theorem tank_free {T : Addr} {H H' : Hp} {c d : Int} {p : Addr} (u : But T H H') (k : Tank H T c) (k' : Tank H' T d) (h : H' p = none) : H p = none := by
  obtain ⟨o, e⟩ := k.some
  obtain ⟨o', e'⟩ := k'.some
  exact free_but u e h (by rw [e']; exact fun z => nomatch z)
/-- one of some new lists -/
def OneOf (H H' : Hp) (T : Addr) (n : Nat) (v : V) : Prop := ∃ (l : Addr) (ms : List Int), v = .ref l ∧ H l = none ∧ l ≠ T ∧ H' l = some (.lst (ms.map V.int)) ∧ Rim ms ∧ ms.length = n
theorem OneOf.but {H H1 H2 : Hp} {T : Addr} {n : Nat} {v : V} (h : OneOf H H1 T n v) (u : But T H1 H2) : OneOf H H2 T n v := by
  obtain ⟨l, ms, e, a, b, c, d, f⟩ := h
  exact ⟨l, ms, e, a, b, u _ _ c b, d, f⟩
theorem at_any {xs : List V} {i : Int} (h0 : 0 ≤ i) (h1 : i < xs.length) : ∃ v, v ∈ xs ∧ atI xs i = some v := by
  obtain ⟨j, rfl⟩ : ∃ j : Nat, i = (j : Int) := ⟨i.toNat, by omega⟩
  have h3 : j < xs.length := by omega
  exact ⟨xs[j], List.getElem_mem h3, atI_nat (List.getElem?_eq_getElem h3)⟩
theorem rows_step {H H1 H2 : Hp} {D l : Addr} {vs : List V} {S : List (List Int)} {i : Nat} {m : List Int} (hD : H D = none) (s1 : Same H H1) (hD1 : H1 D = some (.lst vs)) (hr1 : Rows H H1 vs (S.take i)) (s2 : Same H1 H2) (hl : H1 l = none) (hl2 : H2 l = some (.lst (m.map V.int))) (hi : S[i]? = some m) :
    Same H (upd H2 D (.lst (vs ++ [.ref l]))) ∧ Rows H (upd H2 D (.lst (vs ++ [.ref l]))) (vs ++ [.ref l]) (S.take (i + 1)) := by
  refine ⟨same_over (s1.trans s2) hD, ?_⟩
  have nl : l ≠ D := fun e => by
    rw [e, hD1] at hl
    cases hl
  have hr3 := hr1.up s2
  have hr4 := rows_over (o := .lst (vs ++ [.ref l])) hr3 (hr3.ne (o := .lst vs) (s2 _ _ hD1))
  have := hr4.snoc (s1.free hl) (m := m) (by rw [upd_ne nl]; exact hl2)
  rw [List.take_add_one, hi]
  exact this
theorem turns_at {ns : List Int} {i : Nat} (h : i < ns.length) : (turnsL ns)[i]? = some (rot ns (0 + (i : Int))) := by
  unfold turnsL
  rw [List.getElem?_map, List.getElem?_range h, Int.zero_add]
  rfl
theorem rows_fit {H H1 : Hp} {vs : List V} {S : List (List Int)} {i n : Nat} (h : Rows H H1 vs (S.take i)) (hn : S.length = n) (hk : n ≤ 100000) : vs.length < sizeLine := by
  have := h.len
  rw [List.length_take] at this
  exact sz40 (by omega)
/-- the answers, as data -/
def ansD (p hs : List Int) (m m2 : List Int) (x : Bool) : PyData := .list [headD p, headD hs, dI m, dI m2, .bool x]
theorem rp_bl (x : Bool) : RP (.bool x) := ⟨by simp only [PyData.showable], by simp only [PyData.hasDict], by simp only [PyData.canLay0], by simp only [PyData.depth]; omega⟩
theorem depth_head : ∀ l : List Int, (headD l).depth ≤ 1
  | [] => by simp only [headD, PyData.depth]; omega
  | _ :: _ => by simp only [headD, PyData.depth]; omega
theorem shown_head {l : List Int} (h : Ab 100 l) : (headD l).shown.length ≤ 100000 := by
  cases l with
  | nil => decide +kernel
  | cons x r => exact Nat.le_trans (shown_int (Nat.lt_of_lt_of_le (h x List.mem_cons_self) (pow_up (by decide)))) (by decide)
theorem ansD_rp {p hs m m2 : List Int} {x : Bool} (h1 : Ab 100 p) (h2 : Ab 100 hs) (h3 : Rim m) (h4 : Rim m2) : RP (ansD p hs m m2 x) ∧ (ansD p hs m m2 x).shown.length ≤ sizeLine := by
  have d3 := dp_ints_depth h3.abs
  have d4 := dp_ints_depth h4.abs
  refine ⟨((RPs.cons (rp_head h1) (depth_head p) (RPs.cons (rp_head h2) (depth_head hs) (RPs.cons h3.rp d3 (RPs.cons h4.rp d4 (RPs.cons (rp_bl x) (by simp only [PyData.depth]; omega) RPs.nil))))).list (by omega)).1, ?_⟩
  have e := shown_list (B := 100000) (ds := [headD p, headD hs, dI m, dI m2, .bool x]) fun d hd => by
    simp only [List.mem_cons, List.not_mem_nil, or_false] at hd
    rcases hd with rfl | rfl | rfl | rfl | rfl
    · exact shown_head h1
    · exact shown_head h2
    · have := shown_ints h3.abs
      have := h3.le
      omega
    · have := shown_ints h4.abs
      have := h4.le
      omega
    · cases x <;> decide +kernel
  exact fit_le (Nat.le_trans e (by show (100000 + 2) * 5 + 3 ≤ 16000000; decide))
theorem ansD_dp {K : PySem.W.Frag} {H : Hp} {l a b : Addr} {p hs m m2 : List Int} {x : Bool} (h : SqL K H l [headV p, headV hs, .ref a, .ref b, .bl x]) (ha : SqL K H a (m.map V.int)) (hb : SqL K H b (m2.map V.int)) : Dp K H (.ref l) (ansD p hs m m2 x) :=
  .lst h (.cons (dp_head p) (.cons (dp_head hs) (.cons (dp_ints ha) (.cons (dp_ints hb) (.cons (.bl x) .nil)))))
theorem atI_cons {v : V} {vs : List V} : atI (v :: vs) 0 = some v := atI_nat (j := 0) rfl
theorem perL_ab {ns : List Int} (h : ns.length ≤ 40) : Ab 100 (perL ns) := hits_ab (by decide) (by decide) (by omega)
theorem inD {X : Cx} {K : PySem.W.Frag} (h : X.K = K) {k : Nat} (hr : Room k X.A) : OpR X (compareOp .In) (rInD K) := h ▸ op_inD (by have := hr.un; omega)
end Sd

namespace Sd
open PySem PySem.Spec PyProof.Rows L2

/-! ### lights of turned and of mirrored discs -/
def cutAt (l : List Int) (b : Int) : Nat := ((0 - b) % (l.length : Int)).toNat
theorem on_rot {l : List Int} (b : Int) (h : 1 ≤ l.length) : l.drop (cutAt l b) ++ l.take (cutAt l b) = rot l b := by
  have hm := mod_in (i := 0 - b) (show 0 < l.length by omega)
  have hc : ((cutAt l b : Nat) : Int) = (0 - b) % (l.length : Int) := Int.toNat_of_nonneg hm.1
  generalize cutAt l b = c at hc
  have hcl : c < l.length := by omega
  refine ext_getD ?_ fun j hj => ?_
  · rw [List.length_append, List.length_drop, List.length_take, rot_len]
    omega
  · rw [List.length_append, List.length_drop, List.length_take] at hj
    have hj : j < l.length := by omega
    rw [rot_get hj]
    have e : ((j : Int) - b) % (l.length : Int) = ((c : Int) + j) % (l.length : Int) := by
      rw [hc, Int.emod_add_emod]
      exact congrArg (· % (l.length : Int)) (by omega)
    rw [e]
    rw [List.getD_eq_getElem?_getD, List.getD_eq_getElem?_getD]
    by_cases q : j < l.length - c
    · rw [List.getElem?_append_left (by rw [List.length_drop]; exact q), List.getElem?_drop, Int.emod_eq_of_lt (by omega) (by omega)]
      rw [show ((c : Int) + (j : Int)).toNat = c + j by omega]
    · rw [List.getElem?_append_right (by rw [List.length_drop]; omega), List.length_drop, List.getElem?_take_of_lt (by omega)]
      rw [show ((c : Int) + (j : Int)) = ((j - (l.length - c) : Nat) : Int) + (l.length : Int) by omega, Int.add_emod_right, Int.emod_eq_of_lt (by omega) (by omega), Int.toNat_natCast]
theorem sum_rot (l : List Int) (b : Int) : (rot l b).sum = l.sum := by
  by_cases h : 1 ≤ l.length
  · rw [← on_rot b h, List.sum_append, Int.add_comm, ← List.sum_append, List.take_append_drop]
  · have : l = [] := List.length_eq_zero_iff.mp (by omega)
    subst this
    rfl
theorem mir_cut {l : List Int} (h : 1 ≤ l.length) : l.take 1 ++ (l.drop 1).reverse = mir l := by
  refine ext_getD ?_ fun j hj => ?_
  · rw [List.length_append, List.length_reverse, List.length_drop, List.length_take, mir_len]
    omega
  · rw [List.length_append, List.length_reverse, List.length_drop, List.length_take] at hj
    have hj : j < l.length := by omega
    rw [mir_get hj, List.getD_eq_getElem?_getD, List.getD_eq_getElem?_getD]
    by_cases q : j = 0
    · subst q
      rw [List.getElem?_append_left (by rw [List.length_take]; omega), List.getElem?_take_of_lt (by omega)]
      rw [show (-((0 : Nat) : Int)) % (l.length : Int) = 0 by simp]
      rfl
    · rw [List.getElem?_append_right (by rw [List.length_take]; omega), List.length_take, List.getElem?_reverse (by rw [List.length_drop]; omega), List.length_drop, List.getElem?_drop]
      have e : (-(j : Int)) % (l.length : Int) = (l.length : Int) - j := by
        rw [← Int.add_emod_right, Int.emod_eq_of_lt (by omega) (by omega)]
        omega
      rw [e]
      rw [show 1 + (l.length - 1 - 1 - (j - min 1 l.length)) = ((l.length : Int) - (j : Int)).toNat by omega]
theorem sum_mir (l : List Int) : (mir l).sum = l.sum := by
  by_cases h : 1 ≤ l.length
  · rw [← mir_cut h, List.sum_append, List.sum_reverse, ← List.sum_append, List.take_append_drop]
  · have : l = [] := List.length_eq_zero_iff.mp (by omega)
    subst this
    rfl
theorem prods_get {a b : List Int} {j : Nat} (h1 : j < a.length) (h2 : j < b.length) : (prods a b).getD j 0 = a.getD j 0 * b.getD j 0 := getD_at (prods_at (at_getD h1) (at_getD h2))
theorem prods_rot {a b : List Int} (hl : a.length = b.length) (s : Int) : prods (rot a s) (rot b s) = rot (prods a b) s := by
  have lp : (prods a b).length = a.length := by rw [prods_len]; omega
  refine ext_getD (by rw [prods_len, rot_len, rot_len, rot_len, lp]; omega) fun j hj => ?_
  rw [prods_len, rot_len, rot_len] at hj
  have hm := mod_in (i := (j : Int) - s) (show 0 < a.length by omega)
  rw [prods_get (by rw [rot_len]; omega) (by rw [rot_len]; omega), rot_get (by omega), rot_get (by omega), rot_get (by omega), lp, ← hl, prods_get (by omega) (by omega)]
theorem prods_mir {a b : List Int} (hl : a.length = b.length) : prods (mir a) (mir b) = mir (prods a b) := by
  have lp : (prods a b).length = a.length := by rw [prods_len]; omega
  refine ext_getD (by rw [prods_len, mir_len, mir_len, mir_len, lp]; omega) fun j hj => ?_
  rw [prods_len, mir_len, mir_len] at hj
  have hm := mod_in (i := -(j : Int)) (show 0 < a.length by omega)
  rw [prods_get (by rw [mir_len]; omega) (by rw [mir_len]; omega), mir_get (by omega), mir_get (by omega), mir_get (by omega), lp, ← hl, prods_get (by omega) (by omega)]
theorem prods_comm (a b : List Int) : prods a b = prods b a := by
  unfold prods
  exact List.zipWith_comm_of_comm Int.mul_comm
theorem light_rot2 (ns ms : List Int) (b t : Int) : lightV ns (rot ms b) t = lightV ns ms (t + b) := by
  unfold lightV
  rw [rot_add, Int.add_comm]
theorem light_rot1 {ns ms : List Int} (hl : ns.length = ms.length) (b t : Int) : lightV (rot ns b) ms t = lightV ns ms (t - b) := by
  unfold lightV
  rw [show rot ms t = rot (rot ms (t - b)) b by rw [rot_add, show t - b + b = t by omega], prods_rot (by rw [rot_len]; exact hl), sum_rot]
theorem light_mir {ns ms : List Int} (hl : ns.length = ms.length) (t : Int) : lightV (mir ns) (mir ms) t = lightV ns ms (-t) := by
  unfold lightV
  rw [show rot (mir ms) t = mir (rot ms (-t)) by rw [mir_rot, Int.neg_neg], prods_mir (by rw [rot_len]; exact hl), sum_mir]
theorem light_swap {ns ms : List Int} (hl : ns.length = ms.length) (t : Int) : lightV ms ns t = lightV ns ms (-t) := by
  have e := light_rot1 hl t 0
  rw [show (0 : Int) - t = -t by omega] at e
  rw [← e]
  unfold lightV
  rw [rot_zero, prods_comm]
theorem lights_get {ns ms : List Int} {i : Nat} (h : i < ns.length) : (lightsV ns ms).getD i 0 = lightV ns ms (i : Int) := getD_at (lightsV_at h)
theorem lights_getM {ns ms : List Int} (hl : ns.length = ms.length) (h1 : 1 ≤ ns.length) (t : Int) : (lightsV ns ms).getD ((t % (ns.length : Int)).toNat) 0 = lightV ns ms t := by
  have hm := mod_in (i := t) (show 0 < ns.length by omega)
  rw [lights_get (by omega), Int.toNat_of_nonneg hm.1, hl, lightV_mod]
theorem lights_rotG {ns ms as bs : List Int} (hl : ns.length = ms.length) (ha : as.length = ns.length) (b : Int) (h : ∀ t, lightV as bs t = lightV ns ms (t - b)) : lightsV as bs = rot (lightsV ns ms) b := by
  refine ext_getD (by rw [rot_len, lightsV_len, lightsV_len, ha]) fun j hj => ?_
  rw [lightsV_len] at hj
  rw [lights_get hj, rot_get (by rw [lightsV_len]; omega), lightsV_len, lights_getM hl (by omega), h]
theorem lights_mirG {ns ms as bs : List Int} (hl : ns.length = ms.length) (ha : as.length = ns.length) (h : ∀ t, lightV as bs t = lightV ns ms (-t)) : lightsV as bs = mir (lightsV ns ms) := by
  refine ext_getD (by rw [mir_len, lightsV_len, lightsV_len, ha]) fun j hj => ?_
  rw [lightsV_len] at hj
  rw [lights_get hj, mir_get (by rw [lightsV_len]; omega), lightsV_len, lights_getM hl (by omega), h]
theorem lights_rot2 {ns ms : List Int} (hl : ns.length = ms.length) (b : Int) : lightsV ns (rot ms b) = rot (lightsV ns ms) (0 - b) :=
  lights_rotG hl rfl _ fun t => by rw [light_rot2, show t - (0 - b) = t + b by omega]
theorem lights_rot1 {ns ms : List Int} (hl : ns.length = ms.length) (b : Int) : lightsV (rot ns b) ms = rot (lightsV ns ms) b :=
  lights_rotG hl (rot_len _ _) _ fun t => light_rot1 hl b t
theorem lights_both {ns ms : List Int} (hl : ns.length = ms.length) (b : Int) : lightsV (rot ns b) (rot ms b) = lightsV ns ms := by
  have := lights_rotG (as := rot ns b) (bs := rot ms b) hl (rot_len _ _) 0 fun t => by rw [light_rot2, light_rot1 hl, show t + b - b = t - 0 by omega]
  rw [this, rot_zero]
theorem lights_mir {ns ms : List Int} (hl : ns.length = ms.length) : lightsV (mir ns) (mir ms) = mir (lightsV ns ms) := lights_mirG hl (mir_len _) fun t => light_mir hl t
theorem lights_swap {ns ms : List Int} (hl : ns.length = ms.length) : lightsV ms ns = mir (lightsV ns ms) := lights_mirG hl hl.symm fun t => light_swap hl t
theorem steps_rot2 (ns ms : List Int) (b f st : Int) (k : Nat) : stepsV ns (rot ms b) f st k = stepsV ns ms (f + b) st k := by
  unfold stepsV
  refine List.map_congr_left fun i _ => ?_
  rw [light_rot2, show f + st * (i : Int) + b = f + b + st * (i : Int) by omega]
theorem far_rot2 {ns ms : List Int} (hl : ns.length = ms.length) (b f st N : Int) : farV ns (rot ms b) f st N = farV ns ms ((f + b) % (ns.length : Int)) st N := by
  unfold farV
  rw [steps_rot2, hl, stepsV_mod]

/-! ### the period -/
theorem hits_congr {xs ys xs' ys' : List Int} {o : Int} (h : ∀ t, rot xs t = ys ↔ rot xs' t = ys') : ∀ k, hits xs ys o k = hits xs' ys' o k
  | 0 => rfl
  | k + 1 => by
    by_cases q : rot xs (o + (k : Int)) = ys
    · rw [hits_yes q, hits_yes ((h _).mp q), hits_congr h k]
    · rw [hits_no q, hits_no (fun z => q ((h _).mpr z)), hits_congr h k]
theorem hits_first {xs ys : List Int} {o p : Int} {r : List Int} : ∀ {k : Nat}, hits xs ys o k = p :: r → rot xs p = ys ∧ o ≤ p ∧ p < o + (k : Int) ∧ ∀ t, o ≤ t → t < p → ¬ rot xs t = ys
  | 0, h => by cases h
  | k + 1, h => by
    by_cases q : rot xs (o + (k : Int)) = ys
    · rw [hits_yes q] at h
      cases e : hits xs ys o k with
      | nil =>
        rw [e] at h
        have hp := (List.cons.inj h).1
        subst hp
        refine ⟨q, by omega, by omega, fun t h1 h2 z => ?_⟩
        have : ∀ {k : Nat} {t : Int}, o ≤ t → t < o + (k : Int) → rot xs t = ys → hits xs ys o k ≠ [] := by
            intro k
            induction k with
            | zero => intro t a b _; omega
            | succ k ih =>
              intro t a b z e
              by_cases c : t = o + (k : Int)
              · subst c
                rw [hits_yes z] at e
                have := congrArg List.length e
                simp at this
              · refine ih a (by omega) z ?_
                rw [hits] at e
                exact (List.append_eq_nil_iff.mp e).1
        exact this h1 h2 z e
      | cons p' r' =>
        rw [e] at h
        have hp : p' = p := (List.cons.inj h).1
        subst hp
        obtain ⟨a, b, c, d⟩ := hits_first (k := k) e
        exact ⟨a, b, by omega, d⟩
    · rw [hits_no q] at h
      obtain ⟨a, b, c, d⟩ := hits_first (k := k) h
      exact ⟨a, b, by omega, d⟩
theorem hits_ex {xs ys : List Int} {o t : Int} : ∀ {k : Nat}, o ≤ t → t < o + (k : Int) → rot xs t = ys → ∃ p r, hits xs ys o k = p :: r
  | 0, a, b, _ => by omega
  | k + 1, a, b, z => by
    by_cases c : t = o + (k : Int)
    · subst c
      rw [hits_yes z]
      cases hits xs ys o k with
      | nil => exact ⟨_, _, rfl⟩
      | cons p r => exact ⟨_, _, rfl⟩
    · obtain ⟨p, r, e⟩ := hits_ex (k := k) a (by omega) z
      rw [hits, e]
      exact ⟨_, _, rfl⟩
theorem rot_inj {ns : List Int} {s t : Int} (h : rot ns s = rot ns t) : rot ns (s - t) = ns := by
  have e := congrArg (fun l => rot l (0 - t)) h
  simp only [rot_add] at e
  rw [show t + (0 - t) = 0 by omega, rot_zero, show s + (0 - t) = s - t by omega] at e
  exact e
/-- what the period is -/
structure Per (ns : List Int) (p : Int) : Prop where
  fix : rot ns p = ns
  pos : 1 ≤ p
  le : p ≤ ns.length
  low : ∀ t, 1 ≤ t → t < p → ¬ rot ns t = ns
theorem per_of {ns : List Int} {p : Int} {r : List Int} (h : perL ns = p :: r) : Per ns p := by
  unfold perL at h
  obtain ⟨a, b, c, d⟩ := hits_first h
  exact ⟨a, b, by omega, d⟩
theorem Per.mul {ns : List Int} {p : Int} (h : Per ns p) : ∀ q : Nat, rot ns (p * (q : Int)) = ns
  | 0 => by rw [show p * ((0 : Nat) : Int) = 0 by simp, rot_zero]
  | q + 1 => by
    rw [show p * ((q + 1 : Nat) : Int) = p * (q : Int) + p by rw [Int.natCast_succ, Int.mul_add, Int.mul_one], ← rot_add, h.mul q, h.fix]
theorem Per.mulZ {ns : List Int} {p : Int} (h : Per ns p) (q : Int) : rot ns (p * q) = ns := by
  rcases Int.eq_nat_or_neg q with ⟨k, e | e⟩
  · rw [e]
    exact h.mul k
  · have e2 := rot_inj (ns := ns) (s := 0) (t := p * (k : Int)) (by rw [rot_zero, h.mul k])
    rw [show (0 : Int) - p * (k : Int) = p * q by rw [e, Int.mul_neg]; omega] at e2
    exact e2
theorem Per.mod {ns : List Int} {p : Int} (h : Per ns p) (t : Int) : rot ns (t % p) = rot ns t := by
  have e := Int.mul_ediv_add_emod t p
  have e2 : rot (rot ns (p * (t / p))) (t % p) = rot ns t := by rw [rot_add, e]
  rw [h.mulZ] at e2
  exact e2
theorem Per.zero {ns : List Int} {p : Int} (h : Per ns p) {t : Int} (e : rot ns t = ns) : t % p = 0 := by
  have hp := h.pos
  have a := Int.emod_nonneg t (show p ≠ 0 by omega)
  have b := Int.emod_lt_of_pos t (show 0 < p by omega)
  rw [← h.mod] at e
  by_cases c : 1 ≤ t % p
  · exact absurd e (h.low _ c b)
  · omega
theorem Per.dvd {ns : List Int} {p : Int} (h : Per ns p) : (ns.length : Int) % p = 0 := h.zero (rot_full ns)
/-- the least turn from one to the other lies below the period -/
theorem Per.first {ns ms : List Int} {p q : Int} {r : List Int} {k : Nat} (h : Per ns p) (e : hits ns ms 0 k = q :: r) : 0 ≤ q ∧ q < p ∧ rot ns q = ms := by
  obtain ⟨a, b, _, d⟩ := hits_first e
  have hp := h.pos
  have m0 := Int.emod_nonneg q (show p ≠ 0 by omega)
  have m1 := Int.emod_lt_of_pos q (show 0 < p by omega)
  refine ⟨b, ?_, a⟩
  by_cases c : q < p
  · exact c
  · exact absurd (by rw [h.mod]; exact a) (d (q % p) m0 (by omega))
theorem Per.between {ns : List Int} {p q b : Int} {r : List Int} {k : Nat} (h : Per ns p) (e : hits ns (rot ns b) 0 k = q :: r) : q = b % p := by
  obtain ⟨q0, q1, q2⟩ := h.first e
  have z := h.zero (rot_inj q2)
  have e2 : q % p = b % p := Int.emod_eq_emod_iff_emod_sub_eq_zero.mpr z
  rw [Int.emod_eq_of_lt q0 q1] at e2
  exact e2
theorem per_rot {ns : List Int} (b : Int) : perL (rot ns b) = perL ns := by
  unfold perL
  rw [rot_len]
  refine hits_congr (fun t => ?_) _
  rw [rot_add]
  constructor
  · intro h
    have := rot_inj h
    rw [show b + t - b = t by omega] at this
    exact this
  · intro h
    rw [show b + t = t + b by omega, ← rot_add, h]
theorem per_mir {ns : List Int} : perL (mir ns) = perL ns := by
  unfold perL
  rw [mir_len]
  refine hits_congr (fun t => ?_) _
  have key : ∀ {xs : List Int} {t : Int}, rot xs t = xs → rot (mir xs) t = mir xs := fun {xs t} h => by
    have e := congrArg mir h
    rw [mir_rot] at e
    have e2 := rot_inj (ns := mir xs) (s := 0) (t := -t) (by rw [rot_zero, e])
    rw [show (0 : Int) - -t = t by omega] at e2
    exact e2
  constructor
  · intro h
    have := key h
    rw [mir_mir] at this
    exact this
  · exact key

/-! ### sorted lists -/
theorem sorted_eq : ∀ {a b : List Int}, a.Perm b → a.Pairwise (· ≤ ·) → b.Pairwise (· ≤ ·) → a = b
  | [], b, p, _, _ => (List.nil_perm.mp p).symm
  | x :: a, b, p, ha, hb => by
    cases b with
    | nil => exact absurd p.length_eq (by simp)
    | cons y b =>
      have h1 := List.pairwise_cons.mp ha
      have h2 := List.pairwise_cons.mp hb
      have e : x = y := by
        rcases List.mem_cons.mp (p.mem_iff.mp List.mem_cons_self) with e | e
        · exact e
        · rcases List.mem_cons.mp (p.mem_iff.mpr List.mem_cons_self) with e' | e'
          · exact e'.symm
          · have := h1.1 y e'
            have := h2.1 x e
            omega
      subst e
      rw [sorted_eq p.cons_inv h1.2 h2.2]
theorem perm_mem : ∀ {a b : List Int}, a.Nodup → b.Nodup → (∀ x, x ∈ a ↔ x ∈ b) → a.Perm b
  | [], b, _, _, h => by
    cases b with
    | nil => exact .nil
    | cons y b => exact absurd ((h y).mpr List.mem_cons_self) (List.not_mem_nil)
  | x :: a, b, ha, hb, h => by
    have h1 := List.nodup_cons.mp ha
    have hx : x ∈ b := (h x).mp List.mem_cons_self
    have p := List.perm_cons_erase hx
    refine List.Perm.trans (List.Perm.cons x (perm_mem h1.2 (hb.erase x) fun y => ?_)) p.symm
    rw [hb.mem_erase_iff]
    constructor
    · intro hy
      exact ⟨fun e => h1.1 (by rw [← e]; exact hy), (h y).mp (List.mem_cons_of_mem _ hy)⟩
    · rintro ⟨n, hy⟩
      rcases List.mem_cons.mp ((h y).mpr hy) with e | e
      · exact absurd e n
      · exact e
theorem mem_places {p : Int → Bool} {ns : List Int} {k : Nat} {x : Int} : x ∈ places p ns k ↔ ∃ i : Nat, x = (i : Int) ∧ i < k ∧ p (ns.getD i 0) = true := by
  unfold places
  constructor
  · intro h
    obtain ⟨i, hi, rfl⟩ := List.mem_map.mp h
    have := List.mem_filter.mp hi
    exact ⟨i, rfl, List.mem_range.mp this.1, this.2⟩
  · rintro ⟨i, rfl, h1, h2⟩
    exact List.mem_map.mpr ⟨i, List.mem_filter.mpr ⟨List.mem_range.mpr h1, h2⟩, rfl⟩
theorem places_sorted (p : Int → Bool) (ns : List Int) (k : Nat) : (places p ns k).Pairwise (· < ·) := by
  unfold places
  rw [List.pairwise_map]
  refine List.Pairwise.imp (fun {a b} h => by show (a : Int) < (b : Int); omega) (List.Pairwise.filter _ List.pairwise_lt_range)
theorem nodup_lt {l : List Int} (h : l.Pairwise (· < ·)) : l.Nodup := List.Pairwise.imp (fun {a b} h e => by omega) h
/-- the brightest turns of the turned one -/
theorem brights_rot {ns ms : List Int} (hl : ns.length = ms.length) (h1 : 1 ≤ ns.length) (b m : Int) {s : List Int}
    (hp : s.Perm ((places (fun x => decide (x = m)) (lightsV ns ms) ns.length).map fun one => (one - b) % (ns.length : Int))) (hs : s.Pairwise (· ≤ ·)) :
    places (fun x => decide (x = m)) (lightsV ns (rot ms b)) ns.length = s := by
  refine sorted_eq (List.Perm.trans (perm_mem (nodup_lt (places_sorted _ _ _)) ?_ fun x => ?_) hp.symm) (List.Pairwise.imp (fun {a b} h => by omega) (places_sorted _ _ _)) hs
  · rw [List.Nodup, List.pairwise_map]
    refine List.Pairwise.imp_of_mem (fun {x y} hx hy hxy e => ?_) (places_sorted _ _ _)
    obtain ⟨i, rfl, hi, _⟩ := mem_places.mp hx
    obtain ⟨j, rfl, hj, _⟩ := mem_places.mp hy
    have e2 := Int.emod_eq_emod_iff_emod_sub_eq_zero.mp e
    rw [show (i : Int) - b - ((j : Int) - b) = (i : Int) - j by omega] at e2
    have e3 := Int.emod_eq_emod_iff_emod_sub_eq_zero.mpr e2
    rw [Int.emod_eq_of_lt (by omega) (by omega), Int.emod_eq_of_lt (by omega) (by omega)] at e3
    omega
  · rw [mem_places, List.mem_map]
    constructor
    · rintro ⟨i, rfl, hi, hq⟩
      have hm := mod_in (i := (i : Int) + b) (show 0 < ns.length by omega)
      refine ⟨((i : Int) + b) % (ns.length : Int), mem_places.mpr ⟨(((i : Int) + b) % (ns.length : Int)).toNat, by omega, by omega, ?_⟩, ?_⟩
      · rw [lights_getM hl h1]
        rw [lights_get hi, light_rot2] at hq
        exact hq
      · rw [Int.emod_sub_emod, show (i : Int) + b - b = i by omega, Int.emod_eq_of_lt (by omega) (by omega)]
    · rintro ⟨x', hx, rfl⟩
      obtain ⟨i, rfl, hi, hq⟩ := mem_places.mp hx
      have hm := mod_in (i := (i : Int) - b) (show 0 < ns.length by omega)
      refine ⟨(((i : Int) - b) % (ns.length : Int)).toNat, by omega, by omega, ?_⟩
      rw [lights_get (by omega), Int.toNat_of_nonneg hm.1, light_rot2]
      rw [lights_get hi] at hq
      rw [← lightV_mod, ← hl, Int.emod_add_emod, hl, lightV_mod, show (i : Int) - b + b = i by omega]
      exact hq
end Sd

namespace Sd
open PySem PySem.Spec PyProof.Rows L2

/-! ### data of any kind, with empty dicts -/
mutual
inductive Dq (H : Hp) : V → PyData → Prop
  | non : Dq H .non .none
  | bl (b : Bool) : Dq H (.bl b) (.bool b)
  | int (i : Int) : Dq H (.int i) (.int i)
  | str (x : Str) : Dq H (.str x) (.str x)
  | lst {a : Addr} {xs : List V} {ds : List PyData} : H a = some (.lst xs) → DqAll H xs ds → Dq H (.ref a) (.list ds)
  | tup {a : Addr} {xs : List V} {ds : List PyData} : H a = some (.tup xs) → DqAll H xs ds → Dq H (.ref a) (.tuple ds)
  | emp {a : Addr} : H a = some (.dK []) → Dq H (.ref a) (.dict [])
inductive DqAll (H : Hp) : List V → List PyData → Prop
  | nil : DqAll H [] []
  | cons {v : V} {vs : List V} {d : PyData} {ds : List PyData} : Dq H v d → DqAll H vs ds → DqAll H (v :: vs) (d :: ds)
end
mutual
theorem Dq.same {H H' : Hp} (s : Same H H') : ∀ {v : V} {d : PyData}, Dq H v d → Dq H' v d
  | _, _, .non => .non
  | _, _, .bl b => .bl b
  | _, _, .int i => .int i
  | _, _, .str x => .str x
  | _, _, .lst h1 h2 => .lst (s _ _ h1) (DqAll.same s h2)
  | _, _, .tup h1 h2 => .tup (s _ _ h1) (DqAll.same s h2)
  | _, _, .emp h => .emp (s _ _ h)
theorem DqAll.same {H H' : Hp} (s : Same H H') : ∀ {vs : List V} {ds : List PyData}, DqAll H vs ds → DqAll H' vs ds
  | _, _, .nil => .nil
  | _, _, .cons h1 h2 => .cons (Dq.same s h1) (DqAll.same s h2)
end
section
variable {X : Cx} {pins : List (Addr × Obj)} {σ : L2.St} {H : Hp} {s : Shared}
theorem emp_reads (I : Inv X pins σ H s) {a : Addr} (h : H a = some (.dK [])) : Reads s.heap (.ref a) (.dict []) (a :: [] ++ []) ∧ sysModules ∉ (a :: [] ++ [] : List Addr) ∧ s.TypeIs (.ref a) "dict" := by
  obtain ⟨_, hsys, vs, kv, o, es, ep, e, ex, ed, _, pr, _⟩ := (show ObjOk X.prog X.w H s.heap a (.dK []) from I.hok a _ h)
  cases kv
  have he : es.toList = [] := by
    cases hl : es.toList with
    | nil => rfl
    | cons x l =>
      rw [hl] at pr
      cases pr
  refine ⟨.dict e ex.1 ed ?_ ?_, ?_, ⟨o, e, ex.1⟩⟩
  · rw [he]
    exact .nil
  · rw [he]
    exact .nil
  · intro z
    simp only [List.append_nil, List.mem_cons, List.not_mem_nil, or_false] at z
    rw [← z] at hsys
    exact absurd hsys (by decide)
mutual
theorem reprK_q (I : Inv X pins σ H s) : ∀ (d : PyData) (v : V) (u : Value), Dq H v d → RelV v u → d.showable = true → d.shown.length ≤ sizeLine →
    ∃ as bs, Reads s.heap u d as ∧ ReadAtMost s.heap d.depth bs ∧ ReprK X.prog X.w bs s.heap d.depth u d.shown
  | .none, _, u, q, r, hs, hz => by
    cases q
    cases r
    obtain ⟨bs, h1, h2⟩ := ReprK.of_reads (prog := X.prog) (w := X.w) (Reads.none (h := s.heap)) hs (fun z => by simp only [PyData.hasDict] at z; cases z) hz
    exact ⟨_, bs, .none, h1, h2⟩
  | .bool b, _, u, q, r, hs, hz => by
    cases q
    cases r
    obtain ⟨bs, h1, h2⟩ := ReprK.of_reads (prog := X.prog) (w := X.w) (Reads.bool (h := s.heap) b) hs (fun z => by simp only [PyData.hasDict] at z; cases z) hz
    exact ⟨_, bs, .bool b, h1, h2⟩
  | .int i, _, u, q, r, hs, hz => by
    cases q
    obtain ⟨t, rfl⟩ := r
    obtain ⟨bs, h1, h2⟩ := ReprK.of_reads (prog := X.prog) (w := X.w) (Reads.int (h := s.heap) i t) hs (fun z => by simp only [PyData.hasDict] at z; cases z) hz
    exact ⟨_, bs, .int i t, h1, h2⟩
  | .str x, _, u, q, r, hs, hz => by
    cases q
    obtain ⟨t, rfl⟩ := r
    obtain ⟨bs, h1, h2⟩ := ReprK.of_reads (prog := X.prog) (w := X.w) (Reads.str (h := s.heap) x t) hs (fun z => by simp only [PyData.hasDict] at z; cases z) hz
    exact ⟨_, bs, .str x t, h1, h2⟩
  | .dict kvs, _, u, q, r, hs, hz => by
    cases q with
    | emp h =>
      cases r
      obtain ⟨rd, ns, _⟩ := emp_reads I h
      obtain ⟨bs, h1, h2⟩ := ReprK.of_reads (prog := X.prog) (w := X.w) rd hs (fun _ => ns) hz
      exact ⟨_, bs, rd, h1, h2⟩
  | .list ds, _, u, q, r, hs, hz => by
    cases q with
    | lst h hq =>
      cases r
      obtain ⟨_, its, n, rv, e⟩ := (show ObjOk X.prog X.w H s.heap _ (.lst _) from I.hok _ _ h)
      have hz2 : (listText (PyData.shownAll ds)).length ≤ sizeLine := by simpa only [PyData.shown] using hz
      obtain ⟨as, bs, ra, hb, hk⟩ := reprAllK_q I ds _ its hq rv (by simpa [PyData.showable] using hs) fun t ht => Nat.le_trans (listText_mem_le ht) hz2
      have rd : Reads s.heap (.ref _) (.list ds) _ := .list e rfl rfl ra
      have hna := not_mem_of_deeper rd (by simp only [PyData.depth]; omega) hb
      refine ⟨_, _, rd, ReadAtMost.cons rd (by simp only [PyData.depth]; omega) hb, ?_⟩
      simp only [PyData.depth, PyData.shown]
      cases its with
      | nil =>
        cases ra
        simp only [PyData.shownAll, listText_nil]
        exact ReprK.listEmpty e rfl rfl
      | cons y l => exact ReprK.list e rfl rfl hna (by simpa using hk.length_eq) fun i y e => hk.item i y (by simpa using e)
  | .tuple ds, _, u, q, r, hs, hz => by
    cases q with
    | tup h hq =>
      cases r
      obtain ⟨_, its, rv, o, e, hc, n, hd⟩ := (show ObjOk X.prog X.w H s.heap _ (.tup _) from I.hok _ _ h)
      have hz2 : (tupleText (PyData.shownAll ds)).length ≤ sizeLine := by simpa only [PyData.shown] using hz
      obtain ⟨as, bs, ra, hb, hk⟩ := reprAllK_q I ds _ its hq rv (by simpa [PyData.showable] using hs) fun t ht => Nat.le_trans (tupleText_mem_le ht) hz2
      have rd : Reads s.heap (.ref _) (.tuple ds) _ := .tuple e hc hd ra
      have hna := not_mem_of_deeper rd (by simp only [PyData.depth]; omega) hb
      refine ⟨_, _, rd, ReadAtMost.cons rd (by simp only [PyData.depth]; omega) hb, ?_⟩
      simp only [PyData.depth, PyData.shown]
      exact ReprK.tuple e hc hd hna hk
theorem reprAllK_q (I : Inv X pins σ H s) : ∀ (ds : List PyData) (vs : List V) (us : List Value), DqAll H vs ds → Vals vs us → PyData.showableAll ds = true → (∀ t ∈ PyData.shownAll ds, t.length ≤ sizeLine) →
    ∃ as bs, ReadsAll s.heap us ds as ∧ ReadAtMost s.heap (PyData.depthAll ds) bs ∧ ReprAllK X.prog X.w bs s.heap (PyData.depthAll ds) us (PyData.shownAll ds)
  | [], _, us, q, r, _, _ => by
    cases q
    cases r
    exact ⟨[], [], .nil, (fun _ h => nomatch h), by simp only [PyData.shownAll]; exact .nil⟩
  | d :: ds, _, us, q, r, hs, hz => by
    cases q with
    | cons q1 q2 =>
      cases r with
      | cons r1 r2 =>
        have hs2 : d.showable = true ∧ PyData.showableAll ds = true := by simpa [PyData.showableAll] using hs
        obtain ⟨a1, b1, x1, y1, k1⟩ := reprK_q I d _ _ q1 r1 hs2.1 (hz _ (by simp only [PyData.shownAll]; exact List.mem_cons_self))
        obtain ⟨a2, b2, x2, y2, k2⟩ := reprAllK_q I ds _ _ q2 r2 hs2.2 fun t ht => hz t (by simp only [PyData.shownAll]; exact List.mem_cons_of_mem _ ht)
        refine ⟨_, b1 ++ b2, .cons x1 x2, (y1.mono ?_).append (y2.mono ?_), ?_⟩
        · simp only [PyData.depthAll]
          omega
        · simp only [PyData.depthAll]
          omega
        · simp only [PyData.depthAll, PyData.shownAll]
          exact .cons ((k1.more fun b hb => List.mem_append_left _ hb).level_le (by omega)) (k2.more_le (fun b hb => List.mem_append_right _ hb) (by omega))
end
/-- repr of any such thing -/
def rReprQ : List V → Hp → VK → Prop := fun xs H Q => ∃ (x : V) (d : PyData), xs = [x] ∧ Dq H x d ∧ d.showable = true ∧ d.depth ≤ 32 ∧ d.shown.length ≤ sizeLine ∧ Q (.str d.shown) H
theorem reprQ {X : Cx} (hA : X.A.guards = some []) {k : Nat} (hr : Room k X.A) : CallR X (.builtin "repr") rReprQ := by
  intro pins s σ H xs us Q I r h
  obtain ⟨x, d, rfl, hd, h1, h3, h4, q⟩ := h
  have hu := hr.units
  have flat : ∀ {d : PyData}, Dp X.K H x d → d.showable = true → d.hasDict = false → d.depth ≤ 32 → d.shown.length ≤ sizeLine → Q (.str d.shown) H → wpAny (model X.prog X.w) X.A (call (.builtin "repr") us) (EP X pins σ Q) X.xe s := fun a b c e f g =>
    reprV rfl hA hr pins s σ H _ us Q I r ⟨x, _, rfl, a, b, c, e, f, g⟩
  cases hd with
  | non => exact flat .non h1 rfl h3 h4 q
  | bl b => exact flat (.bl b) h1 (by simp only [PyData.hasDict]) h3 h4 q
  | int i => exact flat (.int i) h1 (by simp only [PyData.hasDict]) h3 h4 q
  | str y => exact flat (.str y) h1 (by simp only [PyData.hasDict]) h3 h4 q
  | emp ha =>
    cases r with
    | cons r1 r2 =>
      cases r2
      cases r1
      obtain ⟨rd, ns, _⟩ := emp_reads I ha
      exact repr_of_reads' rd h1 (fun _ => ns) hA (by omega) (fun _ _ e => e) (fun h' u tk kp => ⟨.str (PyData.shown (.dict [])), H, I.kept (t' := tk) kp, ⟨u, rfl⟩, q⟩) h4
  | @lst a xs ds ha hq =>
    cases r with
    | cons r1 r2 =>
      cases r2
      cases r1
      obtain ⟨_, its, n, rv, e⟩ := (show ObjOk X.prog X.w H s.heap a (.lst xs) from I.hok a _ ha)
      have hz2 : (listText (PyData.shownAll ds)).length ≤ sizeLine := by simpa only [PyData.shown] using h4
      obtain ⟨as, bs, ra, hb, hk⟩ := reprAllK_q I ds _ its hq rv (by simpa [PyData.showable] using h1) fun t ht => Nat.le_trans (listText_mem_le ht) hz2
      have rd : Reads s.heap (.ref a) (.list ds) _ := .list e rfl rfl ra
      have hna := not_mem_of_deeper rd (by simp only [PyData.depth]; omega) hb
      have hdp : PyData.depthAll ds + 1 ≤ 32 := by simpa only [PyData.depth] using h3
      simp only [PyData.shown] at q
      refine call_repr_slot (by omega) ⟨_, e, rfl⟩ F.slot_list_repr.toG ?_
      cases its with
      | nil =>
        cases ra
        simp only [PyData.shownAll, listText_nil] at q
        exact call_list_repr_empty ⟨_, e, rfl⟩ e rfl ⟨_, _, rfl, .str "[]", H, I.tok _, ⟨_, rfl⟩, q⟩
      | cons y l =>
        exact call_list_reprK e rfl rfl hna (by simpa using hk.length_eq) (fun i y e => hk.item i y (by simpa using e)) hA (fun b _ => Clear.nil b) (by show X.A.units + 1 + _ < cLine; omega) (fun _ _ e => e)
          (fun h' u tk kp => ⟨_, _, rfl, .str (listText (PyData.shownAll ds)), H, I.kept (t' := tk) kp, ⟨u, rfl⟩, q⟩) hz2
  | @tup a xs ds ha hq =>
    cases r with
    | cons r1 r2 =>
      cases r2
      cases r1
      obtain ⟨_, its, rv, o, e, hc, n, hd⟩ := (show ObjOk X.prog X.w H s.heap a (.tup xs) from I.hok a _ ha)
      have hz2 : (tupleText (PyData.shownAll ds)).length ≤ sizeLine := by simpa only [PyData.shown] using h4
      obtain ⟨as, bs, ra, hb, hk⟩ := reprAllK_q I ds _ its hq rv (by simpa [PyData.showable] using h1) fun t ht => Nat.le_trans (tupleText_mem_le ht) hz2
      have rd : Reads s.heap (.ref a) (.tuple ds) _ := .tuple e hc hd ra
      have hna := not_mem_of_deeper rd (by simp only [PyData.depth]; omega) hb
      have hdp : PyData.depthAll ds + 1 ≤ 32 := by simpa only [PyData.depth] using h3
      simp only [PyData.shown] at q
      refine call_repr_slot (by omega) ⟨_, e, hc⟩ F.slot_tuple_repr ?_
      exact call_tuple_reprK e hc hd hna hk hA (fun b _ => Clear.nil b) (by show X.A.units + 1 + _ < cLine; omega) (fun _ _ e => e)
          (fun h' u tk kp => ⟨_, _, rfl, .str (tupleText (PyData.shownAll ds)), H, I.kept (t' := tk) kp, ⟨u, rfl⟩, q⟩) hz2
end
end Sd

namespace Sd
open PySem PySem.Spec PyProof.Rows L2

/-! ### what isinstance says of data -/
def tyQ : PyData → String
  | .none => "NoneType"
  | .bool _ => "bool"
  | .int _ => "int"
  | .str _ => "str"
  | .list _ => "list"
  | .tuple _ => "tuple"
  | .dict _ => "dict"
def intQ : PyData → Bool
  | .int _ => true
  | .bool _ => true
  | _ => false
def boolQ : PyData → Bool
  | .bool _ => true
  | _ => false
def listQ : PyData → Bool
  | .list _ => true
  | _ => false
theorem kit_intQ {K : PySem.W.Frag} (d : PyData) : PySem.W.kitOne K (.type (tyQ d)) (.type "int") = some (intQ d) := by
  cases d with
  | none => exact kit_ty (show kitB "NoneType" "int" = some false by decide +kernel)
  | bool _ => exact kit_ty (show kitB "bool" "int" = some true by decide +kernel)
  | int _ => exact kit_ty (show kitB "int" "int" = some true by decide +kernel)
  | str _ => exact kit_ty (show kitB "str" "int" = some false by decide +kernel)
  | list _ => exact kit_ty (show kitB "list" "int" = some false by decide +kernel)
  | tuple _ => exact kit_ty (show kitB "tuple" "int" = some false by decide +kernel)
  | dict _ => exact kit_ty (show kitB "dict" "int" = some false by decide +kernel)
theorem kit_boolQ {K : PySem.W.Frag} (d : PyData) : PySem.W.kitOne K (.type (tyQ d)) (.type "bool") = some (boolQ d) := by
  cases d with
  | none => exact kit_ty (show kitB "NoneType" "bool" = some false by decide +kernel)
  | bool _ => exact kit_ty (show kitB "bool" "bool" = some true by decide +kernel)
  | int _ => exact kit_ty (show kitB "int" "bool" = some false by decide +kernel)
  | str _ => exact kit_ty (show kitB "str" "bool" = some false by decide +kernel)
  | list _ => exact kit_ty (show kitB "list" "bool" = some false by decide +kernel)
  | tuple _ => exact kit_ty (show kitB "tuple" "bool" = some false by decide +kernel)
  | dict _ => exact kit_ty (show kitB "dict" "bool" = some false by decide +kernel)
theorem kit_listQ {K : PySem.W.Frag} (d : PyData) : PySem.W.kitOne K (.type (tyQ d)) (.type "list") = some (listQ d) := by
  cases d with
  | none => exact kit_ty (show kitB "NoneType" "list" = some false by decide +kernel)
  | bool _ => exact kit_ty (show kitB "bool" "list" = some false by decide +kernel)
  | int _ => exact kit_ty (show kitB "int" "list" = some false by decide +kernel)
  | str _ => exact kit_ty (show kitB "str" "list" = some false by decide +kernel)
  | list _ => exact kit_ty (show kitB "list" "list" = some true by decide +kernel)
  | tuple _ => exact kit_ty (show kitB "tuple" "list" = some false by decide +kernel)
  | dict _ => exact kit_ty (show kitB "dict" "list" = some false by decide +kernel)
theorem ty_q {K : PySem.W.Frag} {H : Hp} {v : V} {d : PyData} (q : Dq H v d) : TyX K H v (.type (tyQ d)) := by
  cases q with
  | non => exact .base .non
  | bl b => exact .base (.bl b)
  | int i => exact .base (.int i)
  | str x => exact .base (.str x)
  | lst h _ => exact .base (.lst h)
  | tup h _ => exact .base (.tup h)
  | emp h => exact .base (.dK h)
/-- an item that a slot of a disc can have -/
def okS (top : Int) : PyData → Bool
  | .int i => decide (0 ≤ i) && decide (i ≤ top)
  | _ => false
/-- a disc with items up to top -/
def discQ (top : Int) : PyData → Bool
  | .list ds => decide (1 ≤ ds.length) && decide (ds.length ≤ 40) && ds.all (okS top)
  | _ => false
def slotsQ : PyData → Bool
  | .list ds => decide (1 ≤ ds.length) && decide (ds.length ≤ 40)
  | _ => false
theorem DqAll.length {H : Hp} : ∀ {xs : List V} {ds : List PyData}, DqAll H xs ds → xs.length = ds.length
  | _, _, .nil => rfl
  | _, _, .cons _ h => congrArg Nat.succ (DqAll.length h)
theorem DqAll.at {H : Hp} : ∀ {xs : List V} {ds : List PyData} {i : Nat} {x : V}, DqAll H xs ds → xs[i]? = some x → ∃ d, ds[i]? = some d ∧ Dq H x d
  | _, _, _, _, .nil, e => by simp at e
  | _, _, 0, _, .cons h _, e => by
    simp at e
    subst e
    exact ⟨_, rfl, h⟩
  | _, _, i + 1, x, .cons _ h, e => by
    obtain ⟨d, h1, h2⟩ := DqAll.at (i := i) (x := x) h (by simpa using e)
    exact ⟨d, by simpa using h1, h2⟩
theorem DqAll.ints {H : Hp} {top : Int} : ∀ {xs : List V} {ds : List PyData}, DqAll H xs ds → ds.all (okS top) = true → ∃ ns : List Int, xs = ns.map V.int ∧ ns.length = ds.length ∧ ds = ns.map PyData.int ∧ ∀ n ∈ ns, 0 ≤ n ∧ n ≤ top
  | _, _, .nil, _ => ⟨[], rfl, rfl, rfl, fun n hn => (List.not_mem_nil hn).elim⟩
  | _, _, .cons (d := d) h hs, e => by
    rw [List.all_cons, Bool.and_eq_true] at e
    obtain ⟨ns, h1, h2, h3, h4⟩ := DqAll.ints hs e.2
    cases h with
    | int i =>
      have e1 := (Bool.and_eq_true _ _).mp e.1
      refine ⟨i :: ns, by rw [h1]; rfl, congrArg Nat.succ h2, by rw [h3]; rfl, fun n hn => ?_⟩
      rcases List.mem_cons.mp hn with z | z
      · rw [z]
        exact ⟨of_decide_eq_true e1.1, of_decide_eq_true e1.2⟩
      · exact h4 n z
    | non => exact absurd e.1 (by show ¬ false = true; decide)
    | bl b => exact absurd e.1 (by show ¬ false = true; decide)
    | str x => exact absurd e.1 (by show ¬ false = true; decide)
    | lst _ _ => exact absurd e.1 (by show ¬ false = true; decide)
    | tup _ _ => exact absurd e.1 (by show ¬ false = true; decide)
    | emp _ => exact absurd e.1 (by show ¬ false = true; decide)
theorem ints_ok {top : Int} : ∀ {ns : List Int}, (ns.map PyData.int).all (okS top) = true ↔ ∀ n ∈ ns, 0 ≤ n ∧ n ≤ top
  | [] => by simp
  | n :: ns => by
    have ih := ints_ok (top := top) (ns := ns)
    rw [List.map_cons, List.all_cons, Bool.and_eq_true, ih]
    constructor
    · intro h m hm
      have e1 := (Bool.and_eq_true _ _).mp h.1
      rcases List.mem_cons.mp hm with z | z
      · rw [z]
        exact ⟨of_decide_eq_true e1.1, of_decide_eq_true e1.2⟩
      · exact h.2 m z
    · intro h
      have h1 := h n List.mem_cons_self
      exact ⟨(Bool.and_eq_true _ _).mpr ⟨decide_eq_true h1.1, decide_eq_true h1.2⟩, fun m hm => h m (List.mem_cons_of_mem _ hm)⟩
/-- what holds of all items up to i, one more -/
theorem all_next {p : PyData → Bool} {ds : List PyData} {i : Nat} {d : PyData} (e : ds[i]? = some d) (h : (ds.take i).all p = true) : (ds.take (i + 1)).all p = p d := by
  rw [List.take_add_one, e, List.all_append, h]
  simp
theorem all_no {p : PyData → Bool} {ds : List PyData} {i : Nat} {d : PyData} (e : ds[i]? = some d) (h : p d = false) : ds.all p = false := by
  cases z : ds.all p with
  | false => rfl
  | true =>
    rw [List.all_eq_true.mp z d (List.mem_of_getElem? e)] at h
    cases h

/-! ### things beside a tank -/
def mask (t : Addr) (H : Hp) : Hp := fun b => if b = t then none else H b
theorem mask_ne {t b : Addr} {H : Hp} (h : b ≠ t) : mask t H b = H b := if_neg h
theorem mask_same (t : Addr) (H : Hp) : Same (mask t H) H := fun b o e => by
  unfold mask at e
  split at e
  · cases e
  · exact e
theorem mask_but {t : Addr} {H H' : Hp} (u : But t H H') : Same (mask t H) (mask t H') := fun b o e => by
  unfold mask at e ⊢
  split at e
  · cases e
  · rename_i n
    rw [if_neg n]
    exact u b o e n
/-- an item; a thing -/
def El (t : Addr) (H : Hp) (v : V) : Prop := ∃ d, Dq (mask t H) v d ∧ d.showable = true ∧ d.depth ≤ 1 ∧ d.shown.length ≤ 1100
def Th (t : Addr) (H : Hp) (v : V) : Prop := ∃ d, Dq (mask t H) v d ∧ d.showable = true ∧ d.depth ≤ 3 ∧ d.shown.length ≤ 300000
theorem El.but {t : Addr} {H H' : Hp} {v : V} (h : El t H v) (u : But t H H') : El t H' v := let ⟨d, q, r⟩ := h; ⟨d, q.same (mask_but u), r⟩
theorem Th.but {t : Addr} {H H' : Hp} {v : V} (h : Th t H v) (u : But t H H') : Th t H' v := let ⟨d, q, r⟩ := h; ⟨d, q.same (mask_but u), r⟩
theorem El.th {t : Addr} {H : Hp} {v : V} (h : El t H v) : Th t H v := let ⟨d, q, r1, r2, r3⟩ := h; ⟨d, q, r1, by omega, by omega⟩
theorem el_non {t : Addr} {H : Hp} : El t H .non := ⟨.none, .non, rfl, by decide, by decide +kernel⟩
theorem el_bl {t : Addr} {H : Hp} (b : Bool) : El t H (.bl b) := ⟨.bool b, .bl b, by simp only [PyData.showable], by simp only [PyData.depth]; omega, by cases b <;> decide +kernel⟩
theorem el_int {t : Addr} {H : Hp} {i : Int} (h : i.natAbs < 2 ^ 1000) : El t H (.int i) := ⟨.int i, .int i, (rp_int h).sh, by simp only [PyData.depth]; omega, by have := shown_int h; omega⟩
theorem el_emp {t : Addr} {H : Hp} {a : Addr} (h : H a = some (.dK [])) (n : a ≠ t) : El t H (.ref a) := ⟨.dict [], .emp (by rw [mask_ne n]; exact h), by decide, by decide, by decide +kernel⟩
/-- items all told -/
theorem els {t : Addr} {H : Hp} : ∀ {xs : List V}, (∀ x ∈ xs, El t H x) → ∃ ds, DqAll (mask t H) xs ds ∧ PyData.showableAll ds = true ∧ PyData.depthAll ds ≤ 1 ∧ ∀ d ∈ ds, d.shown.length ≤ 1100
  | [], _ => ⟨[], .nil, by simp only [PyData.showableAll], by simp only [PyData.depthAll]; omega, fun d hd => (List.not_mem_nil hd).elim⟩
  | x :: xs, h => by
    obtain ⟨d, q, r1, r2, r3⟩ := h x List.mem_cons_self
    obtain ⟨ds, p1, p2, p3, p4⟩ := els (xs := xs) fun y hy => h y (List.mem_cons_of_mem _ hy)
    refine ⟨d :: ds, .cons q p1, by simp only [PyData.showableAll, r1, p2, Bool.and_self], by simp only [PyData.depthAll]; omega, fun e he => ?_⟩
    rcases List.mem_cons.mp he with z | z
    · rw [z]
      exact r3
    · exact p4 e z
theorem th_list {t : Addr} {H : Hp} {p : Addr} {xs : List V} (h : H p = some (.lst xs)) (n : p ≠ t) (hl : xs.length ≤ 200) (hx : ∀ x ∈ xs, El t H x) : Th t H (.ref p) := by
  obtain ⟨ds, p1, p2, p3, p4⟩ := els hx
  have e := p1.length
  refine ⟨.list ds, .lst (by rw [mask_ne n]; exact h) p1, by simp only [PyData.showable, p2], by simp only [PyData.depth]; omega, ?_⟩
  have := shown_list p4
  omega
theorem shown_tuple {B : Nat} {ds : List PyData} (h : ∀ d ∈ ds, d.shown.length ≤ B) : (PyData.tuple ds).shown.length ≤ (B + 2) * ds.length + 3 := by
  simp only [PyData.shown]
  have e3 : (((if (PyData.shownAll ds).length == 1 then ",)" else ")" : String) : Str)).length ≤ 2 := by split <;> decide +kernel
  have e1 : ((("(" : String) : Str)).length = 1 := rfl
  unfold tupleText
  rw [strLen_append, strLen_append, e1]
  have h2 : piled (PyData.shownAll ds) ≤ (B + 2) * ds.length := by
    unfold piled
    have := sum_bound (B := B + 2) (l := (PyData.shownAll ds).map fun t => t.length + 2) fun x hx => by
      obtain ⟨s, hs, rfl⟩ := List.mem_map.mp hx
      rw [shownAll_map] at hs
      obtain ⟨d, hd, rfl⟩ := List.mem_map.mp hs
      have := h d hd
      omega
    rw [List.length_map, shownAll_map, List.length_map] at this
    rw [shownAll_map] at *
    exact this
  by_cases z : PyData.shownAll ds = []
  · rw [z] at e3 ⊢
    have : (Str.join ", " []).length = 0 := by decide +kernel
    omega
  · have := join_length_add (PyData.shownAll ds) z
    omega
theorem th_tuple {t : Addr} {H : Hp} {p : Addr} {xs : List V} (h : H p = some (.tup xs)) (n : p ≠ t) (hl : xs.length ≤ 200) (hx : ∀ x ∈ xs, El t H x) : Th t H (.ref p) := by
  obtain ⟨ds, p1, p2, p3, p4⟩ := els hx
  have e := p1.length
  refine ⟨.tuple ds, .tup (by rw [mask_ne n]; exact h) p1, by simp only [PyData.showable, p2], by simp only [PyData.depth]; omega, ?_⟩
  have := shown_tuple p4
  omega
/-- [thing] -/
theorem th_one {t : Addr} {H : Hp} {p b : Addr} {ns : List Int} (h : H p = some (.lst [.ref b])) (n : p ≠ t) (hb : H b = some (.lst (ns.map V.int))) (nb : b ≠ t) (hl : ns.length ≤ 40) (hx : ∀ n ∈ ns, n.natAbs < 2 ^ 1000) : Th t H (.ref p) := by
  obtain ⟨ds, p1, p2, p3, p4⟩ := els (t := t) (H := H) (xs := ns.map V.int) fun x hxx => by
    obtain ⟨m, hm, rfl⟩ := List.mem_map.mp hxx
    exact el_int (hx m hm)
  have e := p1.length
  rw [List.length_map] at e
  have z := shown_list p4
  refine ⟨.list [.list ds], .lst (by rw [mask_ne n]; exact h) (.cons (.lst (by rw [mask_ne nb]; exact hb) p1) .nil), by simp only [PyData.showable, PyData.showableAll, p2, Bool.and_self], by simp only [PyData.depth, PyData.depthAll]; omega, ?_⟩
  have z2 := shown_list (B := 1102 * 40 + 3) (ds := [.list ds]) fun d hd => by
    rw [List.mem_singleton.mp hd]
    omega
  exact Nat.le_trans z2 (by show (1102 * 40 + 3 + 2) * 1 + 3 ≤ 300000; decide)
/-- [1], (1,) as items -/
theorem el_list1 {t : Addr} {H : Hp} {p : Addr} (h : H p = some (.lst [.int 1])) (n : p ≠ t) : El t H (.ref p) := ⟨.list [.int 1], .lst (by rw [mask_ne n]; exact h) (.cons (.int 1) .nil), by decide, by decide, by decide +kernel⟩
theorem el_list0 {t : Addr} {H : Hp} {p : Addr} (h : H p = some (.lst [])) (n : p ≠ t) : El t H (.ref p) := ⟨.list [], .lst (by rw [mask_ne n]; exact h) .nil, by decide, by decide, by decide +kernel⟩
theorem el_tup1 {t : Addr} {H : Hp} {p : Addr} (h : H p = some (.tup [.int 1])) (n : p ≠ t) : El t H (.ref p) := ⟨.tuple [.int 1], .tup (by rw [mask_ne n]; exact h) (.cons (.int 1) .nil), by decide, by decide, by decide +kernel⟩
theorem el_tup0 {t : Addr} {H : Hp} {p : Addr} (h : H p = some (.tup [])) (n : p ≠ t) : El t H (.ref p) := ⟨.tuple [], .tup (by rw [mask_ne n]; exact h) .nil, by decide, by decide, by decide +kernel⟩
theorem el_ints {t : Addr} {H : Hp} {ns : List Int} (h : ∀ n ∈ ns, n.natAbs < 2 ^ 1000) : ∀ x ∈ ns.map V.int, El t H x := fun x hx => by
  obtain ⟨m, hm, rfl⟩ := List.mem_map.mp hx
  exact el_int (h m hm)
theorem _root_.L2.Same.seqT {K : PySem.W.Frag} {H H' : Hp} {a : Addr} {xs : List V} (s : Same H H') (h : H a = some (.tup xs)) : SqT K H' a xs := SqT.of (s _ _ h)
end Sd

namespace Sd
open PySem PySem.Spec PyProof.Rows L2

/-! ### polynomials, lowest power first -/
/-- f times low taken away from l at s, s + 1 .. s + j - 1 -/
def subI (low : List Int) (f : Int) (s : Nat) : Nat → List Int → List Int
  | 0, l => l
  | j + 1, l => (subI low f s j l).set (s + j) ((subI low f s j l).getD (s + j) 0 - f * low.getD j 0)
/-- so many steps of the division, from the top: quotient behind, rest in front -/
def divN (low : List Int) : Nat → List Int → List Int
  | 0, l => l
  | k + 1, l => divN low k (subI low (l.getD (low.length - 1 + k) 0) k (low.length - 1) l)
def divL (low l : List Int) : List Int := divN low (l.length - (low.length - 1)) l
def quo (low l : List Int) : List Int := (divL low l).drop (low.length - 1)
def rst (low l : List Int) : List Int := (divL low l).take (low.length - 1)
theorem subI_len (low : List Int) (f : Int) (s : Nat) : ∀ (j : Nat) (l : List Int), (subI low f s j l).length = l.length
  | 0, _ => rfl
  | j + 1, l => by
    rw [subI, List.length_set, subI_len low f s j l]
theorem divN_len (low : List Int) : ∀ (k : Nat) (l : List Int), (divN low k l).length = l.length
  | 0, _ => rfl
  | k + 1, l => by
    rw [divN, divN_len low k, subI_len]
theorem divL_len (low l : List Int) : (divL low l).length = l.length := divN_len _ _ _
theorem quo_len (low l : List Int) : (quo low l).length = l.length - (low.length - 1) := by
  unfold quo
  rw [List.length_drop, divL_len]
theorem rst_len (low l : List Int) : (rst low l).length = min (low.length - 1) l.length := by
  unfold rst
  rw [List.length_take, divL_len]
/-- what lies behind stays -/
theorem subI_get (low : List Int) (f : Int) (s : Nat) : ∀ (j : Nat) (l : List Int) (i : Nat), s + j ≤ i → (subI low f s j l)[i]? = l[i]?
  | 0, _, _, _ => rfl
  | j + 1, l, i, h => by
    rw [subI, List.getElem?_set_ne (by omega)]
    exact subI_get low f s j l i (by omega)
theorem subI_drop (low : List Int) (f : Int) (s j : Nat) (l : List Int) {i : Nat} (h : s + j ≤ i) : (subI low f s j l).drop i = l.drop i := by
  refine List.ext_getElem? fun k => ?_
  rw [List.getElem?_drop, List.getElem?_drop, subI_get low f s j l (i + k) (by omega)]
/-- the table of C(1) to C(40) -/
def cycT : List (List Int) := [[], [-1, 1], [1, 1], [1, 1, 1], [1, 0, 1], [1, 1, 1, 1, 1], [1, -1, 1], [1, 1, 1, 1, 1, 1, 1], [1, 0, 0, 0, 1], [1, 0, 0, 1, 0, 0, 1], [1, -1, 1, -1, 1], [1, 1, 1, 1, 1, 1, 1, 1, 1, 1, 1], [1, 0, -1, 0, 1], [1, 1, 1, 1, 1, 1, 1, 1, 1, 1, 1, 1, 1], [1, -1, 1, -1, 1, -1, 1], [1, -1, 0, 1, -1, 1, 0, -1, 1], [1, 0, 0, 0, 0, 0, 0, 0, 1], [1, 1, 1, 1, 1, 1, 1, 1, 1, 1, 1, 1, 1, 1, 1, 1, 1], [1, 0, 0, -1, 0, 0, 1], [1, 1, 1, 1, 1, 1, 1, 1, 1, 1, 1, 1, 1, 1, 1, 1, 1, 1, 1], [1, 0, -1, 0, 1, 0, -1, 0, 1], [1, -1, 0, 1, -1, 0, 1, 0, -1, 1, 0, -1, 1], [1, -1, 1, -1, 1, -1, 1, -1, 1, -1, 1], [1, 1, 1, 1, 1, 1, 1, 1, 1, 1, 1, 1, 1, 1, 1, 1, 1, 1, 1, 1, 1, 1, 1], [1, 0, 0, 0, -1, 0, 0, 0, 1], [1, 0, 0, 0, 0, 1, 0, 0, 0, 0, 1, 0, 0, 0, 0, 1, 0, 0, 0, 0, 1], [1, -1, 1, -1, 1, -1, 1, -1, 1, -1, 1, -1, 1], [1, 0, 0, 0, 0, 0, 0, 0, 0, 1, 0, 0, 0, 0, 0, 0, 0, 0, 1], [1, 0, -1, 0, 1, 0, -1, 0, 1, 0, -1, 0, 1], [1, 1, 1, 1, 1, 1, 1, 1, 1, 1, 1, 1, 1, 1, 1, 1, 1, 1, 1, 1, 1, 1, 1, 1, 1, 1, 1, 1, 1], [1, 1, 0, -1, -1, -1, 0, 1, 1], [1, 1, 1, 1, 1, 1, 1, 1, 1, 1, 1, 1, 1, 1, 1, 1, 1, 1, 1, 1, 1, 1, 1, 1, 1, 1, 1, 1, 1, 1, 1], [1, 0, 0, 0, 0, 0, 0, 0, 0, 0, 0, 0, 0, 0, 0, 0, 1], [1, -1, 0, 1, -1, 0, 1, -1, 0, 1, -1, 1, 0, -1, 1, 0, -1, 1, 0, -1, 1], [1, -1, 1, -1, 1, -1, 1, -1, 1, -1, 1, -1, 1, -1, 1, -1, 1], [1, -1, 0, 0, 0, 1, -1, 1, -1, 0, 1, -1, 1, -1, 1, 0, -1, 1, -1, 1, 0, 0, 0, -1, 1], [1, 0, 0, 0, 0, 0, -1, 0, 0, 0, 0, 0, 1], [1, 1, 1, 1, 1, 1, 1, 1, 1, 1, 1, 1, 1, 1, 1, 1, 1, 1, 1, 1, 1, 1, 1, 1, 1, 1, 1, 1, 1, 1, 1, 1, 1, 1, 1, 1, 1], [1, -1, 1, -1, 1, -1, 1, -1, 1, -1, 1, -1, 1, -1, 1, -1, 1, -1, 1], [1, -1, 0, 1, -1, 0, 1, -1, 0, 1, -1, 0, 1, 0, -1, 1, 0, -1, 1, 0, -1, 1, 0, -1, 1], [1, 0, 0, 0, -1, 0, 0, 0, 1, 0, 0, 0, -1, 0, 0, 0, 1]]
def cyc (p : Nat) : List Int := cycT.getD p []
/-- low coefficients are 1, 0 or -1 -/
def Unt (l : List Int) : Prop := ∀ x ∈ l, -1 ≤ x ∧ x ≤ 1
theorem cyc_all : ∀ p, p < 41 → 1 ≤ p → (2 ≤ (cyc p).length ∧ (cyc p).length ≤ p + 1 ∧ (cyc p).all (fun x => decide (-1 ≤ x ∧ x ≤ 1)) = true) := by decide +kernel
theorem cyc_len {p : Nat} (h1 : 1 ≤ p) (h : p ≤ 40) : 2 ≤ (cyc p).length ∧ (cyc p).length ≤ p + 1 := ⟨(cyc_all p (by omega) h1).1, (cyc_all p (by omega) h1).2.1⟩
theorem cyc_unt {p : Nat} (h1 : 1 ≤ p) (h : p ≤ 40) : Unt (cyc p) := fun x hx => of_decide_eq_true (List.all_eq_true.mp (cyc_all p (by omega) h1).2.2 x hx)
/-- x ** p - 1 -/
def xn1 (p : Nat) : List Int := [-1] ++ List.replicate (p - 1) 0 ++ [1]
theorem xn1_len {p : Nat} (h : 1 ≤ p) : (xn1 p).length = p + 1 := by
  unfold xn1
  rw [List.length_append, List.length_append, List.length_replicate]
  show 1 + (p - 1) + 1 = p + 1
  omega
/-- x ** p - 1 without C(1), C(2) .. C(k) -/
def rootF (p : Nat) : Nat → List Int
  | 0 => xn1 p
  | k + 1 => if p % (k + 1) = 0 then quo (cyc (k + 1)) (rootF p k) else rootF p k
theorem root_all : ∀ p, p < 41 → 1 ≤ p → rootF p (p - 1) = cyc p := by decide +kernel
theorem root_cyc {p : Nat} (h1 : 1 ≤ p) (h : p ≤ 40) : rootF p (p - 1) = cyc p := root_all p (by omega) h1
theorem rootF_len (p : Nat) (h : 1 ≤ p) : ∀ k, (rootF p k).length ≤ p + 1
  | 0 => by rw [rootF, xn1_len h]; exact Nat.le_refl _
  | k + 1 => by
    have := rootF_len p h k
    rw [rootF]
    split
    · rw [quo_len]; omega
    · exact this
/-- the divisors of n up to k -/
def divs (n : Nat) : Nat → List Nat
  | 0 => []
  | k + 1 => if n % (k + 1) = 0 then divs n k ++ [k + 1] else divs n k
theorem divs_mem {n : Nat} : ∀ {k d : Nat}, d ∈ divs n k ↔ 1 ≤ d ∧ d ≤ k ∧ n % d = 0
  | 0, d => by
    rw [divs]
    exact ⟨fun h => (List.not_mem_nil h).elim, fun h => by omega⟩
  | k + 1, d => by
    rw [divs]
    by_cases c : n % (k + 1) = 0
    · rw [if_pos c, List.mem_append, divs_mem (k := k), List.mem_singleton]
      constructor
      · rintro (⟨a, b, e⟩ | rfl)
        · exact ⟨a, by omega, e⟩
        · exact ⟨by omega, Nat.le_refl _, c⟩
      · rintro ⟨a, b, e⟩
        by_cases z : d = k + 1
        · exact .inr z
        · exact .inl ⟨a, by omega, e⟩
    · rw [if_neg c, divs_mem (k := k)]
      constructor
      · rintro ⟨a, b, e⟩
        exact ⟨a, by omega, e⟩
      · rintro ⟨a, b, e⟩
        refine ⟨a, ?_, e⟩
        have : d ≠ k + 1 := fun z => c (by rw [← z]; exact e)
        omega
theorem divs_len {n : Nat} : ∀ k, (divs n k).length ≤ k
  | 0 => Nat.le_refl _
  | k + 1 => by
    have := divs_len (n := n) k
    rw [divs]
    split
    · rw [List.length_append]
      show _ + 1 ≤ _
      omega
    · omega
/-- x ** p - 1 without all C(d), d of a list that divides p -/
def foldQ (p : Nat) (ds : List Nat) : List Int := ds.foldl (fun a d => if p % d = 0 then quo (cyc d) a else a) (xn1 p)
theorem foldQ_snoc (p : Nat) (ds : List Nat) (d : Nat) : foldQ p (ds ++ [d]) = if p % d = 0 then quo (cyc d) (foldQ p ds) else foldQ p ds := by
  unfold foldQ
  rw [List.foldl_append]
  rfl
theorem foldQ_divs {n p : Nat} (hp : n % p = 0) : ∀ k, foldQ p (divs n k) = rootF p k
  | 0 => rfl
  | k + 1 => by
    rw [divs, rootF]
    by_cases c : n % (k + 1) = 0
    · rw [if_pos c, foldQ_snoc, foldQ_divs hp k]
    · rw [if_neg c, foldQ_divs hp k, if_neg]
      intro z
      exact c (Nat.mod_eq_zero_of_dvd (Nat.dvd_trans (Nat.dvd_of_mod_eq_zero z) (Nat.dvd_of_mod_eq_zero hp)))
theorem foldQ_len {p : Nat} (h : 1 ≤ p) : ∀ ds : List Nat, ∀ a : List Int, a.length ≤ p + 1 → (ds.foldl (fun a d => if p % d = 0 then quo (cyc d) a else a) a).length ≤ p + 1
  | [], a, ha => ha
  | d :: ds, a, ha => by
    rw [List.foldl_cons]
    refine foldQ_len h ds _ ?_
    split
    · rw [quo_len]; omega
    · exact ha
/-- the blind divisors -/
def blB (ns : List Int) (d : Nat) : Bool := (rst (cyc d) ns).all fun x => decide (x = 0)
def blindN (ns : List Int) (k : Nat) : List Nat := (divs ns.length k).filter (blB ns)
def blindL (ns : List Int) : List Nat := blindN ns ns.length
/-- the product of C(d) for all that are not blind -/
def hidQ (ns : List Int) : List Int := (blindL ns).foldl (fun a d => quo (cyc d) a) (xn1 ns.length)
def degS (ds : List Nat) : Nat := (ds.map fun d => (cyc d).length - 1).sum
theorem deg_all : ∀ n, n < 41 → 1 ≤ n → degS (divs n n) = n := by decide +kernel
theorem degS_filter (p : Nat → Bool) : ∀ ds : List Nat, degS (ds.filter p) ≤ degS ds
  | [] => Nat.le_refl _
  | d :: ds => by
    have := degS_filter p ds
    rw [List.filter_cons]
    split
    · unfold degS at *
      rw [List.map_cons, List.sum_cons, List.map_cons, List.sum_cons]
      omega
    · unfold degS at *
      rw [List.map_cons, List.sum_cons]
      omega
theorem fold_len : ∀ (ds : List Nat) (a : List Int), degS ds ≤ a.length → (ds.foldl (fun a d => quo (cyc d) a) a).length = a.length - degS ds
  | [], a, _ => rfl
  | d :: ds, a, h => by
    unfold degS at h
    rw [List.map_cons, List.sum_cons] at h
    rw [List.foldl_cons, fold_len ds _ (by rw [quo_len]; unfold degS; omega), quo_len]
    unfold degS
    rw [List.map_cons, List.sum_cons]
    omega
theorem blind_deg {ns : List Int} (h1 : 1 ≤ ns.length) (h : ns.length ≤ 40) : degS (blindL ns) ≤ ns.length := by
  have := degS_filter (blB ns) (divs ns.length ns.length)
  rw [deg_all ns.length (by omega) h1] at this
  exact this
theorem hidQ_len {ns : List Int} (h1 : 1 ≤ ns.length) (h : ns.length ≤ 40) : (hidQ ns).length = ns.length + 1 - degS (blindL ns) := by
  have := blind_deg h1 h
  unfold hidQ
  rw [fold_len _ _ (by rw [xn1_len h1]; omega), xn1_len h1]
theorem blind_mem {ns : List Int} {d : Nat} (h : d ∈ blindL ns) : 1 ≤ d ∧ d ≤ ns.length ∧ ns.length % d = 0 := divs_mem.mp (List.mem_filter.mp h).1
theorem degS_pos {ns : List Int} (h : ns.length ≤ 40) : degS (blindL ns) = 0 ↔ blindL ns = [] := by
  constructor
  · intro z
    cases e : blindL ns with
    | nil => rfl
    | cons d ds =>
      exfalso
      have hd := blind_mem (ns := ns) (d := d) (by rw [e]; exact List.mem_cons_self)
      have := (cyc_len hd.1 (by omega)).1
      rw [e] at z
      unfold degS at z
      rw [List.map_cons, List.sum_cons] at z
      omega
  · intro z
    rw [z]
    rfl
theorem divs_sorted {n : Nat} : ∀ {k i d e : Nat}, (divs n k)[i]? = some d → e ∈ (divs n k).take i → e < d
  | 0, _, _, _, h, _ => by
    rw [divs] at h
    cases h
  | k + 1, i, d, e, h, he => by
    rw [divs] at h he
    by_cases c : n % (k + 1) = 0
    · rw [if_pos c] at h he
      by_cases z : i < (divs n k).length
      · rw [List.getElem?_append_left z] at h
        rw [List.take_append_of_le_length (Nat.le_of_lt z)] at he
        exact divs_sorted h he
      · have hi : i = (divs n k).length := by
          have := (List.getElem?_eq_some_iff.mp h).1
          rw [List.length_append] at this
          have t : i < (divs n k).length + 1 := this
          omega
        subst hi
        rw [List.getElem?_append_right (Nat.le_refl _), Nat.sub_self] at h
        have hd : k + 1 = d := Option.some.inj h
        rw [List.take_left] at he
        have := (divs_mem.mp he).2.1
        omega
    · rw [if_neg c] at h he
      exact divs_sorted h he
theorem divs_lt {n k i d e : Nat} (h : (divs n k)[i]? = some d) (he : e ∈ (divs n k).take i) : e < d := divs_sorted h he
theorem degI : ∀ {ds : List Nat}, (∀ d ∈ ds, 1 ≤ d ∧ d ≤ 40) → (ds.map fun d => ((cyc d).length : Int) - 1).sum = (degS ds : Int)
  | [], _ => rfl
  | d :: ds, h => by
    have hd := h d List.mem_cons_self
    have hl := (cyc_len hd.1 hd.2).1
    rw [List.map_cons, List.sum_cons, degI fun x hx => h x (List.mem_cons_of_mem _ hx)]
    unfold degS
    rw [List.map_cons, List.sum_cons]
    omega
end Sd

namespace Sd
open PySem PySem.Spec PyProof.Rows L2

/-! ### rules: any of a list of ints, xs[i] -= .., a dict that is locked and left so, a dict comprehension over its items -/
section
variable {X : Cx}
theorem truth_ints {K : PySem.W.Frag} {prog : Program} {w : World} {A : Around} {ns : List Int} {its : List Value} (r : Vals (ns.map V.int) its) :
    TruthOf prog w A (fun i v => its.toArray[i]? = some v) (fun i => (ns.map fun n => decide (n ≠ 0)).getD i false) := fun i v s Q E hv hq => by
  have hv' : its[i]? = some v := by simpa using hv
  have hl := r.length
  rw [List.length_map] at hl
  have hi : i < ns.length := by
    rw [hl]
    exact (List.getElem?_eq_some_iff.mp hv').1
  obtain ⟨w1, e1, r1⟩ := r.get (i := i) (x := .int ns[i]) (by rw [List.getElem?_map, List.getElem?_eq_getElem hi]; rfl)
  rw [hv'] at e1
  cases e1
  obtain ⟨t, rfl⟩ := r1
  have hg : (ns.map fun n => decide (n ≠ 0)).getD i false = decide (ns[i] ≠ 0) := by
    rw [List.getD_eq_getElem?_getD, List.getElem?_map, List.getElem?_eq_getElem hi]
    rfl
  have hq' : Q ((ns.map fun n => decide (n ≠ 0)).getD i false) s := hq
  rw [hg] at hq'
  refine PySem.P.truthy_int ?_
  have e : (ns[i] != 0) = decide (ns[i] ≠ 0) := by
    by_cases c : ns[i] = 0
    · rw [c]; rfl
    · rw [decide_eq_true c]
      exact bne_iff_ne.mpr c
  first
    | exact hq'
    | (rw [e]; exact hq')
def rAnyI (K : PySem.W.Frag) : List V → Hp → VK → Prop := fun vs H Q => ∃ (a : Addr) (ns : List Int), vs = [V.ref a] ∧ SqL K H a (ns.map V.int) ∧ Q (.bl (!ns.all fun x => decide (x = 0))) H
theorem any_not_all : ∀ ns : List Int, (ns.map fun n => decide (n ≠ 0)).any id = !ns.all fun x => decide (x = 0)
  | [] => rfl
  | n :: ns => by
    rw [List.map_cons, List.any_cons, List.all_cons, any_not_all ns, Bool.not_and]
    congr 1
    by_cases c : n = 0
    · rw [decide_eq_true c]; subst c; rfl
    · rw [decide_eq_false c]
      exact decide_eq_true c
theorem cr_anyI {K : PySem.W.Frag} (hK : X.K = K) (hc : X.calm = true) : CallR X (.builtin "any") (rAnyI K) := by
  subst hK
  intro pins s σ H vs us Q I r h
  obtain ⟨a, ns, rfl, hs, q⟩ := h
  obtain ⟨its, rv, hl, _⟩ := I.list hs
  rw [Vals.ref1 r]
  refine call_any_walk (iter_any hl.isList fun s₂ e2 st hne => ?_)
  subst e2
  refine ⟨_, _, _, _, _, _, _, rfl, Walks.list (A := X.A.in1) (I.ok.hd hc) _ a hne its.toArray, st, truth_ints (K := X.K) rv, fun h' tk hk => ?_⟩
  refine ⟨.bl _, H, I.kept fun b o eo => hk b o (fun hmem => ?_) (Heap.get?_push_of_some _ eo), ?_, q⟩
  · rcases List.mem_cons.mp hmem with e1 | hmem
    · exact absurd (e1 ▸ Heap.lt_size eo) (Nat.lt_irrefl _)
    · cases hmem
  · show Value.bool _ = Value.bool _
    have e := any_range (ns.map fun n => decide (n ≠ 0))
    rw [← any_not_all, ← e, List.size_toArray, ← rv.length, List.length_map, List.length_map]
/-- xs[i], read by an augmented assignment -/
def rGetL (K : PySem.W.Frag) : V → V → Hp → VK → Prop := fun o i H Q => ∃ (p : Addr) (xs : List V) (k : Int) (z : V), o = .ref p ∧ i = .int k ∧ SqL K H p xs ∧ 0 ≤ k ∧ xs[k.toNat]? = some z ∧ Q z H
theorem get_listP {K : PySem.W.Frag} (hK : X.K = K) : PGet X (rGetL K) := by
  subst hK
  intro pins s σ H o i ov iv Q I ro ri h
  obtain ⟨p, xs, k, z, rfl, rfl, hq, h0, he, q⟩ := h
  cases ro
  obtain ⟨t, rfl⟩ := ri
  obtain ⟨its, r, pl, hz⟩ := I.list hq
  obtain ⟨w, ew, rw'⟩ := r.get he
  have hlt : k.toNat < its.length := (List.getElem?_eq_some_iff.mp ew).1
  have hn := line63
  have hl := r.length
  exact wpAny_getItem_list pl.isList h0 (by omega) (by simpa using ew) ⟨z, H, I, rw', q⟩
/-- the dict that an expression gives is locked from then on -/
def tLk (td : TE) : TE := fun σ H Q => td σ H fun x H1 => ∃ d kvs, x = .ref d ∧ H1 d = some (.dK kvs) ∧ ∀ od, Q x (upd H1 d (.frz od (.dK kvs)))
theorem pe_lk {e : Expr} {td : TE} (h : PE X e td) : PE X e (tLk td) := by
  refine ⟨fun pins s σ H Q I hw => ?_⟩
  refine thn (h.run pins s σ H _ I hw) fun v s1 ⟨x, H1, I1, r, d, kvs, ex, hd, q⟩ => ?_
  obtain ⟨od, I2⟩ := I1.lock hd trivial
  exact ⟨x, _, I2, r, q od⟩
theorem ixT {K : PySem.W.Frag} (h : X.K = K) : IxR X (rIxT K) := h ▸ ix_tup
theorem dc_it {J : It} {n : Nat} {G : Hp → Prop} {Y : Nat → Hp → V → Hp → Prop} (w : Walk J n G Y) {g : TG} {tt : TT} {tk tv : TE} {vs : List Nat} {σ : L2.St} {H1 : Hp} {D : Addr} {Qd : Hp → Prop} (Pv : Nat → Hp → Prop) (h0 : Pv 0 (upd H1 D (.dK []))) (hG : ∀ i H, i ≤ n → Pv i H → G H)
    (hs : ∀ i x H H', i < n → Pv i H → Y i H x H' → g x (wipe σ vs) H' fun σ2 H2 => wipe σ2 vs = wipe σ vs ∧ tt σ2 H2 fun b H3 =>
      if b = true then tk σ2 H3 fun y H4 => tv σ2 H4 fun z H5 => ∃ kvs k, y = kV k ∧ H5 D = some (.dK kvs) ∧ kvs.length < sizeLine ∧ Pv (i + 1) (upd H5 D (.dK (putK kvs k z))) else Pv (i + 1) H3) (hd : ∀ H, Pv n H → Qd H) :
    ∃ W : Nat → Nat → Hp → Prop, (∃ m, W 0 m (upd H1 D (.dK []))) ∧ ∀ i m H, W i m H →
      (J.stop i H ∧ Qd H) ∨ (J.go i H ∧ ∃ Nx : Hp → Prop, (∀ H', Nx H' → ∃ m', m' < m ∧ W (i + 1) m' H') ∧ ∀ x H', J.yld i H x H' → g x (wipe σ vs) H' fun σ2 H2 => wipe σ2 vs = wipe σ vs ∧ tt σ2 H2 fun b H3 =>
        if b = true then tk σ2 H3 fun y H4 => tv σ2 H4 fun z H5 => ∃ kvs k, y = kV k ∧ H5 D = some (.dK kvs) ∧ kvs.length < sizeLine ∧ Nx (upd H5 D (.dK (putK kvs k z))) else Nx H3) := by
  refine ⟨fun i m H => m = n - i ∧ i ≤ n ∧ Pv i H, ⟨n, by simp, Nat.zero_le _, h0⟩, ?_⟩
  rintro i m H ⟨rfl, hi, p⟩
  have q := hG i H hi p
  by_cases hlt : i < n
  · exact .inr ⟨w.goes i H hlt q, Pv (i + 1), fun H' p' => ⟨n - (i + 1), by omega, rfl, hlt, p'⟩, fun x H' y => hs i x H H' hlt p (w.yields i H x H' hlt q y)⟩
  · have e : i = n := by omega
    subst e
    exact .inl ⟨w.stops H q, hd H p⟩
end
/-! ### dicts from divisors to lists -/
inductive Tabl (H : Hp) : List (Key × V) → List Nat → Prop
  | nil : Tabl H [] []
  | cons {d : Nat} {r : Addr} {kvs : List (Key × V)} {ds : List Nat} : H r = some (.lst ((cyc d).map V.int)) → Tabl H kvs ds → Tabl H ((.inl (d : Int), .ref r) :: kvs) (d :: ds)
theorem Tabl.same {H H' : Hp} (s : Same H H') : ∀ {kvs : List (Key × V)} {ds : List Nat}, Tabl H kvs ds → Tabl H' kvs ds
  | _, _, .nil => .nil
  | _, _, .cons h t => .cons (s _ _ h) (t.same s)
theorem Tabl.but {H H' : Hp} {T : Addr} (hT : ∀ xs, H T ≠ some (.lst xs)) (s : But T H H') : ∀ {kvs : List (Key × V)} {ds : List Nat}, Tabl H kvs ds → Tabl H' kvs ds
  | _, _, .nil => .nil
  | _, _, .cons h t => .cons (s _ _ h (fun e => hT _ (by rw [← e]; exact h))) (t.but hT s)
theorem Tabl.len {H : Hp} : ∀ {kvs : List (Key × V)} {ds : List Nat}, Tabl H kvs ds → kvs.length = ds.length
  | _, _, .nil => rfl
  | _, _, .cons _ t => by rw [List.length_cons, List.length_cons, t.len]
theorem Tabl.at {H : Hp} : ∀ {kvs : List (Key × V)} {ds : List Nat} {i : Nat}, Tabl H kvs ds → i < ds.length → ∃ d r, ds[i]? = some d ∧ kvs[i]? = some (.inl (d : Int), .ref r) ∧ H r = some (.lst ((cyc d).map V.int))
  | _, _, i, .nil, h => absurd h (Nat.not_lt_zero _)
  | _, _, 0, .cons h t, _ => ⟨_, _, rfl, rfl, h⟩
  | _, _, i + 1, .cons h t, l => t.at (i := i) (Nat.lt_of_succ_lt_succ l)
theorem Tabl.snoc {H : Hp} {d : Nat} {r : Addr} (h : H r = some (.lst ((cyc d).map V.int))) : ∀ {kvs : List (Key × V)} {ds : List Nat}, Tabl H kvs ds → Tabl H (kvs ++ [(.inl (d : Int), .ref r)]) (ds ++ [d])
  | _, _, .nil => .cons h .nil
  | _, _, .cons h1 t => .cons h1 (t.snoc h)
theorem Tabl.put {H : Hp} {d : Nat} : ∀ {kvs : List (Key × V)} {ds : List Nat}, Tabl H kvs ds → (∀ e ∈ ds, e < d) → (kvs.any fun kv => decide (kv.1 = (.inl (d : Int) : Key))) = false
  | _, _, .nil, _ => rfl
  | _, _, @Tabl.cons _ e r kvs ds _ t, h => by
    rw [List.any_cons, t.put fun x hx => h x (List.mem_cons_of_mem _ hx), Bool.or_false]
    refine decide_eq_false fun z => ?_
    have h1 := h e List.mem_cons_self
    have h2 : (e : Int) = (d : Int) := Sum.inl.inj z
    omega
theorem Tabl.putK {H : Hp} {d : Nat} {v : V} {kvs : List (Key × V)} {ds : List Nat} (t : Tabl H kvs ds) (h : ∀ e ∈ ds, e < d) : putK kvs (.inl (d : Int)) v = kvs ++ [(.inl (d : Int), v)] := by
  unfold L2.putK
  rw [if_neg (by rw [t.put h]; exact Bool.false_ne_true)]
theorem eqv_dI0 (a : List Int) : PyData.eqv (dI a) (dI []) = a.isEmpty := by cases a <;> rfl
end Sd

namespace Sd
open PySem PySem.Spec PyProof.Rows L2

/-! ### things without dicts within, beside a tank -/
def NDk : PyData → Prop
  | .list ds => PyData.hasDictAll ds = false ∧ PyData.canLayAll0 ds = true
  | _ => True
def E9 (t : Addr) (H : Hp) (v : V) : Prop := ∃ d, Dq (mask t H) v d ∧ d.showable = true ∧ d.depth ≤ 1 ∧ d.shown.length ≤ 1100 ∧ d.hasDict = false ∧ d.canLay0 = true
def T9 (t : Addr) (H : Hp) (v : V) : Prop := ∃ d, Dq (mask t H) v d ∧ d.showable = true ∧ d.depth ≤ 3 ∧ d.shown.length ≤ 300000 ∧ NDk d
theorem E9.but {t : Addr} {H H' : Hp} {v : V} (h : E9 t H v) (u : But t H H') : E9 t H' v := let ⟨d, q, r⟩ := h; ⟨d, q.same (mask_but u), r⟩
theorem T9.but {t : Addr} {H H' : Hp} {v : V} (h : T9 t H v) (u : But t H H') : T9 t H' v := let ⟨d, q, r⟩ := h; ⟨d, q.same (mask_but u), r⟩
theorem ndk_of {d : PyData} (h : d.hasDict = false ∧ d.canLay0 = true) : NDk d := by
  cases d <;> first | trivial | (obtain ⟨h1, h2⟩ := h; simp only [PyData.hasDict] at h1; simp only [PyData.canLay0] at h2; exact ⟨h1, h2⟩)
theorem E9.th {t : Addr} {H : Hp} {v : V} (h : E9 t H v) : T9 t H v := let ⟨d, q, r1, r2, r3, r4⟩ := h; ⟨d, q, r1, by omega, by omega, ndk_of r4⟩
theorem e9_non {t : Addr} {H : Hp} : E9 t H .non := ⟨.none, .non, rfl, by decide, by decide +kernel, by decide, by decide⟩
theorem e9_bl {t : Addr} {H : Hp} (b : Bool) : E9 t H (.bl b) := ⟨.bool b, .bl b, by simp only [PyData.showable], by simp only [PyData.depth]; omega, by cases b <;> decide +kernel, by simp only [PyData.hasDict], by simp only [PyData.canLay0]⟩
theorem e9_int {t : Addr} {H : Hp} {i : Int} (h : i.natAbs < 2 ^ 1000) : E9 t H (.int i) := ⟨.int i, .int i, (rp_int h).sh, by simp only [PyData.depth]; omega, by have := shown_int h; omega, by simp only [PyData.hasDict], by simp only [PyData.canLay0]⟩
theorem e9_str0 {t : Addr} {H : Hp} : E9 t H (.str "0") := ⟨.str "0", .str "0", by simp only [PyData.showable], by simp only [PyData.depth]; omega, by decide +kernel, by simp only [PyData.hasDict], by decide +kernel⟩
theorem t9_emp {t : Addr} {H : Hp} {a : Addr} (h : H a = some (.dK [])) (n : a ≠ t) : T9 t H (.ref a) := ⟨.dict [], .emp (by rw [mask_ne n]; exact h), by decide, by decide, by decide +kernel, trivial⟩
theorem e9s {t : Addr} {H : Hp} : ∀ {xs : List V}, (∀ x ∈ xs, E9 t H x) → ∃ ds, DqAll (mask t H) xs ds ∧ PyData.showableAll ds = true ∧ PyData.depthAll ds ≤ 1 ∧ (∀ d ∈ ds, d.shown.length ≤ 1100) ∧ PyData.hasDictAll ds = false ∧ PyData.canLayAll0 ds = true
  | [], _ => ⟨[], .nil, by simp only [PyData.showableAll], by simp only [PyData.depthAll]; omega, fun d hd => (List.not_mem_nil hd).elim, by simp only [PyData.hasDictAll], by simp only [PyData.canLayAll0]⟩
  | x :: xs, h => by
    obtain ⟨d, q, r1, r2, r3, r4, r5⟩ := h x List.mem_cons_self
    obtain ⟨ds, p1, p2, p3, p4, p5, p6⟩ := e9s (xs := xs) fun y hy => h y (List.mem_cons_of_mem _ hy)
    refine ⟨d :: ds, .cons q p1, by simp only [PyData.showableAll, r1, p2, Bool.and_self], by simp only [PyData.depthAll]; omega, fun e he => ?_, by simp only [PyData.hasDictAll, r4, p5, Bool.or_self], by simp only [PyData.canLayAll0, r5, p6, Bool.and_self]⟩
    rcases List.mem_cons.mp he with z | z
    · rw [z]
      exact r3
    · exact p4 e z
theorem t9_list {t : Addr} {H : Hp} {p : Addr} {xs : List V} (h : H p = some (.lst xs)) (n : p ≠ t) (hl : xs.length ≤ 200) (hx : ∀ x ∈ xs, E9 t H x) : T9 t H (.ref p) := by
  obtain ⟨ds, p1, p2, p3, p4, p5⟩ := e9s hx
  have e := p1.length
  refine ⟨.list ds, .lst (by rw [mask_ne n]; exact h) p1, by simp only [PyData.showable, p2], by simp only [PyData.depth]; omega, ?_, p5⟩
  have := shown_list p4
  omega
theorem t9_tuple {t : Addr} {H : Hp} {p : Addr} {xs : List V} (h : H p = some (.tup xs)) (n : p ≠ t) (hl : xs.length ≤ 200) (hx : ∀ x ∈ xs, E9 t H x) : T9 t H (.ref p) := by
  obtain ⟨ds, p1, p2, p3, p4, p5⟩ := e9s hx
  have e := p1.length
  refine ⟨.tuple ds, .tup (by rw [mask_ne n]; exact h) p1, by simp only [PyData.showable, p2], by simp only [PyData.depth]; omega, ?_, trivial⟩
  have := shown_tuple p4
  omega
theorem e9_ints {t : Addr} {H : Hp} {ns : List Int} (h : ∀ n ∈ ns, n.natAbs < 2 ^ 1000) : ∀ x ∈ ns.map V.int, E9 t H x := fun x hx => by
  obtain ⟨m, hm, rfl⟩ := List.mem_map.mp hx
  exact e9_int (h m hm)
theorem t9_ints {t : Addr} {H : Hp} {p : Addr} {ns : List Int} (h : H p = some (.lst (ns.map V.int))) (n : p ≠ t) (hl : ns.length ≤ 200) (hx : ∀ n ∈ ns, n.natAbs < 2 ^ 1000) : T9 t H (.ref p) :=
  t9_list h n (by rw [List.length_map]; exact hl) (e9_ints hx)
theorem t9_rep {t : Addr} {H : Hp} {p : Addr} {k : Nat} {v : Int} (h : H p = some (.lst (List.replicate k [V.int v]).flatten)) (n : p ≠ t) (hl : k ≤ 200) (hv : v.natAbs < 2 ^ 1000) : T9 t H (.ref p) := by
  rw [rep_one] at h
  exact t9_ints h n (by rw [List.length_replicate]; exact hl) fun m hm => by rw [(List.mem_replicate.mp hm).2]; exact hv
theorem rep_any (v : V) : ∀ k : Nat, (List.replicate k [v]).flatten = List.replicate k v
  | 0 => rfl
  | k + 1 => by
    rw [List.replicate_succ, List.replicate_succ, List.flatten_cons, rep_any v k]
    rfl
/-- [ints] -/
theorem t9_one {t : Addr} {H : Hp} {p b : Addr} {ns : List Int} (h : H p = some (.lst [.ref b])) (n : p ≠ t) (hb : H b = some (.lst (ns.map V.int))) (nb : b ≠ t) (hl : ns.length ≤ 40) (hx : ∀ n ∈ ns, n.natAbs < 2 ^ 1000) : T9 t H (.ref p) := by
  obtain ⟨ds, p1, p2, p3, p4, p5, p6⟩ := e9s (t := t) (H := H) (xs := ns.map V.int) fun x hxx => by
    obtain ⟨m, hm, rfl⟩ := List.mem_map.mp hxx
    exact e9_int (hx m hm)
  have e := p1.length
  rw [List.length_map] at e
  have z := shown_list p4
  refine ⟨.list [.list ds], .lst (by rw [mask_ne n]; exact h) (.cons (.lst (by rw [mask_ne nb]; exact hb) p1) .nil), by simp only [PyData.showable, PyData.showableAll, p2, Bool.and_self], by simp only [PyData.depth, PyData.depthAll]; omega, ?_, by show PyData.hasDictAll [.list ds] = false ∧ PyData.canLayAll0 [.list ds] = true; simp only [PyData.hasDictAll, PyData.hasDict, p5, Bool.or_self, PyData.canLayAll0, PyData.canLay0, p6, Bool.and_self, and_self]⟩
  have z2 := shown_list (B := 1102 * 40 + 3) (ds := [.list ds]) fun d hd => by
    rw [List.mem_singleton.mp hd]
    omega
  exact Nat.le_trans z2 (by show (1102 * 40 + 3 + 2) * 1 + 3 ≤ 300000; decide)
/-- [0], (0,) as items -/
theorem e9_list0 {t : Addr} {H : Hp} {p : Addr} (h : H p = some (.lst [.int 0])) (n : p ≠ t) : E9 t H (.ref p) := ⟨.list [.int 0], .lst (by rw [mask_ne n]; exact h) (.cons (.int 0) .nil), by decide, by decide, by decide +kernel, by decide, by decide⟩
theorem e9_tup0 {t : Addr} {H : Hp} {p : Addr} (h : H p = some (.tup [.int 0])) (n : p ≠ t) : E9 t H (.ref p) := ⟨.tuple [.int 0], .tup (by rw [mask_ne n]; exact h) (.cons (.int 0) .nil), by decide, by decide, by decide +kernel, by decide, by decide⟩
/-! ### two that change -/
def But2 (t f : Addr) (H H' : Hp) : Prop := ∀ b o, H b = some o → b ≠ t → b ≠ f → H' b = some o
theorem but2_mask {t f : Addr} {H H' : Hp} (u : But2 t f H H') : But t (mask f H) (mask f H') := fun b o e n => by
  unfold mask at e ⊢
  split at e
  · cases e
  · rename_i nf
    rw [if_neg nf]
    exact u b o e n nf
theorem but_mask {t f : Addr} {H H' : Hp} (u : But t H H') : But t (mask f H) (mask f H') := but2_mask fun b o e n _ => u b o e n
theorem mask_in {t f : Addr} {H H' : Hp} (u : But t H H') (h : H f = none) : But t H (mask f H') := fun b o e n => by
  have : b ≠ f := ne_of_none e h
  rw [mask_ne this]
  exact u b o e n
theorem T9.out {t f : Addr} {H : Hp} {v : V} (h : T9 t (mask f H) v) : T9 t H v := h.but (But.of (mask_same f H))
theorem cut_takeV (xs : List V) (s : Int) (h0 : 0 ≤ s) : cutV xs none (some s) = xs.take s.toNat := by
  obtain ⟨k, rfl⟩ : ∃ k : Nat, s = (k : Int) := ⟨s.toNat, by omega⟩
  unfold cutV
  rw [HT.sIx_none, HT.sIx_nat, Int.toNat_natCast, List.drop_zero, Nat.sub_zero]
  rcases Nat.le_total k xs.length with z | z
  · rw [Nat.min_eq_left z]
  · rw [Nat.min_eq_right z, List.take_of_length_le (Nat.le_refl _), List.take_of_length_le z]
theorem cut_memV {xs : List V} {lo hi : Option Int} {x : V} (h : x ∈ cutV xs lo hi) : x ∈ xs := List.mem_of_mem_drop (List.mem_of_mem_take h)
/-! ### from told data to what is compared -/
mutual
theorem Dq.dp {K : PySem.W.Frag} {H : Hp} : ∀ {v : V} {d : PyData}, Dq H v d → d.hasDict = false → Dp K H v d
  | _, _, .non, _ => .non
  | _, _, .bl b, _ => .bl b
  | _, _, .int i, _ => .int i
  | _, _, .str x, _ => .str x
  | _, _, .lst h1 h2, n => .lst (SqL.of h1) (DqAll.dp h2 (by simp only [PyData.hasDict] at n; exact n))
  | _, _, .tup h1 h2, n => .tup (SqT.of h1) (DqAll.dp h2 (by simp only [PyData.hasDict] at n; exact n))
  | _, _, .emp _, n => by
    simp only [PyData.hasDict] at n
    cases n
theorem DqAll.dp {K : PySem.W.Frag} {H : Hp} : ∀ {vs : List V} {ds : List PyData}, DqAll H vs ds → PyData.hasDictAll ds = false → DpAll K H vs ds
  | _, _, .nil, _ => .nil
  | _, _, .cons h1 h2, n => by
    simp only [PyData.hasDictAll, Bool.or_eq_false_iff] at n
    exact .cons (Dq.dp h1 n.1) (DqAll.dp h2 n.2)
end
theorem eqv_nil (ds : List PyData) : PyData.eqv (.list ds) (.list []) = ds.isEmpty := by cases ds <;> rfl
/-! ### bounds -/
theorem subI_ab {b : Nat} {low : List Int} {f : Int} {s : Nat} (hU : Unt low) (hf : f.natAbs < 2 ^ b) : ∀ (j : Nat) {l : List Int}, Ab b l → Ab (b + 1) (subI low f s j l)
  | 0, l, h => h.mono (Nat.le_succ b)
  | j + 1, l, h => fun n hn => by
    rw [subI] at hn
    rcases List.mem_or_eq_of_mem_set hn with z | z
    · exact subI_ab hU hf j h n z
    · have h1 : ((subI low f s j l).getD (s + j) 0).natAbs < 2 ^ b := by
        rw [List.getD_eq_getElem?_getD, subI_get low f s j l (s + j) (Nat.le_refl _)]
        cases e : l[s + j]? with
        | none => exact Nat.pos_of_ne_zero (by have := Nat.one_le_two_pow (n := b); omega)
        | some x => exact h x (List.mem_of_getElem? e)
      have h2 : (f * low.getD j 0).natAbs < 2 ^ b := by
        rw [List.getD_eq_getElem?_getD]
        cases e : low[j]? with
        | none =>
          show (f * 0).natAbs < 2 ^ b
          rw [Int.mul_zero]
          exact Nat.lt_of_le_of_lt (Nat.zero_le _) hf
        | some x =>
          have hx := hU x (List.mem_of_getElem? e)
          have : x = -1 ∨ x = 0 ∨ x = 1 := by omega
          show (f * x).natAbs < 2 ^ b
          rcases this with rfl | rfl | rfl <;> omega
      rw [Nat.pow_succ]
      omega
theorem divN_ab {low : List Int} (hU : Unt low) : ∀ (k b : Nat) {l : List Int}, Ab b l → Ab (b + k) (divN low k l)
  | 0, _, _, h => h
  | k + 1, b, l, h => by
    rw [divN]
    have hf : (l.getD (low.length - 1 + k) 0).natAbs < 2 ^ b := by
      rw [List.getD_eq_getElem?_getD]
      cases e : l[low.length - 1 + k]? with
      | none => exact Nat.pos_of_ne_zero (by have := Nat.one_le_two_pow (n := b); omega)
      | some x => exact h x (List.mem_of_getElem? e)
    have := divN_ab hU k (b + 1) (subI_ab hU hf (low.length - 1) (s := k) h)
    rw [show b + (k + 1) = b + 1 + k by omega]
    exact this
theorem quo_ab {low l : List Int} (hU : Unt low) {b : Nat} (h : Ab b l) : Ab (b + l.length) (quo low l) := fun n hn => by
  have := divN_ab hU (l.length - (low.length - 1)) b h n (List.mem_of_mem_drop hn)
  exact Nat.lt_of_lt_of_le this (pow_up (by omega))
theorem divs_few : ∀ n, n < 41 → (divs n n).length ≤ 9 := by decide +kernel
theorem foldq_ab {n : Nat} : ∀ (ds : List Nat) (a : List Int) (b : Nat), (∀ d ∈ ds, 1 ≤ d ∧ d ≤ 40) → a.length ≤ n + 1 → Ab b a → Ab (b + (n + 1) * ds.length) (ds.foldl (fun a d => quo (cyc d) a) a)
  | [], a, b, _, _, h => h
  | d :: ds, a, b, hd, hl, h => by
    have h1 := hd d List.mem_cons_self
    rw [List.foldl_cons]
    have h2 := quo_ab (cyc_unt h1.1 h1.2) h
    have := foldq_ab (n := n) ds (quo (cyc d) a) (b + (n + 1)) (fun x hx => hd x (List.mem_cons_of_mem _ hx)) (by rw [quo_len]; omega) (h2.mono (by omega))
    rw [List.length_cons, Nat.mul_succ]
    rw [show b + ((n + 1) * ds.length + (n + 1)) = b + (n + 1) + (n + 1) * ds.length by omega]
    exact this
theorem xn1_ab (n : Nat) : Ab 1 (xn1 n) := fun x hx => by
  unfold xn1 at hx
  rcases List.mem_append.mp hx with h | h
  · rcases List.mem_append.mp h with h | h
    · rw [List.mem_singleton.mp h]
      decide
    · rw [(List.mem_replicate.mp h).2]
      decide
  · rw [List.mem_singleton.mp h]
    decide
theorem hidQ_ab {ns : List Int} (l1 : 1 ≤ ns.length) (h : ns.length ≤ 40) : Ab 400 (hidQ ns) := by
  have h1 := foldq_ab (n := ns.length) (blindL ns) (xn1 ns.length) 1 (fun d hd => by have := blind_mem hd; omega) (by rw [xn1_len l1]; exact Nat.le_refl _) (xn1_ab _)
  have h2 : (blindL ns).length ≤ 9 := Nat.le_trans (List.length_filter_le _ _) (divs_few _ (by omega))
  have h3 : (ns.length + 1) * (blindL ns).length ≤ 41 * 9 := Nat.mul_le_mul (by omega) h2
  exact Ab.mono h1 (by omega)
end Sd

namespace Sd
open PySem PySem.Spec PyProof.Rows L2

/-! ### polynomials that act on sequences -/
abbrev Sq := Int → Int
def act : List Int → Sq → Sq
  | [], _, _ => 0
  | a :: p, s, i => a * s i + act p s (i + 1)
theorem act_congr {s t : Sq} : ∀ {p : List Int} {i i' : Int}, (∀ j : Nat, j < p.length → s (i + j) = t (i' + j)) → act p s i = act p t i'
  | [], _, _, _ => rfl
  | a :: p, i, i', h => by
    have h0 := h 0 (Nat.succ_pos _)
    have e0 : s i = t i' := by
      have : s (i + ((0 : Nat) : Int)) = t (i' + ((0 : Nat) : Int)) := h0
      rw [show i + ((0 : Nat) : Int) = i by omega, show i' + ((0 : Nat) : Int) = i' by omega] at this
      exact this
    have ih := act_congr (s := s) (t := t) (p := p) (i := i + 1) (i' := i' + 1) fun j hj => by
      have := h (j + 1) (Nat.succ_lt_succ hj)
      rw [show i + ((j + 1 : Nat) : Int) = i + 1 + (j : Int) by omega, show i' + ((j + 1 : Nat) : Int) = i' + 1 + (j : Int) by omega] at this
      exact this
    rw [act, act, e0, ih]
theorem act_shift (p : List Int) (s : Sq) (c i : Int) : act p (fun k => s (k + c)) i = act p s (i + c) :=
  act_congr fun j _ => by show s (i + j + c) = s (i + c + j); rw [show i + (j : Int) + c = i + c + j by omega]
theorem act_add : ∀ (p : List Int) (s t : Sq) (i : Int), act p (fun k => s k + t k) i = act p s i + act p t i
  | [], _, _, _ => rfl
  | a :: p, s, t, i => by
    rw [act, act, act, act_add p s t, Int.mul_add]
    omega
theorem act_mul : ∀ (p : List Int) (c : Int) (s : Sq) (i : Int), act p (fun k => c * s k) i = c * act p s i
  | [], c, _, _ => (Int.mul_zero c).symm
  | a :: p, c, s, i => by
    rw [act, act, act_mul p c s, Int.mul_add, ← Int.mul_assoc, ← Int.mul_assoc, Int.mul_comm a c]
theorem act_zero (p : List Int) (i : Int) : act p (fun _ => 0) i = 0 := by
  have := act_mul p 0 (fun _ => 0) i
  exact (by simpa using this)
theorem act_null {p : List Int} {s : Sq} (h : ∀ i, s i = 0) (i : Int) : act p s i = 0 := by
  rw [show s = fun _ => 0 from funext h]
  exact act_zero p i
theorem act_comm : ∀ (p q : List Int) (s : Sq) (i : Int), act p (act q s) i = act q (act p s) i
  | [], q, s, i => by
    have e : act [] s = fun _ => 0 := rfl
    rw [e, act_zero]
    rfl
  | a :: p, q, s, i => by
    have e : act (a :: p) s = fun k => a * s k + act p s (k + 1) := rfl
    rw [e, act_add q (fun k => a * s k) (fun k => act p s (k + 1)), act_mul, act_shift, ← act_comm p q s (i + 1)]
    rfl
theorem act_append : ∀ (p q : List Int) (s : Sq) (i : Int), act (p ++ q) s i = act p s i + act q s (i + p.length)
  | [], q, s, i => by
    show act q s i = 0 + act q s (i + ((0 : Nat) : Int))
    rw [Int.zero_add, show i + ((0 : Nat) : Int) = i by omega]
  | a :: p, q, s, i => by
    rw [List.cons_append, act, act, act_append p q s, List.length_cons, show i + 1 + (p.length : Int) = i + ((p.length + 1 : Nat) : Int) by omega]
    omega
theorem act_zeros (s : Sq) : ∀ (k : Nat) (i : Int), act (List.replicate k 0) s i = 0
  | 0, _ => rfl
  | k + 1, i => by
    rw [List.replicate_succ, act, act_zeros s k, Int.zero_mul, Int.zero_add]
theorem act_set : ∀ (p : List Int) (m : Nat) (v : Int) (s : Sq) (i : Int), m < p.length → act (p.set m v) s i = act p s i + (v - p.getD m 0) * s (i + m)
  | [], _, _, _, _, h => absurd h (Nat.not_lt_zero _)
  | a :: p, 0, v, s, i, _ => by
    show v * s i + act p s (i + 1) = a * s i + act p s (i + 1) + (v - a) * s (i + ((0 : Nat) : Int))
    rw [show i + ((0 : Nat) : Int) = i by omega, Int.sub_mul]
    omega
  | a :: p, m + 1, v, s, i, h => by
    have ih := act_set p m v s (i + 1) (Nat.lt_of_succ_lt_succ h)
    show a * s i + act (p.set m v) s (i + 1) = a * s i + act p s (i + 1) + (v - p.getD m 0) * s (i + ((m + 1 : Nat) : Int))
    rw [ih, show i + 1 + (m : Int) = i + ((m + 1 : Nat) : Int) by omega]
    omega
/-! ### division -/
theorem subI_take {low : List Int} {f : Int} {s n : Nat} : ∀ (j : Nat) (l : List Int), s + j ≤ n → n ≤ l.length → (subI low f s j l).take n = subI low f s j (l.take n)
  | 0, _, _, _ => rfl
  | j + 1, l, h, hn => by
    rw [subI, subI, List.take_set, subI_take j l (by omega) hn]
    congr 2
    rw [← subI_take j l (by omega) hn, List.getD_eq_getElem?_getD, List.getD_eq_getElem?_getD, List.getElem?_take_of_lt (by omega)]
theorem act_subI {low : List Int} {f : Int} {k : Nat} (s : Sq) (i : Int) : ∀ (j : Nat) (l : List Int), j ≤ low.length → k + j ≤ l.length → act (subI low f k j l) s i = act l s i - f * act (low.take j) s (i + k)
  | 0, l, _, _ => by
    show act l s i = act l s i - f * 0
    rw [Int.mul_zero, Int.sub_zero]
  | j + 1, l, h, hl => by
    obtain ⟨c, hc⟩ : ∃ c, low[j]? = some c := ⟨_, List.getElem?_eq_getElem (by omega)⟩
    rw [subI, act_set _ _ _ _ _ (by rw [subI_len]; omega), act_subI s i j l (by omega) (by omega), List.take_add_one, hc, getD_at hc]
    show _ = act l s i - f * act (low.take j ++ [c]) s (i + k)
    rw [act_append, List.length_take, show min j low.length = j by omega]
    show _ = act l s i - f * (act (low.take j) s (i + k) + (c * s (i + k + j) + 0))
    rw [show i + (k : Int) + (j : Int) = i + ((k + j : Nat) : Int) by omega, Int.mul_add, Int.add_zero, ← Int.mul_assoc]
    have : ((subI low f k j l).getD (k + j) 0 - f * c - (subI low f k j l).getD (k + j) 0) * s (i + ((k + j : Nat) : Int)) = -(f * c * s (i + ((k + j : Nat) : Int))) := by
      rw [show (subI low f k j l).getD (k + j) 0 - f * c - (subI low f k j l).getD (k + j) 0 = -(f * c) by omega, Int.neg_mul]
    rw [this]
    omega
theorem divN_get (low : List Int) : ∀ (k : Nat) (l : List Int) (i : Nat), low.length - 1 + k ≤ i → (divN low k l)[i]? = l[i]?
  | 0, _, _, _ => rfl
  | k + 1, l, i, h => by
    rw [divN, divN_get low k _ i (by omega), subI_get low _ _ _ l i (by omega)]
/-- the highest coefficient is 1 -/
def Mon (low : List Int) : Prop := ∃ p, low = p ++ [1]
theorem Mon.len {low : List Int} (h : Mon low) : low.take (low.length - 1) ++ [1] = low := by
  obtain ⟨p, rfl⟩ := h
  rw [List.length_append]
  show (p ++ [1]).take (p.length + 1 - 1) ++ [1] = p ++ [1]
  rw [Nat.add_sub_cancel, List.take_left]
theorem act_divN {low : List Int} (hM : Mon low) (s : Sq) (i : Int) : ∀ (k : Nat) (l : List Int), low.length - 1 + k ≤ l.length →
    act (l.take (low.length - 1 + k)) s i = act ((divN low k l).take (low.length - 1)) s i + act (((divN low k l).drop (low.length - 1)).take k) (act low s) i
  | 0, l, _ => by
    show act (l.take (low.length - 1)) s i = act (l.take (low.length - 1)) s i + act ((l.drop (low.length - 1)).take 0) (act low s) i
    rw [List.take_zero]
    show _ = _ + 0
    rw [Int.add_zero]
  | k + 1, l, hl => by
    have hl1 : 1 ≤ low.length := by
      obtain ⟨p, rfl⟩ := hM
      rw [List.length_append]
      show 1 ≤ p.length + 1
      omega
    obtain ⟨f, hf⟩ : ∃ f, l[low.length - 1 + k]? = some f := ⟨_, List.getElem?_eq_getElem (by omega)⟩
    have hf' : l.getD (low.length - 1 + k) 0 = f := getD_at hf
    have ih := act_divN hM s i k (subI low f k (low.length - 1) l) (by rw [subI_len]; omega)
    have e1 : l.take (low.length - 1 + (k + 1)) = l.take (low.length - 1 + k) ++ [f] := by
      rw [← Nat.add_assoc, List.take_add_one, hf]
      rfl
    have hlt : (l.take (low.length - 1 + k)).length = low.length - 1 + k := by rw [List.length_take]; omega
    rw [subI_take (n := low.length - 1 + k) _ _ (by omega) (by omega), act_subI s i (low.length - 1) _ (by omega) (by omega)] at ih
    rw [divN, hf']
    have hg : (divN low k (subI low f k (low.length - 1) l))[low.length - 1 + k]? = some f := by
      rw [divN_get low k _ _ (Nat.le_refl _), subI_get low f k _ l _ (by omega)]
      exact hf
    have e2 : ((divN low k (subI low f k (low.length - 1) l)).drop (low.length - 1)).take (k + 1) = ((divN low k (subI low f k (low.length - 1) l)).drop (low.length - 1)).take k ++ [f] := by
      rw [List.take_add_one, List.getElem?_drop, hg]
      rfl
    have hlk : (((divN low k (subI low f k (low.length - 1) l)).drop (low.length - 1)).take k).length = k := by
      rw [List.length_take, List.length_drop, divN_len, subI_len]
      omega
    have em : act low s (i + k) = act (low.take (low.length - 1)) s (i + k) + s (i + k + (low.length - 1 : Nat)) := by
      have := act_append (low.take (low.length - 1)) [1] s (i + k)
      rw [hM.len, List.length_take, show min (low.length - 1) low.length = low.length - 1 by omega] at this
      rw [this]
      show _ + (1 * s _ + 0) = _
      rw [Int.one_mul, Int.add_zero]
    rw [e1, act_append, hlt, e2, act_append, hlk]
    show act (l.take (low.length - 1 + k)) s i + (f * s (i + ((low.length - 1 + k : Nat) : Int)) + 0) = _ + (_ + (f * act low s (i + k) + 0))
    rw [em, Int.mul_add, show i + ((low.length - 1 + k : Nat) : Int) = i + (k : Int) + ((low.length - 1 : Nat) : Int) by omega]
    omega
theorem act_div {low : List Int} (hM : Mon low) (l : List Int) (s : Sq) (i : Int) : act l s i = act (rst low l) s i + act (quo low l) (act low s) i := by
  by_cases c : low.length - 1 ≤ l.length
  · have := act_divN hM s i (l.length - (low.length - 1)) l (by omega)
    rw [List.take_of_length_le (by omega)] at this
    rw [this]
    unfold rst quo divL
    rw [List.take_of_length_le (i := l.length - (low.length - 1)) (by rw [List.length_drop, divN_len]; exact Nat.le_refl _)]
  · unfold rst quo divL
    rw [show l.length - (low.length - 1) = 0 by omega]
    show act l s i = act (l.take (low.length - 1)) s i + act (l.drop (low.length - 1)) (act low s) i
    rw [List.take_of_length_le (by omega), List.drop_of_length_le (by omega)]
    show _ = _ + 0
    rw [Int.add_zero]
theorem act_all0 {p : List Int} (h : (p.all fun x => decide (x = 0)) = true) (s : Sq) (i : Int) : act p s i = 0 := by
  have e : p = List.replicate p.length 0 := List.eq_replicate_iff.mpr ⟨rfl, fun b hb => of_decide_eq_true (List.all_eq_true.mp h b hb)⟩
  rw [e]
  exact act_zeros s _ i
theorem act_exact {low l : List Int} (hM : Mon low) (h : ((rst low l).all fun x => decide (x = 0)) = true) (s : Sq) (i : Int) : act l s i = act (quo low l) (act low s) i := by
  rw [act_div hM, act_all0 h, Int.zero_add]
end Sd

namespace Sd
open PySem PySem.Spec PyProof.Rows L2

/-! ### facts of C(1) to C(40) -/
theorem cyc_mon0 : ∀ p, p < 41 → 1 ≤ p → (cyc p).getLast? = some 1 := by decide +kernel
theorem cyc_mon {p : Nat} (h1 : 1 ≤ p) (h : p ≤ 40) : Mon (cyc p) := by
  have := cyc_mon0 p (by omega) h1
  obtain ⟨q, hq⟩ := List.getLast?_eq_some_iff.mp this
  exact ⟨q, hq⟩
def all0 (l : List Int) : Bool := l.all fun x => decide (x = 0)
theorem cyc_xn0 : ∀ p, p < 41 → 1 ≤ p → all0 (rst (cyc p) (xn1 p)) = true := by decide +kernel
def phi (g : Nat) : Nat → List Int
  | 0 => [1]
  | k + 1 => (1 :: List.replicate (g - 1) 0) ++ phi g k
theorem cyc_phi0 : ∀ d, d < 41 → ∀ g, g < d → 1 ≤ g → d % g = 0 → all0 (rst (cyc d) (phi g (d / g - 1))) = true := by decide +kernel
def chain : List Nat → List Int → Bool
  | [], a => decide (a = [1])
  | d :: ds, a => all0 (rst (cyc d) a) && chain ds (quo (cyc d) a)
theorem chain0 : ∀ n, n < 41 → 1 ≤ n → chain (divs n n) (xn1 n) = true := by decide +kernel
end Sd

namespace Sd
open PySem PySem.Spec PyProof.Rows L2

/-! ### many act one behind the other -/
def acts : List Nat → Sq → Sq
  | [], s => s
  | d :: ds, s => acts ds (act (cyc d) s)
theorem acts_congr {s t : Sq} (h : ∀ i, s i = t i) (ds : List Nat) (i : Int) : acts ds s i = acts ds t i := by rw [show s = t from funext h]
theorem acts_act : ∀ (ds : List Nat) (p : List Int) (s : Sq) (i : Int), acts ds (act p s) i = act p (acts ds s) i
  | [], _, _, _ => rfl
  | d :: ds, p, s, i => by
    rw [acts, acts, acts_congr (t := act p (act (cyc d) s)) (fun k => act_comm (cyc d) p s k), acts_act ds p]
theorem acts_null {s : Sq} (h : ∀ i, s i = 0) : ∀ (ds : List Nat) (i : Int), acts ds s i = 0
  | [], i => h i
  | d :: ds, i => acts_null (s := act (cyc d) s) (act_null h) ds i
theorem acts_filter (p : Nat → Bool) : ∀ (ds : List Nat) (s : Sq) (i : Int), acts ds s i = acts (ds.filter p) (acts (ds.filter fun d => !p d) s) i
  | [], _, _ => rfl
  | d :: ds, s, i => by
    rw [acts, acts_filter p ds, List.filter_cons, List.filter_cons]
    cases h : p d with
    | true =>
      rw [if_pos rfl, if_neg (by decide), acts]
      exact acts_congr (fun k => acts_act _ _ _ _) _ _
    | false =>
      rw [if_neg (by decide), if_pos (by decide), acts]
theorem xn1_act {n : Nat} (h : 1 ≤ n) (s : Sq) (i : Int) : act (xn1 n) s i = s (i + n) - s i := by
  unfold xn1
  rw [act_append, act_append, act_zeros, List.length_append, List.length_replicate]
  show -1 * s i + 0 + 0 + (1 * s (i + ((1 + (n - 1) : Nat) : Int)) + 0) = _
  rw [show ((1 + (n - 1) : Nat) : Int) = (n : Int) by omega, Int.one_mul]
  omega
theorem chain_act : ∀ {ds : List Nat} {a : List Int}, (∀ d ∈ ds, 1 ≤ d ∧ d ≤ 40) → chain ds a = true → ∀ (s : Sq) (i : Int), act a s i = acts ds s i
  | [], a, _, h, s, i => by
    have e : a = [1] := of_decide_eq_true h
    rw [e]
    show 1 * s i + 0 = s i
    omega
  | d :: ds, a, hd, h, s, i => by
    have h' := (Bool.and_eq_true _ _).mp h
    have h1 := hd d List.mem_cons_self
    rw [act_exact (cyc_mon h1.1 h1.2) h'.1, chain_act (fun x hx => hd x (List.mem_cons_of_mem _ hx)) h'.2]
    rfl
theorem all_act {n : Nat} (h1 : 1 ≤ n) (h : n ≤ 40) (s : Sq) (i : Int) : acts (divs n n) s i = s (i + n) - s i := by
  rw [← chain_act (a := xn1 n) (fun d hd => by have := divs_mem.mp hd; omega) (chain0 n (by omega) h1), xn1_act h1]
/-! ### what two different ones both kill is 0 -/
def PerS (w : Sq) (d : Nat) : Prop := ∀ i, w (i + d) = w i
theorem PerS.mul {w : Sq} {d : Nat} (h : PerS w d) : ∀ (k : Nat) (i : Int), w (i + ((k * d : Nat) : Int)) = w i
  | 0, i => by rw [Nat.zero_mul, show i + ((0 : Nat) : Int) = i by omega]
  | k + 1, i => by
    rw [Nat.succ_mul, show i + ((k * d + d : Nat) : Int) = i + ((k * d : Nat) : Int) + (d : Int) by omega, h, h.mul k]
theorem PerS.mod {w : Sq} {d e : Nat} (hd : PerS w d) (he : PerS w e) : PerS w (e % d) := fun i => by
  have h1 := hd.mul (e / d) (i + ((e % d : Nat) : Int))
  have h2 : i + ((e % d : Nat) : Int) + ((e / d * d : Nat) : Int) = i + (e : Int) := by
    have := Nat.mod_add_div e d
    rw [Nat.mul_comm] at this
    omega
  rw [h2, he] at h1
  exact h1.symm
theorem PerS.gcd {w : Sq} (d e : Nat) : PerS w d → PerS w e → PerS w (Nat.gcd d e) := by
  induction d, e using Nat.gcd.induction with
  | H0 e => intro _ he; rw [Nat.gcd_zero_left]; exact he
  | H1 d e _ ih => intro hd he; rw [Nat.gcd_rec]; exact ih (hd.mod he) hd
theorem phi_act {w : Sq} {g : Nat} (h1 : 1 ≤ g) (h : PerS w g) : ∀ (k : Nat) (i : Int), act (phi g k) w i = ((k : Int) + 1) * w i
  | 0, i => by
    show 1 * w i + 0 = ((0 : Nat) + 1 : Int) * w i
    rw [show (((0 : Nat) : Int) + 1) = 1 by omega, Int.add_zero]
  | k + 1, i => by
    rw [phi, act_append, List.length_cons, List.length_replicate, phi_act h1 h k]
    rw [show i + ((g - 1 + 1 : Nat) : Int) = i + (g : Int) by omega, h i]
    show 1 * w i + act (List.replicate (g - 1) 0) w (i + 1) + ((k : Int) + 1) * w i = (((k + 1 : Nat) : Int) + 1) * w i
    rw [act_zeros, show (((k + 1 : Nat) : Int) + 1) = 1 + ((k : Int) + 1) by omega, Int.add_mul 1]
    omega
theorem cyc_per {w : Sq} {d : Nat} (h1 : 1 ≤ d) (h : d ≤ 40) (hw : ∀ i, act (cyc d) w i = 0) : PerS w d := fun i => by
  have e := act_exact (cyc_mon h1 h) (cyc_xn0 d (by omega) h1) w i
  rw [act_null hw, xn1_act h1] at e
  omega
theorem cyc_low {w : Sq} {d g : Nat} (h : d ≤ 40) (hg : g < d) (hg1 : 1 ≤ g) (hz : d % g = 0) (hw : ∀ i, act (cyc d) w i = 0) (hp : PerS w g) (i : Int) : w i = 0 := by
  have e := act_exact (cyc_mon (by omega) h) (cyc_phi0 d (by omega) g hg hg1 hz) w i
  rw [act_null hw, phi_act hg1 hp] at e
  have : 0 < d / g := Nat.div_pos (by omega) hg1
  rcases Int.mul_eq_zero.mp e with z | z
  · omega
  · exact z
theorem two_kill {w : Sq} {d e : Nat} (d1 : 1 ≤ d) (d40 : d ≤ 40) (e1 : 1 ≤ e) (e40 : e ≤ 40) (ne : d ≠ e) (hd : ∀ i, act (cyc d) w i = 0) (he : ∀ i, act (cyc e) w i = 0) (i : Int) : w i = 0 := by
  have hg := PerS.gcd d e (cyc_per d1 d40 hd) (cyc_per e1 e40 he)
  have g1 : 1 ≤ Nat.gcd d e := Nat.gcd_pos_of_pos_left e d1
  have gd := Nat.gcd_dvd_left d e
  have ge := Nat.gcd_dvd_right d e
  by_cases c : Nat.gcd d e < d
  · exact cyc_low d40 c g1 (Nat.mod_eq_zero_of_dvd gd) hd hg i
  · have hd' : Nat.gcd d e = d := Nat.le_antisymm (Nat.le_of_dvd d1 gd) (by omega)
    rw [hd'] at ge hg
    have : d ≤ e := Nat.le_of_dvd e1 ge
    exact cyc_low e40 (by omega) d1 (Nat.mod_eq_zero_of_dvd ge) he hg i
theorem peel {d : Nat} (d1 : 1 ≤ d) (d40 : d ≤ 40) : ∀ {T : List Nat} {w : Sq}, (∀ e ∈ T, e ≠ d ∧ 1 ≤ e ∧ e ≤ 40) → (∀ i, act (cyc d) w i = 0) → (∀ i, acts T w i = 0) → ∀ i, w i = 0
  | [], _, _, _, h, i => h i
  | e :: T, w, ht, hd, h, i => by
    obtain ⟨h1, h2, h3⟩ := ht e List.mem_cons_self
    have hw1 : ∀ k, act (cyc e) w k = 0 := peel d1 d40 (T := T) (w := act (cyc e) w) (fun x hx => ht x (List.mem_cons_of_mem _ hx)) (fun k => by rw [act_comm, act_null hd]) h
    exact two_kill d1 d40 h2 h3 (fun z => h1 z.symm) hd hw1 i
theorem divs_one {n : Nat} : ∀ {k d : Nat}, d ∈ divs n k → (divs n k).filter (fun e => decide (e = d)) = [d]
  | 0, d, h => by
    rw [divs] at h
    exact (List.not_mem_nil h).elim
  | k + 1, d, h => by
    rw [divs] at h ⊢
    by_cases c : n % (k + 1) = 0
    · rw [if_pos c] at h ⊢
      rw [List.filter_append]
      by_cases z : d = k + 1
      · subst z
        have e1 : (divs n k).filter (fun e => decide (e = k + 1)) = [] := List.filter_eq_nil_iff.mpr fun a ha => by
          have := (divs_mem.mp ha).2.1
          intro y
          have := of_decide_eq_true y
          omega
        rw [e1, List.filter_cons, if_pos (decide_eq_true rfl), List.filter_nil, List.nil_append]
      · have hm : d ∈ divs n k := by
          rcases List.mem_append.mp h with y | y
          · exact y
          · exact absurd (List.mem_singleton.mp y) z
        rw [divs_one hm, List.filter_cons, if_neg (by intro y; exact z (of_decide_eq_true y).symm), List.filter_nil, List.append_nil]
    · rw [if_neg c] at h ⊢
      exact divs_one h
/-- each of some kills what the others leave: the rest kill it -/
theorem kill {n : Nat} (n1 : 1 ≤ n) (n40 : n ≤ 40) {u : Sq} (hp : PerS u n) : ∀ (T : List Nat), (∀ d ∈ T, d ∈ divs n n ∧ ∀ i, acts ((divs n n).filter fun e => decide (e ≠ d)) u i = 0) → ∀ i, acts ((divs n n).filter fun e => decide (e ∉ T)) u i = 0
  | [], _, i => by
    have e : (divs n n).filter (fun e => decide (e ∉ ([] : List Nat))) = divs n n := List.filter_eq_self.mpr fun a _ => decide_eq_true (List.not_mem_nil)
    rw [e, all_act n1 n40, hp]
    omega
  | d :: T, h, i => by
    have hT := kill n1 n40 hp T fun x hx => h x (List.mem_cons_of_mem _ hx)
    obtain ⟨hd, hk⟩ := h d List.mem_cons_self
    have hd40 := divs_mem.mp hd
    by_cases c : d ∈ T
    · have e : (divs n n).filter (fun e => decide (e ∉ d :: T)) = (divs n n).filter (fun e => decide (e ∉ T)) := List.filter_congr fun a _ => decide_eq_decide.mpr ⟨fun y z => y (List.mem_cons_of_mem _ z), fun y z => by
        rcases List.mem_cons.mp z with w | w
        · subst w; exact y c
        · exact y w⟩
      rw [e]
      exact hT i
    · refine peel (d := d) hd40.1 (by omega) (T := (divs n n).filter fun e => decide (e ∈ T)) (w := acts ((divs n n).filter fun e => decide (e ∉ d :: T)) u) (fun e he => ?_) (fun k => ?_) (fun k => ?_) i
      · have h1 := List.mem_filter.mp he
        have h2 := of_decide_eq_true h1.2
        have h3 := divs_mem.mp h1.1
        exact ⟨fun z => c (by rw [← z]; exact h2), h3.1, by omega⟩
      · have h1 := acts_filter (fun e => decide (e ≠ d)) ((divs n n).filter fun e => decide (e ∉ T)) u k
        rw [hT k, List.filter_filter, List.filter_filter] at h1
        have e1 : (divs n n).filter (fun a => decide (a ≠ d) && decide (a ∉ T)) = (divs n n).filter fun e => decide (e ∉ d :: T) := List.filter_congr fun a _ => by
          rw [← Bool.decide_and]
          exact decide_eq_decide.mpr ⟨fun y z => by rcases List.mem_cons.mp z with w | w; exact y.1 w; exact y.2 w, fun y => ⟨fun z => y (by rw [z]; exact List.mem_cons_self), fun z => y (List.mem_cons_of_mem _ z)⟩⟩
        have e2 : (divs n n).filter (fun a => (!decide (a ≠ d)) && decide (a ∉ T)) = [d] := by
          rw [← divs_one hd]
          refine List.filter_congr fun a _ => ?_
          by_cases y : a = d
          · subst y
            rw [decide_eq_false (fun z => z rfl), decide_eq_true c, decide_eq_true rfl]
            rfl
          · rw [decide_eq_true y, decide_eq_false y]
            rfl
        rw [e1, e2] at h1
        have h2 : acts ((divs n n).filter fun e => decide (e ∉ d :: T)) (acts [d] u) k = act (cyc d) (acts ((divs n n).filter fun e => decide (e ∉ d :: T)) u) k := acts_act _ _ _ _
        rw [← h2]
        exact h1.symm
      · have h1 := acts_filter (fun e => decide (e ∈ T)) ((divs n n).filter fun e => decide (e ≠ d)) u k
        rw [hk k, List.filter_filter, List.filter_filter] at h1
        have e1 : (divs n n).filter (fun a => decide (a ∈ T) && decide (a ≠ d)) = (divs n n).filter fun e => decide (e ∈ T) := List.filter_congr fun a _ => by
          rw [← Bool.decide_and]
          exact decide_eq_decide.mpr ⟨fun y => y.1, fun y => ⟨y, fun z => c (by rw [← z]; exact y)⟩⟩
        have e2 : (divs n n).filter (fun a => (!decide (a ∈ T)) && decide (a ≠ d)) = (divs n n).filter fun e => decide (e ∉ d :: T) := List.filter_congr fun a _ => by
          rw [← decide_not, ← Bool.decide_and]
          exact decide_eq_decide.mpr ⟨fun y z => by rcases List.mem_cons.mp z with w | w; exact y.2 w; exact y.1 w, fun y => ⟨fun z => y (List.mem_cons_of_mem _ z), fun z => y (by rw [z]; exact List.mem_cons_self)⟩⟩
        rw [e1, e2] at h1
        exact h1.symm
/-! ### the disc as a sequence -/
def dlt (n : Nat) : Sq := fun i => if i % (n : Int) = 0 then 1 else 0
theorem dlt_per {n : Nat} : PerS (dlt n) n := fun i => by
  unfold dlt
  rw [Int.add_emod_right]
theorem act_dlt {n : Nat} (h1 : 1 ≤ n) : ∀ (p : List Int), p.length ≤ n → ∀ i : Int, act p (dlt n) i = p.getD (((-i) % (n : Int)).toNat) 0
  | [], _, i => by
    rw [List.getD_eq_getElem?_getD, List.getElem?_nil]
    rfl
  | a :: p, h, i => by
    rw [List.length_cons] at h
    rw [act, act_dlt h1 p (by omega)]
    have hm := mod_in (i := -i) (show 0 < n by omega)
    have hm2 := mod_in (i := -(i + 1)) (show 0 < n by omega)
    by_cases c : i % (n : Int) = 0
    · have e0 : (-i) % (n : Int) = 0 := Int.emod_eq_zero_of_dvd (Int.dvd_neg.mpr (Int.dvd_of_emod_eq_zero c))
      have e1 : (-(i + 1)) % (n : Int) = n - 1 := by
        have : (-(i + 1)) % (n : Int) = (((-i) % (n : Int)) + ((n : Int) - 1)) % (n : Int) := by
          rw [Int.emod_add_emod, show -i + ((n : Int) - 1) = -(i + 1) + (n : Int) by omega, Int.add_emod_right]
        rw [this, e0, Int.zero_add, Int.emod_eq_of_lt (by omega) (by omega)]
      rw [e0, e1]
      show a * dlt n i + p.getD ((n : Int) - 1).toNat 0 = a
      have e2 : p.getD ((n : Int) - 1).toNat 0 = 0 := by
        rw [List.getD_eq_getElem?_getD, List.getElem?_eq_none (by omega)]
        rfl
      rw [e2]
      unfold dlt
      rw [if_pos c]
      omega
    · have hpos : 0 < (-i) % (n : Int) := by
        rcases Int.lt_or_eq_of_le hm.1 with y | y
        · exact y
        · exact absurd (Int.emod_eq_zero_of_dvd (Int.dvd_neg.mp (Int.dvd_of_emod_eq_zero y.symm))) c
      have e1 : (-(i + 1)) % (n : Int) = (-i) % (n : Int) - 1 := by
        have : (-(i + 1)) % (n : Int) = (((-i) % (n : Int)) - 1) % (n : Int) := by
          rw [Int.emod_sub_emod, show -i - 1 = -(i + 1) by omega]
        rw [this, Int.emod_eq_of_lt (by omega) (by omega)]
      rw [e1]
      have e3 : ((-i) % (n : Int)).toNat = ((-i) % (n : Int) - 1).toNat + 1 := by omega
      rw [e3, List.getD_cons_succ]
      unfold dlt
      rw [if_neg c, Int.mul_zero, Int.zero_add]
/-- all that are not blind kill a disc, counted backwards -/
theorem blind_kill {ns : List Int} (l1 : 1 ≤ ns.length) (l40 : ns.length ≤ 40) (i : Int) : acts ((divs ns.length ns.length).filter fun e => decide (e ∉ blindL ns)) (act ns (dlt ns.length)) i = 0 := by
  refine kill l1 l40 (fun k => ?_) (blindL ns) (fun d hd => ⟨(List.mem_filter.mp hd).1, fun k => ?_⟩) i
  · have := act_shift ns (dlt ns.length) ns.length k
    rw [← this]
    exact act_congr fun j _ => dlt_per _
  · have hm := blind_mem hd
    have hb : blB ns d = true := (List.mem_filter.mp hd).2
    have e1 : act ns (dlt ns.length) = act (quo (cyc d) ns) (act (cyc d) (dlt ns.length)) := funext fun m => act_exact (cyc_mon hm.1 (by omega)) hb _ m
    rw [e1, acts_act]
    refine act_null (fun m => ?_) k
    have h1 := acts_filter (fun e => decide (e ≠ d)) (divs ns.length ns.length) (dlt ns.length) m
    have e2 : (divs ns.length ns.length).filter (fun a => !decide (a ≠ d)) = [d] := by
      rw [← divs_one (List.mem_filter.mp hd).1]
      refine List.filter_congr fun a _ => ?_
      by_cases y : a = d
      · rw [decide_eq_true y, decide_eq_false (fun z => z y)]
        rfl
      · rw [decide_eq_false y, decide_eq_true y]
        rfl
    rw [all_act l1 l40, dlt_per, e2] at h1
    have h2 : acts ((divs ns.length ns.length).filter fun e => decide (e ≠ d)) (acts [d] (dlt ns.length)) m = acts ((divs ns.length ns.length).filter fun e => decide (e ≠ d)) (act (cyc d) (dlt ns.length)) m := rfl
    rw [← h2, ← h1]
    omega
/-! ### products -/
/-- f times q added to l at s, s + 1 .. -/
def addI (q : List Int) (f : Int) (s : Nat) : Nat → List Int → List Int
  | 0, l => l
  | j + 1, l => (addI q f s j l).set (s + j) ((addI q f s j l).getD (s + j) 0 + f * q.getD j 0)
def mulN (p q : List Int) : Nat → List Int
  | 0 => List.replicate (p.length + q.length - 1) 0
  | i + 1 => addI q (p.getD i 0) i q.length (mulN p q i)
def mulL (p q : List Int) : List Int := mulN p q p.length
theorem addI_len (q : List Int) (f : Int) (s : Nat) : ∀ (j : Nat) (l : List Int), (addI q f s j l).length = l.length
  | 0, _ => rfl
  | j + 1, l => by
    rw [addI, List.length_set, addI_len q f s j l]
theorem mulN_len (p q : List Int) : ∀ i, (mulN p q i).length = p.length + q.length - 1
  | 0 => List.length_replicate
  | i + 1 => by rw [mulN, addI_len, mulN_len p q i]
theorem act_addI {q : List Int} {f : Int} {k : Nat} (s : Sq) (i : Int) : ∀ (j : Nat) (l : List Int), j ≤ q.length → k + j ≤ l.length → act (addI q f k j l) s i = act l s i + f * act (q.take j) s (i + k)
  | 0, l, _, _ => by
    show act l s i = act l s i + f * 0
    rw [Int.mul_zero, Int.add_zero]
  | j + 1, l, h, hl => by
    obtain ⟨c, hc⟩ : ∃ c, q[j]? = some c := ⟨_, List.getElem?_eq_getElem (by omega)⟩
    rw [addI, act_set _ _ _ _ _ (by rw [addI_len]; omega), act_addI s i j l (by omega) (by omega), List.take_add_one, hc, getD_at hc]
    show _ = act l s i + f * act (q.take j ++ [c]) s (i + k)
    rw [act_append, List.length_take, show min j q.length = j by omega]
    show _ = act l s i + f * (act (q.take j) s (i + k) + (c * s (i + k + j) + 0))
    rw [show i + (k : Int) + (j : Int) = i + ((k + j : Nat) : Int) by omega, Int.mul_add, Int.add_zero, ← Int.mul_assoc]
    rw [show (addI q f k j l).getD (k + j) 0 + f * c - (addI q f k j l).getD (k + j) 0 = f * c by omega]
    omega
theorem act_mulN (p q : List Int) (hq : 1 ≤ q.length) (s : Sq) (i : Int) : ∀ k, k ≤ p.length → act (mulN p q k) s i = act (p.take k) (act q s) i
  | 0, _ => by
    rw [mulN, act_zeros]
    rfl
  | k + 1, h => by
    obtain ⟨c, hc⟩ : ∃ c, p[k]? = some c := ⟨_, List.getElem?_eq_getElem (by omega)⟩
    rw [mulN, act_addI s i q.length _ (Nat.le_refl _) (by rw [mulN_len]; omega), act_mulN p q hq s i k (by omega), List.take_add_one, hc, getD_at hc, List.take_of_length_le (Nat.le_refl _)]
    show _ = act (p.take k ++ [c]) (act q s) i
    rw [act_append, List.length_take, show min k p.length = k by omega]
    show _ = _ + (c * act q s (i + k) + 0)
    omega
theorem act_mulL (p q : List Int) (hq : 1 ≤ q.length) (s : Sq) (i : Int) : act (mulL p q) s i = act p (act q s) i := by
  unfold mulL
  rw [act_mulN p q hq s i p.length (Nat.le_refl _), List.take_of_length_le (Nat.le_refl _)]
/-- the product of C(d), one behind the other -/
def prodL (ds : List Nat) : List Int := ds.foldl (fun a d => mulL a (cyc d)) [1]
theorem prodL_snoc (ds : List Nat) (d : Nat) : prodL (ds ++ [d]) = mulL (prodL ds) (cyc d) := by
  unfold prodL
  rw [List.foldl_append]
  rfl
theorem fold_act : ∀ (ds : List Nat) (a : List Int), (∀ d ∈ ds, 1 ≤ d ∧ d ≤ 40) → ∀ (s : Sq) (i : Int), act (ds.foldl (fun a d => mulL a (cyc d)) a) s i = act a (acts ds s) i
  | [], _, _, _, _ => rfl
  | d :: ds, a, h, s, i => by
    have h1 := h d List.mem_cons_self
    have hl := (cyc_len h1.1 h1.2).1
    rw [List.foldl_cons, fold_act ds _ (fun x hx => h x (List.mem_cons_of_mem _ hx)), act_mulL _ _ (by omega)]
    refine act_congr fun j _ => ?_
    exact (acts_act ds (cyc d) s _).symm
theorem prodL_act {ds : List Nat} (h : ∀ d ∈ ds, 1 ≤ d ∧ d ≤ 40) (s : Sq) (i : Int) : act (prodL ds) s i = acts ds s i := by
  unfold prodL
  rw [fold_act ds [1] h]
  show 1 * acts ds s i + 0 = _
  omega
end Sd

namespace Sd
open PySem PySem.Spec PyProof.Rows L2

/-! ### bounds of products and rests -/
/-- small enough to be a factor of any number -/
def Sml (l : List Int) : Prop := ∀ x ∈ l, x.natAbs < 2 ^ 62
theorem Unt.sml {l : List Int} (h : Unt l) : Sml l := fun x hx => by
  have := h x hx
  exact Nat.lt_of_lt_of_le (m := 2) (by omega) (by decide)
def Bd (B : Nat) (l : List Int) : Prop := ∀ x ∈ l, x.natAbs ≤ B
theorem addI_get (q : List Int) (f : Int) (s : Nat) : ∀ (j : Nat) (l : List Int) (i : Nat), s + j ≤ i → (addI q f s j l)[i]? = l[i]?
  | 0, _, _, _ => rfl
  | j + 1, l, i, h => by
    rw [addI, List.getElem?_set_ne (by omega)]
    exact addI_get q f s j l i (by omega)
theorem addI_bd {A B : Nat} {q : List Int} {f : Int} {s : Nat} (hU : Unt q) (hf : f.natAbs ≤ B) : ∀ (j : Nat) {l : List Int}, Bd A l → Bd (A + B) (addI q f s j l)
  | 0, l, h => fun x hx => Nat.le_trans (h x hx) (Nat.le_add_right _ _)
  | j + 1, l, h => fun n hn => by
    rw [addI] at hn
    rcases List.mem_or_eq_of_mem_set hn with z | z
    · exact addI_bd hU hf j h n z
    · have h1 : ((addI q f s j l).getD (s + j) 0).natAbs ≤ A := by
        rw [List.getD_eq_getElem?_getD, addI_get q f s j l (s + j) (Nat.le_refl _)]
        cases e : l[s + j]? with
        | none => exact Nat.zero_le _
        | some x => exact h x (List.mem_of_getElem? e)
      have h2 : (f * q.getD j 0).natAbs ≤ B := by
        rw [List.getD_eq_getElem?_getD]
        cases e : q[j]? with
        | none =>
          show (f * 0).natAbs ≤ B
          rw [Int.mul_zero]
          exact Nat.zero_le _
        | some x =>
          have hx := hU x (List.mem_of_getElem? e)
          have : x = -1 ∨ x = 0 ∨ x = 1 := by omega
          show (f * x).natAbs ≤ B
          rcases this with rfl | rfl | rfl <;> omega
      omega
theorem mulN_bd {B : Nat} {p q : List Int} (hU : Unt q) (hp : Bd B p) : ∀ i, Bd (i * B) (mulN p q i)
  | 0 => fun x hx => by
    rw [mulN] at hx
    rw [(List.mem_replicate.mp hx).2]
    exact Nat.zero_le _
  | i + 1 => by
    rw [mulN, Nat.succ_mul]
    refine addI_bd hU ?_ _ (mulN_bd hU hp i)
    rw [List.getD_eq_getElem?_getD]
    cases e : p[i]? with
    | none => exact Nat.zero_le _
    | some x => exact hp x (List.mem_of_getElem? e)
theorem fold_bd : ∀ (ds : List Nat) (a : List Int) (B : Nat), (∀ d ∈ ds, 1 ≤ d ∧ d ≤ 40) → 1 ≤ a.length → a.length + degS ds ≤ 41 → Bd B a → Bd (B * 41 ^ ds.length) (ds.foldl (fun a d => mulL a (cyc d)) a) ∧ (ds.foldl (fun a d => mulL a (cyc d)) a).length = a.length + degS ds
  | [], a, B, _, _, _, h => ⟨by rw [List.length_nil, Nat.pow_zero, Nat.mul_one]; exact h, rfl⟩
  | d :: ds, a, B, hd, ha, hl, h => by
    have h1 := hd d List.mem_cons_self
    have hc := cyc_len h1.1 h1.2
    unfold degS at hl
    rw [List.map_cons, List.sum_cons] at hl
    have hm : (mulL a (cyc d)).length = a.length + ((cyc d).length - 1) := by
      unfold mulL
      rw [mulN_len]
      omega
    have hb : Bd (B * 41) (mulL a (cyc d)) := fun x hx => by
      have := mulN_bd (cyc_unt h1.1 h1.2) h a.length x hx
      exact Nat.le_trans this (by rw [Nat.mul_comm]; exact Nat.mul_le_mul_left _ (by omega))
    obtain ⟨i1, i2⟩ := fold_bd ds (mulL a (cyc d)) (B * 41) (fun x hx => hd x (List.mem_cons_of_mem _ hx)) (by omega) (by rw [hm]; unfold degS; omega) hb
    rw [List.foldl_cons]
    refine ⟨?_, ?_⟩
    · rw [List.length_cons, Nat.pow_succ, Nat.mul_comm (41 ^ ds.length), ← Nat.mul_assoc]
      exact i1
    · rw [i2, hm]
      unfold degS
      rw [List.map_cons, List.sum_cons]
      omega
/-- those that are not blind -/
def seenL (ns : List Int) : List Nat := (divs ns.length ns.length).filter fun e => decide (e ∉ blindL ns)
theorem seen_mem {ns : List Int} {d : Nat} (h : d ∈ seenL ns) : 1 ≤ d ∧ d ≤ ns.length ∧ ns.length % d = 0 := divs_mem.mp (List.mem_filter.mp h).1
theorem seen_deg {ns : List Int} (l1 : 1 ≤ ns.length) (l40 : ns.length ≤ 40) : degS (seenL ns) ≤ ns.length := by
  have := degS_filter (fun e => decide (e ∉ blindL ns)) (divs ns.length ns.length)
  rw [deg_all ns.length (by omega) l1] at this
  exact this
def seenP (ns : List Int) : List Int := prodL (seenL ns)
theorem seenP_len {ns : List Int} (l1 : 1 ≤ ns.length) (l40 : ns.length ≤ 40) : (seenP ns).length = 1 + degS (seenL ns) := by
  have h := seen_deg l1 l40
  exact (fold_bd (seenL ns) [1] 1 (fun d hd => by have := seen_mem hd; omega) (Nat.le_refl _) (by show 1 + _ ≤ 41; omega) (fun x hx => by rw [List.mem_singleton.mp hx]; decide)).2
theorem seenP_sml {ns : List Int} (l1 : 1 ≤ ns.length) (l40 : ns.length ≤ 40) : Sml (seenP ns) := fun x hx => by
  have h := seen_deg l1 l40
  have h1 := (fold_bd (seenL ns) [1] 1 (fun d hd => by have := seen_mem hd; omega) (Nat.le_refl _) (by show 1 + _ ≤ 41; omega) (fun x hx => by rw [List.mem_singleton.mp hx]; decide)).1 x hx
  have h2 : (seenL ns).length ≤ 9 := Nat.le_trans (List.length_filter_le _ _) (divs_few _ (by omega))
  have h3 : 1 * 41 ^ (seenL ns).length ≤ 41 ^ 9 := by rw [Nat.one_mul]; exact Nat.pow_le_pow_right (by decide) h2
  exact Nat.lt_of_le_of_lt (Nat.le_trans h1 h3) (by decide)
theorem fold_mon : ∀ (ds : List Nat) (a : List Int), (∀ d ∈ ds, 1 ≤ d ∧ d ≤ 40) → 1 ≤ a.length → Mon a → Mon (ds.foldl (fun a d => mulL a (cyc d)) a)
  | [], a, _, _, h => h
  | d :: ds, a, hd, ha, h => by
    have h1 := hd d List.mem_cons_self
    have hc := cyc_len h1.1 h1.2
    rw [List.foldl_cons]
    have hm : (mulL a (cyc d)).length = a.length + ((cyc d).length - 1) := by
      unfold mulL
      rw [mulN_len]
      omega
    refine fold_mon ds _ (fun x hx => hd x (List.mem_cons_of_mem _ hx)) (by omega) ?_
    -- the last number of a product
    obtain ⟨p, hp⟩ := h
    obtain ⟨q, hq⟩ := cyc_mon h1.1 h1.2
    have hl : (mulL a (cyc d))[a.length + (cyc d).length - 2]? = some 1 := by
      have hap : a.length = p.length + 1 := by rw [hp, List.length_append]; rfl
      have hcq : (cyc d).length = q.length + 1 := by rw [hq, List.length_append]; rfl
      unfold mulL
      rw [hap, mulN]
      have ea : a.getD p.length 0 = 1 := by
        rw [hp, List.getD_eq_getElem?_getD, List.getElem?_append_right (Nat.le_refl _), Nat.sub_self]
        rfl
      rw [ea, hcq, addI]
      have hidx : p.length + 1 + (q.length + 1) - 2 = p.length + q.length := by omega
      rw [hidx]
      have ec : (cyc d).getD q.length 0 = 1 := by
        rw [hq, List.getD_eq_getElem?_getD, List.getElem?_append_right (Nat.le_refl _), Nat.sub_self]
        rfl
      have e0 : (addI (cyc d) 1 p.length q.length (mulN a (cyc d) p.length)).getD (p.length + q.length) 0 = 0 := by
        rw [List.getD_eq_getElem?_getD, addI_get _ _ _ _ _ _ (Nat.le_refl _), mulN_top (a := a) (c := cyc d) (i := p.length) (k := p.length + q.length) (by omega) (by omega) (by omega)]
        rfl
      rw [List.getElem?_set_self (by rw [addI_len, mulN_len]; omega), e0, ec]
      rfl
    refine ⟨(mulL a (cyc d)).take (a.length + (cyc d).length - 2), ?_⟩
    have h2 : (mulL a (cyc d)).take (a.length + (cyc d).length - 2 + 1) = (mulL a (cyc d)).take (a.length + (cyc d).length - 2) ++ [1] := by
      rw [List.take_add_one, hl]
      rfl
    rw [← h2, List.take_of_length_le (by rw [hm]; omega)]
where
  mulN_top {a c : List Int} (hc : 1 ≤ c.length) : ∀ {i k : Nat}, i + c.length - 1 ≤ k → k < a.length + c.length - 1 → (mulN a c i)[k]? = some 0
    | 0, k, _, hk => by
      rw [mulN, List.getElem?_replicate, if_pos hk]
    | i + 1, k, h, hk => by
      rw [mulN, addI_get _ _ _ _ _ _ (by omega)]
      exact mulN_top hc (by omega) hk

/-! ### the rests, the rows -/
theorem subI_abS {b : Nat} {low : List Int} {f : Int} {s : Nat} (hU : Sml low) (hf : f.natAbs < 2 ^ b) : ∀ (j : Nat) {l : List Int}, Ab b l → Ab (b + 63) (subI low f s j l)
  | 0, l, h => h.mono (Nat.le_add_right _ _)
  | j + 1, l, h => fun n hn => by
    rw [subI] at hn
    rcases List.mem_or_eq_of_mem_set hn with z | z
    · exact subI_abS hU hf j h n z
    · have hp : 0 < 2 ^ b := Nat.two_pow_pos b
      have h1 : ((subI low f s j l).getD (s + j) 0).natAbs < 2 ^ b := by
        rw [List.getD_eq_getElem?_getD, subI_get low f s j l (s + j) (Nat.le_refl _)]
        cases e : l[s + j]? with
        | none => exact hp
        | some x => exact h x (List.mem_of_getElem? e)
      have h2 : (f * low.getD j 0).natAbs < 2 ^ (b + 62) := by
        rw [List.getD_eq_getElem?_getD]
        cases e : low[j]? with
        | none =>
          show (f * 0).natAbs < _
          rw [Int.mul_zero]
          exact Nat.two_pow_pos _
        | some x => exact wide_lt hf (hU x (List.mem_of_getElem? e))
      have h3 : (2 : Nat) ^ b ≤ 2 ^ (b + 62) := pow_up (by omega)
      rw [show b + 63 = (b + 62) + 1 by omega, Nat.pow_succ]
      omega
theorem divN_abS {low : List Int} (hU : Sml low) : ∀ (k b : Nat) {l : List Int}, Ab b l → Ab (b + 63 * k) (divN low k l)
  | 0, _, _, h => h
  | k + 1, b, l, h => by
    rw [divN]
    have hf : (l.getD (low.length - 1 + k) 0).natAbs < 2 ^ b := by
      rw [List.getD_eq_getElem?_getD]
      cases e : l[low.length - 1 + k]? with
      | none => exact Nat.two_pow_pos b
      | some x => exact h x (List.mem_of_getElem? e)
    have := divN_abS hU k (b + 63) (subI_abS hU hf (low.length - 1) (s := k) h)
    rw [show b + 63 * (k + 1) = b + 63 + 63 * k by omega]
    exact this
theorem rst_abS {low l : List Int} (hU : Sml low) {b : Nat} (h : Ab b l) : Ab (b + 63 * l.length) (rst low l) := fun n hn => by
  have := divN_abS hU (l.length - (low.length - 1)) b h n (List.mem_of_mem_take hn)
  exact Nat.lt_of_lt_of_le this (pow_up (by omega))
/-- x ** m -/
def powL (m : Nat) : List Int := List.replicate m 0 ++ [1]
theorem powL_len (m : Nat) : (powL m).length = m + 1 := by
  unfold powL
  rw [List.length_append, List.length_replicate]
  rfl
theorem powL_ab (m : Nat) : Ab 1 (powL m) := fun x hx => by
  unfold powL at hx
  rcases List.mem_append.mp hx with h | h
  · rw [(List.mem_replicate.mp h).2]
    decide
  · rw [List.mem_singleton.mp h]
    decide
theorem powL_act (m : Nat) (s : Sq) (i : Int) : act (powL m) s i = s (i + m) := by
  unfold powL
  rw [act_append, act_zeros, List.length_replicate]
  show 0 + (1 * s (i + m) + 0) = _
  omega
/-- x ** m less its rest -/
def fillL (P : List Int) (n m : Nat) : List Int := (((rst P (powL m)).map fun x => -x) ++ List.replicate (n - (rst P (powL m)).length) 0).set m 1
def stepL (P : List Int) (n p : Nat) : List Int := (fillL P n (n - 1 - p)).reverse
theorem rst_powL {P : List Int} {m : Nat} (h : P.length - 1 ≤ m) : (rst P (powL m)).length = P.length - 1 := by
  rw [rst_len, powL_len]
  omega
theorem fillL_len {P : List Int} {n m : Nat} (h : P.length - 1 ≤ m) (hm : m < n) : (fillL P n m).length = n := by
  unfold fillL
  rw [List.length_set, List.length_append, List.length_map, List.length_replicate, rst_powL h]
  omega
theorem act_neg : ∀ (p : List Int) (s : Sq) (i : Int), act (p.map fun x => -x) s i = -act p s i
  | [], _, _ => rfl
  | a :: p, s, i => by
    rw [List.map_cons, act, act, act_neg p, Int.neg_mul]
    omega
theorem fillL_act {P : List Int} (hM : Mon P) {n m : Nat} (h : P.length - 1 ≤ m) (hm : m < n) (s : Sq) (i : Int) : act (fillL P n m) s i = act (quo P (powL m)) (act P s) i := by
  have hr := rst_powL h
  have e := act_div hM (powL m) s i
  rw [powL_act] at e
  unfold fillL
  rw [act_set _ _ _ _ _ (by rw [List.length_append, List.length_map, List.length_replicate, hr]; omega), act_append, act_neg, act_zeros]
  have e0 : (((rst P (powL m)).map fun x => -x) ++ List.replicate (n - (rst P (powL m)).length) 0).getD m 0 = 0 := by
    rw [List.getD_eq_getElem?_getD, List.getElem?_append_right (by rw [List.length_map, hr]; omega), List.getElem?_replicate]
    split <;> rfl
  rw [e0]
  omega
theorem fillL_ab {P : List Int} (hS : Sml P) {n m : Nat} (hm : m < 40) : Ab 2600 (fillL P n m) := fun x hx => by
  unfold fillL at hx
  rcases List.mem_or_eq_of_mem_set hx with z | z
  · rcases List.mem_append.mp z with h | h
    · obtain ⟨y, hy, rfl⟩ := List.mem_map.mp h
      have h1 := rst_abS hS (powL_ab m) y hy
      rw [powL_len] at h1
      have h2 := Nat.lt_of_lt_of_le h1 (pow_up (a := 1 + 63 * (m + 1)) (b := 2600) (by omega))
      rw [Int.natAbs_neg]
      exact h2
    · rw [(List.mem_replicate.mp h).2]
      exact Nat.two_pow_pos _
  · rw [z]
    exact Nat.lt_of_lt_of_le (m := 2 ^ 1) (by decide) (pow_up (by decide))
theorem prods_act : ∀ (p q : List Int), p.length ≤ q.length → (prods p q).sum = act p (fun i => q.getD i.toNat 0) 0
  | [], q, _ => by
    show (List.zipWith (· * ·) [] q).sum = 0
    rw [List.zipWith_nil_left]
    rfl
  | a :: p, [], h => absurd h (Nat.not_succ_le_zero _)
  | a :: p, b :: q, h => by
    have ih := prods_act p q (Nat.le_of_succ_le_succ h)
    show (List.zipWith (· * ·) (a :: p) (b :: q)).sum = a * b + act p (fun i => (b :: q).getD i.toNat 0) (0 + 1)
    rw [List.zipWith_cons_cons, List.sum_cons]
    show a * b + (prods p q).sum = _
    rw [ih]
    refine congrArg (a * b + ·) (act_congr fun j _ => ?_)
    show q.getD (0 + (j : Int)).toNat 0 = (b :: q).getD (0 + 1 + (j : Int)).toNat 0
    rw [show (0 + 1 + (j : Int)).toNat = (0 + (j : Int)).toNat + 1 by omega, List.getD_cons_succ]
theorem prods_rev {p q : List Int} (h : p.length = q.length) : (prods p.reverse q).sum = (prods p q.reverse).sum := by
  have e : prods p.reverse q = (prods p q.reverse).reverse := by
    unfold prods
    rw [List.reverse_zipWith (by rw [List.length_reverse]; exact h), List.reverse_reverse]
  rw [e, List.sum_reverse]
/-- a row in steps has no light -/
theorem step_dark {ns : List Int} (l1 : 1 ≤ ns.length) (l40 : ns.length ≤ 40) {p : Nat} (hp : p < ns.length - degS (seenL ns)) (t : Int) : lightV ns (stepL (seenP ns) ns.length p) t = 0 := by
  have hd := seen_deg l1 l40
  have hPl := seenP_len l1 l40
  have hM : Mon (seenP ns) := fold_mon (seenL ns) [1] (fun d hd => by have := seen_mem hd; omega) (Nat.le_refl _) ⟨[], rfl⟩
  have hm1 : (seenP ns).length - 1 ≤ ns.length - 1 - p := by omega
  have hm2 : ns.length - 1 - p < ns.length := by omega
  have hfl := fillL_len hm1 hm2
  have hl : (stepL (seenP ns) ns.length p).length = ns.length := by
    unfold stepL
    rw [List.length_reverse, hfl]
  rw [light_swap hl]
  unfold lightV stepL
  rw [prods_rev (by rw [rot_len, hfl]), prods_act _ _ (by rw [List.length_reverse, rot_len, hfl]; exact Nat.le_refl _)]
  have e : act (fillL (seenP ns) ns.length (ns.length - 1 - p)) (fun i => (rot ns (-t)).reverse.getD i.toNat 0) 0 = act (fillL (seenP ns) ns.length (ns.length - 1 - p)) (act ns (dlt ns.length)) (-((ns.length : Int) - 1 + t)) := act_congr fun j hj => by
    rw [hfl] at hj
    show (rot ns (-t)).reverse.getD (0 + (j : Int)).toNat 0 = act ns (dlt ns.length) (-((ns.length : Int) - 1 + t) + (j : Int))
    rw [act_dlt l1 ns (Nat.le_refl _), show (0 + (j : Int)).toNat = j by omega, List.getD_eq_getElem?_getD, List.getElem?_reverse (by rw [rot_len]; exact hj), rot_len, rot_at (by omega)]
    show ns.getD _ 0 = ns.getD _ 0
    rw [show ((ns.length - 1 - j : Nat) : Int) - -t = -(-((ns.length : Int) - 1 + t) + (j : Int)) by omega]
  rw [e, fillL_act hM hm1 hm2]
  refine act_null (fun i => ?_) _
  unfold seenP
  rw [prodL_act (fun d hd => by have := seen_mem hd; omega)]
  exact blind_kill l1 l40 i
end Sd

namespace Sd
open PySem PySem.Spec PyProof.Rows L2

/-! ### lights of sums of rows -/
/-- one row and a multiple of another -/
def linL (t : Int) (a b : List Int) : List Int := List.zipWith (fun x y => x + t * y) a b
theorem linL_len {t : Int} {a b : List Int} (h : a.length = b.length) : (linL t a b).length = a.length := by
  unfold linL
  rw [List.length_zipWith]
  omega
theorem linL_at {t : Int} {a b : List Int} {i : Nat} {x y : Int} (h1 : a[i]? = some x) (h2 : b[i]? = some y) : (linL t a b)[i]? = some (x + t * y) := by
  unfold linL
  rw [List.getElem?_zipWith, h1, h2]
theorem linL_get {t : Int} {a b : List Int} (h : a.length = b.length) {i : Nat} (hi : i < a.length) : (linL t a b).getD i 0 = a.getD i 0 + t * b.getD i 0 :=
  getD_at (linL_at (at_getD hi) (at_getD (by omega)))
theorem linL_ab {t : Int} {a b : List Int} {k j m : Nat} (ha : Ab k a) (hb : Ab j b) (ht : t.natAbs < 2 ^ m) : Ab (k + j + m + 1) (linL t a b) := fun x hx => by
  unfold linL at hx
  obtain ⟨i, hi, e⟩ := List.mem_iff_getElem.mp hx
  rw [List.length_zipWith] at hi
  rw [List.getElem_zipWith] at e
  have h1 := ha _ (List.getElem_mem (show i < a.length by omega))
  have h2 := hb _ (List.getElem_mem (show i < b.length by omega))
  rw [← e]
  have h3 := wide_lt ht h2
  have p1 : (2 : Nat) ^ k ≤ 2 ^ (k + j + m) := pow_up (by omega)
  have p2 : (2 : Nat) ^ (m + j) ≤ 2 ^ (k + j + m) := pow_up (by omega)
  rw [Nat.pow_succ]
  omega
theorem light_act {ns ms : List Int} (hl : ns.length = ms.length) (t : Int) : lightV ns ms t = act ns (fun i => (rot ms t).getD i.toNat 0) 0 := by
  unfold lightV
  exact prods_act ns (rot ms t) (by rw [rot_len]; omega)
theorem light_lin {ns a b : List Int} (ha : ns.length = a.length) (hb : ns.length = b.length) (t u : Int) : lightV ns (linL t a b) u = lightV ns a u + t * lightV ns b u := by
  have hab : a.length = b.length := by omega
  rw [light_act (by rw [linL_len hab]; exact ha), light_act ha, light_act hb, ← act_mul, ← act_add]
  refine act_congr fun j hj => ?_
  show (rot (linL t a b) u).getD (0 + (j : Int)).toNat 0 = (rot a u).getD (0 + (j : Int)).toNat 0 + t * (rot b u).getD (0 + (j : Int)).toNat 0
  rw [show (0 + (j : Int)).toNat = j by omega, rot_get (by rw [linL_len hab]; omega), rot_get (by omega), rot_get (by omega), linL_len hab, ← hab]
  have hm := mod_in (i := (j : Int) - u) (show 0 < a.length by omega)
  exact linL_get hab (by omega)
theorem lights_lin {ns a b : List Int} (ha : ns.length = a.length) (hb : ns.length = b.length) (t : Int) : lightsV ns (linL t a b) = linL t (lightsV ns a) (lightsV ns b) := by
  refine ext_getD (by rw [linL_len (by rw [lightsV_len, lightsV_len]), lightsV_len, lightsV_len]) fun j hj => ?_
  rw [lightsV_len] at hj
  rw [lights_get hj, linL_get (by rw [lightsV_len, lightsV_len]) (by rw [lightsV_len]; exact hj), lights_get hj, lights_get hj]
  exact light_lin ha hb t j
theorem lights_dark {ns a b : List Int} (ha : ns.length = a.length) (hb : ns.length = b.length) (hz : ∀ t, lightV ns b t = 0) (t : Int) : lightsV ns (linL t a b) = lightsV ns a := by
  refine ext_getD (by rw [lightsV_len, lightsV_len]) fun j hj => ?_
  rw [lightsV_len] at hj
  rw [lights_get hj, lights_get hj, light_lin ha hb, hz, Int.mul_zero, Int.add_zero]
theorem act_const : ∀ (p : List Int) (c i : Int), act p (fun _ => c) i = p.sum * c
  | [], c, _ => by
    show 0 = 0 * c
    rw [Int.zero_mul]
  | a :: p, c, i => by
    rw [act, act_const p c, List.sum_cons, Int.add_mul]
theorem light_part {ns ms : List Int} (hl : ns.length = ms.length) : ∀ k : Nat, ((List.range k).map fun (t : Nat) => lightV ns ms (t : Int)).sum = act ns (fun i => ((List.range k).map fun (t : Nat) => (rot ms (t : Int)).getD i.toNat 0).sum) 0
  | 0 => by
    show 0 = act ns (fun _ => 0) 0
    rw [act_zero]
  | k + 1 => by
    rw [List.range_succ, List.map_append, List.sum_append, light_part hl k]
    have e : (fun i : Int => ((List.range k ++ [k]).map fun (t : Nat) => (rot ms (t : Int)).getD i.toNat 0).sum) = fun i => ((List.range k).map fun (t : Nat) => (rot ms (t : Int)).getD i.toNat 0).sum + (rot ms (k : Int)).getD i.toNat 0 := funext fun i => by
      rw [List.map_append, List.sum_append]
      show _ + ((rot ms (k : Int)).getD i.toNat 0 + 0) = _
      rw [Int.add_zero]
    rw [e, act_add, ← light_act hl]
    show _ + (lightV ns ms k + 0) = _
    rw [Int.add_zero]
theorem neg_mod_mod (j t : Int) {n : Int} : -((t - j) % n) % n = (j - t) % n := by
  rw [show j - t = -(t - j) by omega]
  have e : -((t - j) % n) = -(t - j) + n * ((t - j) / n) := by
    rw [Int.emod_def]
    omega
  rw [e, Int.add_mul_emod_self_left]
theorem lights_sum {ns ms : List Int} (hl : ns.length = ms.length) : (lightsV ns ms).sum = ns.sum * ms.sum := by
  unfold lightsV
  rw [light_part hl, ← act_const ns ms.sum 0]
  refine act_congr fun j hj => ?_
  show ((List.range ns.length).map fun (t : Nat) => (rot ms (t : Int)).getD (0 + (j : Int)).toNat 0).sum = ms.sum
  rw [show (0 + (j : Int)).toNat = j by omega]
  have e : ((List.range ns.length).map fun (t : Nat) => (rot ms (t : Int)).getD j 0) = rot (mir ms) (j : Int) := by
    refine ext_getD (by rw [List.length_map, List.length_range, rot_len, mir_len]; exact hl) fun t ht => ?_
    rw [List.length_map, List.length_range] at ht
    rw [List.getD_eq_getElem?_getD, List.getElem?_map, List.getElem?_range ht]
    show (rot ms (t : Int)).getD j 0 = _
    have hm := mod_in (i := (t : Int) - (j : Int)) (show 0 < ms.length by omega)
    rw [rot_get (by omega), rot_get (by rw [mir_len]; omega), mir_len, mir_get (by omega), Int.toNat_of_nonneg hm.1]
    rw [neg_mod_mod j t]
  rw [e, sum_rot, sum_mir]
theorem light_lone {ns : List Int} {s : Nat} (hs : s < ns.length) (t : Int) : lightV ns ((List.replicate ns.length 0).set s 1) t = ns.getD ((((s : Int) + t) % (ns.length : Int)).toNat) 0 := by
  have hl : ns.length = ((List.replicate ns.length (0 : Int)).set s 1).length := by rw [List.length_set, List.length_replicate]
  rw [light_swap hl.symm, light_act hl.symm, act_set _ _ _ _ _ (by rw [List.length_replicate]; exact hs), act_zeros, List.getD_eq_getElem?_getD, List.getElem?_replicate, if_pos hs]
  show 0 + (1 - 0) * (rot ns (-t)).getD (0 + (s : Int)).toNat 0 = _
  rw [show (0 + (s : Int)).toNat = s by omega, rot_get hs, show (s : Int) - -t = s + t by omega]
  omega
theorem lights_lone {ns : List Int} {s : Nat} (hs : s < ns.length) : lightsV ns ((List.replicate ns.length 0).set s 1) = rot ns (0 - (s : Int)) := by
  refine ext_getD (by rw [lightsV_len, rot_len]) fun j hj => ?_
  rw [lightsV_len] at hj
  rw [lights_get hj, light_lone hs, rot_get hj, show (j : Int) - (0 - (s : Int)) = s + j by omega]
end Sd

namespace Sd
open PySem PySem.Spec PyProof.Rows L2

/-! ### texts -/
def mkS (l : List Nat) : Str := ⟨l.toArray⟩
theorem tl_mk (l : List Nat) : TL.tl (mkS l) = l := rfl
theorem mk_tl (x : Str) : mkS (TL.tl x) = x := TL.ext_tl rfl
theorem mk_inj {a b : List Nat} : mkS a = mkS b ↔ a = b := ⟨fun e => by
  have := congrArg TL.tl e
  exact this, fun e => by rw [e]⟩
theorem mk_app (a b : List Nat) : mkS a ++ mkS b = mkS (a ++ b) := TL.ext_tl (by rw [TL.tl_append]; rfl)
theorem mk_len (l : List Nat) : (mkS l).length = l.length := by
  rw [TL.len_tl]
  rfl
/-- the signs of an int -/
def intL (n : Int) : List Nat := if n < 0 then 45 :: TL.numL n.natAbs else TL.numL n.natAbs
def intS (n : Int) : Str := mkS (intL n)
theorem tl_ofString (s : String) : TL.tl (Str.ofString s) = s.toList.map Char.toNat := by
  rw [PySem.Str.ofString_eq_toList]
theorem str_int (n : Int) : Str.ofString (toString n) = intS n := by
  refine TL.ext_tl ?_
  rw [show TL.tl (intS n) = intL n from rfl]
  unfold intL
  by_cases h : n < 0
  · rw [if_pos h, PyProof.Rows.toString_neg h, tl_ofString, String.toList_append, List.map_append]
    have e : (0 : Int) - n = ((n.natAbs : Nat) : Int) := by omega
    have t := TL.tl_num n.natAbs
    rw [tl_ofString] at t
    rw [e, t]
    rfl
  · rw [if_neg h]
    have e : n = ((n.natAbs : Nat) : Int) := by omega
    have t := TL.tl_num n.natAbs
    rw [← e] at t
    exact t
theorem numL_head : ∀ n : Nat, 0 < n → (TL.numL n).head? ≠ some 48 := fun n => by
  induction n using Nat.strongRecOn with
  | _ n ih =>
    intro hn
    by_cases h : n < 10
    · rw [TL.numL_lt h]
      intro e
      have := Option.some.inj e
      omega
    · rw [TL.numL_step (by omega)]
      have hp := ih (n / 10) (by omega) (by omega)
      cases e : TL.numL (n / 10) with
      | nil => exact absurd e (TL.numL_ne _)
      | cons c r =>
        rw [e] at hp
        exact hp
theorem intL_pos {n : Int} (h : 0 ≤ n) : intL n = TL.numL n.natAbs := if_neg (by omega)
theorem intL_neg {n : Int} (h : n < 0) : intL n = 45 :: TL.numL n.natAbs := if_pos h
theorem intL_ne (n : Int) : intL n ≠ [] := by
  unfold intL
  split
  · exact fun e => nomatch e
  · exact TL.numL_ne _
theorem intL_free {n : Int} {s : Nat} (h : s < 48 ∨ 57 < s) (h2 : s ≠ 45) : s ∉ intL n := fun hm => by
  unfold intL at hm
  split at hm
  · rcases List.mem_cons.mp hm with e | e
    · exact h2 e
    · exact TL.numL_free h e
  · exact TL.numL_free h hm
theorem intL_len {n : Int} {k : Nat} (hk : 0 < k) (h : n.natAbs < 10 ^ k) : (intL n).length ≤ k + 1 := by
  have := TL.numL_len hk h
  unfold intL
  split
  · rw [List.length_cons]
    omega
  · omega
theorem num_digit {c : Nat} (h0 : 48 ≤ c) (h1 : c ≤ 57) : Unicode.isDigit c = true := by
  have : ∀ d : Nat, d < 10 → Unicode.isDigit (48 + d) = true := by decide +kernel
  have e := this (c - 48) (by omega)
  rw [show 48 + (c - 48) = c by omega] at e
  exact e
theorem all_tl (x : Str) (p : Nat → Bool) : x.cps.all p = (TL.tl x).all p := by
  rw [← Array.all_toList]
theorem dig_isascii (n : Nat) : Txt.isascii (mkS (TL.numL n)) = true := by
  unfold Txt.isascii
  rw [all_tl, List.all_eq_true]
  intro c hc
  have := TL.numL_digits n c hc
  exact decide_eq_true (by omega)
theorem dig_isdigit (n : Nat) : Txt.isdigit (mkS (TL.numL n)) = true := by
  unfold Txt.isdigit
  rw [Bool.and_eq_true]
  refine ⟨decide_eq_true ?_, ?_⟩
  · rw [mk_len]
    exact List.length_pos_iff.mpr (TL.numL_ne n)
  · rw [all_tl, List.all_eq_true]
    intro c hc
    have := TL.numL_digits n c hc
    exact num_digit (by omega) (by omega)
theorem starts_one (l : List Nat) (c : Nat) : Txt.startswith (mkS l) (mkS [c]) = decide (l.head? = some c) := by
  unfold Txt.startswith
  rw [mk_len, mk_len, PySem.StrLaws.subAt_eq, mk_len]
  show (decide (0 + 1 ≤ l.length) && (List.take 1 (l.drop 0) == [c])) = _
  cases l with
  | nil => rfl
  | cons x r =>
    show (decide (0 + 1 ≤ r.length + 1) && ([x] == [c])) = decide (some x = some c)
    rw [decide_eq_true (by omega), Bool.true_and]
    by_cases h : x = c
    · subst h
      rw [decide_eq_true rfl]
      exact beq_self_eq_true _
    · rw [decide_eq_false (fun e => h (Option.some.inj e))]
      exact beq_eq_false_iff_ne.mpr fun e => h (List.cons.inj e).1
theorem int_reads {n : Int} (h : n.natAbs < 10 ^ 600) : PySem.intText? (intS n) = some n := by
  by_cases h0 : n < 0
  · have e := PySem.intText_neg (x := intS n) (cs := TL.numL n.natAbs) (by show intL n = _; exact intL_neg h0) (TL.numL_digits _) (TL.numL_ne _) (by
      rw [TL.len_tl]
      show (intL n).length ≤ 4300
      have := intL_len (by decide) h
      omega)
    rw [e, TL.numL_val]
    exact congrArg some (by omega)
  · have e := PySem.intText_digits (x := intS n) (by show NumText.AllDigits (intL n); rw [intL_pos (by omega)]; exact TL.numL_digits _) (by show intL n ≠ []; exact intL_ne n) (by
      rw [TL.len_tl]
      show (intL n).length ≤ 4300
      have := intL_len (by decide) h
      omega)
    rw [e]
    show some ((NumText.digitsVal (intL n) : Nat) : Int) = some n
    rw [intL_pos (by omega), TL.numL_val]
    exact congrArg some (by omega)
/-- words joined by a sign -/
def spS : Str := mkS [32]
def wordsS (ws : List (List Nat)) : Str := Txt.join spS (ws.map mkS)
theorem tl_words (ws : List (List Nat)) : TL.tl (wordsS ws) = TL.joinL [32] ws := by
  unfold wordsS
  rw [TL.join_eq, TL.tl_join, List.map_map]
  have e : ws.map (TL.tl ∘ mkS) = ws := by
    conv => rhs; rw [← List.map_id ws]
    exact List.map_congr_left fun _ _ => rfl
  rw [e]
  rfl
theorem words_split {ws : List (List Nat)} (hne : ws ≠ []) (hf : ∀ w ∈ ws, 32 ∉ w) : Txt.split (wordsS ws) spS = ws.map mkS :=
  TL.split_join (s := 32) (S := []) rfl (by decide +kernel) (fun e => hne (List.map_eq_nil_iff.mp e)) fun p hp => by
    obtain ⟨w, hw, rfl⟩ := List.mem_map.mp hp
    exact hf w hw
theorem joinL_len {k : Nat} : ∀ {ws : List (List Nat)}, (∀ w ∈ ws, w.length ≤ k) → (TL.joinL [32] ws).length ≤ (k + 1) * ws.length
  | [], _ => Nat.zero_le _
  | [p], h => by
    show p.length ≤ (k + 1) * 1
    have := h p (List.mem_singleton.mpr rfl)
    omega
  | p :: q :: r, h => by
    show (p ++ ([32] ++ TL.joinL [32] (q :: r))).length ≤ (k + 1) * ((q :: r).length + 1)
    have h1 := h p List.mem_cons_self
    have h2 := joinL_len (ws := q :: r) fun w hw => h w (List.mem_cons_of_mem _ hw)
    rw [List.length_append, List.length_append, Nat.mul_add]
    show p.length + (1 + _) ≤ _
    omega
theorem words_len {k : Nat} {ws : List (List Nat)} (h : ∀ w ∈ ws, w.length ≤ k) : (wordsS ws).length ≤ (k + 1) * ws.length := by
  rw [TL.len_tl, tl_words]
  exact joinL_len h
theorem join_fits {k : Nat} {ws : List (List Nat)} (h : ∀ w ∈ ws, w.length ≤ k) (hk : k ≤ 1000) (hn : ws.length ≤ 1000) : ((ws.map mkS).map (·.length)).sum + (ws.map mkS).length * spS.length ≤ 16777216 := by
  have h1 : ((ws.map mkS).map (·.length)).sum ≤ k * ws.length := by
    have := sum_bound (B := k) (l := (ws.map mkS).map (·.length)) fun x hx => by
      obtain ⟨y, hy, rfl⟩ := List.mem_map.mp hx
      obtain ⟨w, hw, rfl⟩ := List.mem_map.mp hy
      rw [mk_len]
      exact h w hw
    rw [List.length_map, List.length_map] at this
    exact this
  have h2 : k * ws.length ≤ 1000 * 1000 := Nat.mul_le_mul hk hn
  have h3 : spS.length = 1 := by rw [show spS = mkS [32] from rfl, mk_len]; rfl
  rw [List.length_map, h3]
  omega
/-- looks, as words -/
def lookL (p : Int × Int) : List Nat := intL p.1 ++ (61 :: intL p.2)
theorem look_free (p : Int × Int) : 32 ∉ lookL p := fun h => by
  unfold lookL at h
  rcases List.mem_append.mp h with e | e
  · exact intL_free (.inl (by decide)) (by decide) e
  · rcases List.mem_cons.mp e with e | e
    · exact absurd e (by decide)
    · exact intL_free (.inl (by decide)) (by decide) e
theorem look_cut (p : Int × Int) : Txt.partition (mkS (lookL p)) (mkS [61]) = (intS p.1, mkS [61], intS p.2) := by
  have e : mkS (lookL p) = intS p.1 ++ mkS [61] ++ intS p.2 := by
    unfold intS lookL
    rw [mk_app, mk_app, List.append_assoc]
    rfl
  rw [e]
  exact TL.partition_app (s := 61) (S := []) rfl (show 61 ∉ intL p.1 from intL_free (.inr (by decide)) (by decide))
theorem look_len {p : Int × Int} {k : Nat} (hk : 0 < k) (h1 : p.1.natAbs < 10 ^ k) (h2 : p.2.natAbs < 10 ^ k) : (lookL p).length ≤ 2 * k + 3 := by
  have a := intL_len hk h1
  have b := intL_len hk h2
  unfold lookL
  rw [List.length_append, List.length_cons]
  omega
/-! ### a text, many times -/
theorem op_mulS {X : Cx} : OpR X (binaryOp .Mult) (fun x y H Q => ∃ (a : Str) (n : Int), x = .str a ∧ y = .int n ∧ MulOk a n ∧ Q (.str (Txt.mul a n)) H) := by
  intro pins s σ H x y v u Q I rx ry h
  obtain ⟨a, n, rfl, rfl, hm, q⟩ := h
  obtain ⟨t, rfl⟩ := rx
  obtain ⟨t', rfl⟩ := ry
  exact PySem.SB.mul hm fun t'' k => ⟨.str _, H, I.tok _, ⟨_, rfl⟩, q⟩
/-! ### the written signs -/
theorem cSp : Str.ofString " " = spS := TL.ext_tl (by rw [tl_ofString]; rfl)
theorem cDash : Str.ofString "-" = mkS [45] := TL.ext_tl (by rw [tl_ofString]; rfl)
theorem cZero : Str.ofString "0" = mkS [48] := TL.ext_tl (by rw [tl_ofString]; rfl)
theorem cEq : Str.ofString "=" = mkS [61] := TL.ext_tl (by rw [tl_ofString]; rfl)
theorem cNone : Str.ofString "" = mkS [] := TL.ext_tl (by rw [tl_ofString]; rfl)
theorem join_one (y x : Str) : Txt.join y [x] = x := by
  rw [TL.join_eq]
  rfl
theorem join_none (y : Str) : Txt.join y [] = mkS [] := by
  rw [TL.join_eq]
  rfl
theorem cut_tail (c : Nat) (l : List Nat) : cutS (mkS (c :: l)) (some 1) none = mkS l := by
  unfold cutS
  have e1 : HT.sIx (mkS (c :: l)).length 0 (some 1) = 1 := by
    have := HT.sIx_nat (mkS (c :: l)).length 0 1
    rw [mk_len, List.length_cons] at this ⊢
    rw [show (some (1 : Int)) = some ((1 : Nat) : Int) from rfl, this]
    omega
  rw [e1, HT.sIx_none, mk_len]
  show mkS (((c :: l).drop 1).take ((c :: l).length - 1)) = mkS l
  rw [List.drop_one, List.tail_cons, List.length_cons, Nat.add_sub_cancel, List.take_length]
theorem spl_le {n k : Nat} (h : n ≤ k) (hk : k ≤ 1000000) : n ≤ sizeLine := Nat.le_trans h (Nat.le_trans hk (by decide))
theorem abs10 {n : Int} {k : Nat} (h : n.natAbs < 10 ^ k) (hk : k ≤ 100) : n.natAbs < 2 ^ 1000 := Nat.lt_of_lt_of_le h (Nat.le_trans (Nat.pow_le_pow_right (by decide) hk) (by decide +kernel))
theorem abs_log {n : Int} {k : Nat} (h : n.natAbs < 10 ^ k) (hk : k ≤ 100) : n.natAbs.log2 < 1920 := Nat.lt_trans (PySem.Flt.log2_lt_of (by decide) (abs10 h hk)) (by decide)
/-- pairs of ints, in tuples -/
inductive Prs (H : Hp) : List V → List (Int × Int) → Prop
  | nil : Prs H [] []
  | cons {t : Addr} {p : Int × Int} {vs : List V} {ps : List (Int × Int)} (h : H t = some (.tup [.int p.1, .int p.2])) (r : Prs H vs ps) : Prs H (.ref t :: vs) (p :: ps)
theorem Prs.up {H H1 : Hp} {vs : List V} {ps : List (Int × Int)} (h : Prs H vs ps) (s : Same H H1) : Prs H1 vs ps := by
  induction h with
  | nil => exact .nil
  | cons h _ ih => exact .cons (s _ _ h) ih
theorem Prs.len {H : Hp} {vs : List V} {ps : List (Int × Int)} (h : Prs H vs ps) : vs.length = ps.length := by
  induction h with
  | nil => rfl
  | cons _ _ ih => rw [List.length_cons, List.length_cons, ih]
theorem Prs.at {H : Hp} {vs : List V} {ps : List (Int × Int)} (h : Prs H vs ps) : ∀ {i : Nat} {v : V}, vs[i]? = some v → ∃ t p, v = .ref t ∧ ps[i]? = some p ∧ H t = some (.tup [.int p.1, .int p.2]) := by
  induction h with
  | nil => exact fun e => nomatch e
  | cons h _ ih =>
    intro i v e
    cases i with
    | zero => exact ⟨_, _, (Option.some.inj e).symm, rfl, h⟩
    | succ i => exact ih e
theorem Prs.snoc {H : Hp} {vs : List V} {ps : List (Int × Int)} {t : Addr} {p : Int × Int} (h : Prs H vs ps) (e : H t = some (.tup [.int p.1, .int p.2])) : Prs H (vs ++ [.ref t]) (ps ++ [p]) := by
  induction h with
  | nil => exact .cons e .nil
  | cons h _ ih => exact .cons h ih
def dP (p : Int × Int) : PyData := .tuple [.int p.1, .int p.2]
theorem Prs.dp {K : PySem.W.Frag} {H : Hp} {vs : List V} {ps : List (Int × Int)} (h : Prs H vs ps) : DpAll K H vs (ps.map dP) := by
  induction h with
  | nil => exact .nil
  | cons h _ ih => exact .cons (.tup (SqT.of h) (.cons (.int _) (.cons (.int _) .nil))) ih
/-- f'..', its parts one behind the other -/
def tJoined (ts : List TE) : TE := fun σ H Q => tJs ts Str.empty σ H fun out H1 => Q (.str out) H1
theorem pe_joinedN {X : Cx} {v1 v2 : Expr} {rest : List Expr} {ts : List TE} {pos : Pos} (h : PJ X (v1 :: v2 :: rest) ts) : PE X (.JoinedStr (v1 :: v2 :: rest) pos) (tJoined ts) := pe_joined h
end Sd

namespace Sd
open PySem PySem.Spec PyProof.Rows L2

/-! ### data that repr can show, with bounds -/
structure Dat (k B : Nat) (d : PyData) : Prop where
  rp : RP d
  dp : d.depth ≤ k
  le : d.shown.length ≤ B
theorem Dat.mono {k B k' B' : Nat} {d : PyData} (h : Dat k B d) (hk : k ≤ k') (hB : B ≤ B') : Dat k' B' d := ⟨h.rp, Nat.le_trans h.dp hk, Nat.le_trans h.le hB⟩
theorem Dat.fits {k B : Nat} {d : PyData} (h : Dat k B d) (hB : B ≤ 16000000) : d.shown.length ≤ sizeLine := fit_le (Nat.le_trans h.le hB)
theorem dat_int {i : Int} {k : Nat} (h : i.natAbs < 10 ^ k) (hk : k ≤ 100) : Dat 0 1001 (.int i) := ⟨rp_int (abs10 h hk), by simp only [PyData.depth]; omega, shown_int (abs10 h hk)⟩
theorem dat_str {x : Str} {n : Nat} (h : ∀ c ∈ TL.tl x, c < 128) (hl : x.length ≤ n) : Dat 0 (10 * n + 2) (.str x) := by
  refine ⟨⟨by simp only [PyData.showable], by simp only [PyData.hasDict], ?_, by simp only [PyData.depth]; omega⟩, by simp only [PyData.depth]; omega, ?_⟩
  · simp only [PyData.canLay0]
    unfold PyData.strOk
    rw [all_tl, List.all_eq_true]
    exact fun c hc => decide_eq_true (Nat.lt_of_lt_of_le (h c hc) (by decide))
  simp only [PyData.shown]
  have := PySem.StrLaws.reprText_len x fun c hc => Nat.lt_of_lt_of_le (h c hc) (by decide)
  omega
theorem rps_dat {k B : Nat} : ∀ {ds : List PyData}, (∀ d ∈ ds, Dat k B d) → RPs k ds
  | [], _ => RPs.nil
  | d :: ds, h => RPs.cons (h d List.mem_cons_self).rp (h d List.mem_cons_self).dp (rps_dat fun x hx => h x (List.mem_cons_of_mem _ hx))
theorem dat_list {k B n : Nat} {ds : List PyData} (h : ∀ d ∈ ds, Dat k B d) (hk : k ≤ 30) (hn : ds.length ≤ n) : Dat (k + 1) ((B + 2) * n + 3) (.list ds) := by
  obtain ⟨a, b⟩ := (rps_dat h).list (by omega)
  refine ⟨a, b, ?_⟩
  have := shown_list (B := B) (ds := ds) fun d hd => (h d hd).le
  have := Nat.mul_le_mul_left (B + 2) hn
  omega
theorem dat_tup {k B n : Nat} {ds : List PyData} (h : ∀ d ∈ ds, Dat k B d) (hk : k ≤ 30) (hn : ds.length ≤ n) : Dat (k + 1) ((B + 2) * n + 3) (.tuple ds) := by
  have hs := rps_dat h
  have hd : (PyData.tuple ds).depth ≤ k + 1 := by
    simp only [PyData.depth]
    have := hs.dp
    omega
  refine ⟨⟨?_, ?_, ?_, by omega⟩, hd, ?_⟩
  · simp only [PyData.showable, hs.sh]
  · simp only [PyData.hasDict, hs.nd]
  · simp only [PyData.canLay0, hs.cl]
  · simp only [PyData.shown]
    have h1 := tupleText_len_le (PyData.shownAll ds)
    have h2 : ((PyData.shownAll ds).map (·.length)).sum ≤ B * ds.length := by
      rw [shownAll_map, List.map_map]
      have := sum_bound (B := B) (l := ds.map ((fun x => x.length) ∘ PyData.shown)) fun x hx => by
        obtain ⟨d, hd, rfl⟩ := List.mem_map.mp hx
        exact (h d hd).le
      rw [List.length_map] at this
      exact this
    have h3 : (PyData.shownAll ds).length = ds.length := by rw [shownAll_map, List.length_map]
    rw [h3] at h1
    have h4 := Nat.mul_le_mul_left (B + 2) hn
    have h5 : (B + 2) * ds.length = B * ds.length + 2 * ds.length := Nat.add_mul _ _ _
    omega
theorem dat_ints {ns : List Int} {k n : Nat} (h : ∀ x ∈ ns, x.natAbs < 10 ^ k) (hk : k ≤ 100) (hn : ns.length ≤ n) : Dat 1 (1003 * n + 3) (dI ns) :=
  dat_list (k := 0) (B := 1001) (fun d hd => by
    obtain ⟨x, hx, rfl⟩ := List.mem_map.mp hd
    exact dat_int (h x hx) hk) (by decide) (by rw [List.length_map]; exact hn)
theorem dat_pairs {ps : List (Int × Int)} {k n : Nat} (h : ∀ p ∈ ps, p.1.natAbs < 10 ^ k ∧ p.2.natAbs < 10 ^ k) (hk : k ≤ 100) (hn : ps.length ≤ n) : Dat 2 (2011 * n + 3) (.list (ps.map dP)) :=
  dat_list (k := 1) (B := 2009) (fun d hd => by
    obtain ⟨p, hp, rfl⟩ := List.mem_map.mp hd
    exact dat_tup (k := 0) (B := 1001) (n := 2) (fun d hd => by
      simp only [List.mem_cons, List.not_mem_nil, or_false] at hd
      rcases hd with rfl | rfl
      · exact dat_int (h p hp).1 hk
      · exact dat_int (h p hp).2 hk) (by decide) (Nat.le_refl _)) (by decide) (by rw [List.length_map]; exact hn)
theorem intL_low (n : Int) : ∀ c ∈ intL n, c < 128 := fun c hc => by
  unfold intL at hc
  split at hc
  · rcases List.mem_cons.mp hc with e | e
    · omega
    · have := TL.numL_digits _ c e
      omega
  · have := TL.numL_digits _ c hc
    omega
theorem lookL_low (p : Int × Int) : ∀ c ∈ lookL p, c < 128 := fun c hc => by
  unfold lookL at hc
  rcases List.mem_append.mp hc with e | e
  · exact intL_low _ c e
  · rcases List.mem_cons.mp e with e | e
    · omega
    · exact intL_low _ c e
theorem joinL_low : ∀ {ws : List (List Nat)}, (∀ x ∈ ws, ∀ c ∈ x, c < 128) → ∀ c ∈ TL.joinL [32] ws, c < 128
  | [], _ => fun c hc => (List.not_mem_nil hc).elim
  | [p], h => h p (List.mem_singleton.mpr rfl)
  | p :: q :: r, h => fun c hc => by
    have hc : c ∈ p ++ ([32] ++ TL.joinL [32] (q :: r)) := hc
    rcases List.mem_append.mp hc with e | e
    · exact h p List.mem_cons_self c e
    · rcases List.mem_append.mp e with e | e
      · rw [List.mem_singleton.mp e]
        omega
      · exact joinL_low (fun x hx => h x (List.mem_cons_of_mem _ hx)) c e
theorem dat_words {ws : List (List Nat)} {k n : Nat} (h : ∀ x ∈ ws, x.length ≤ k ∧ ∀ c ∈ x, c < 128) (hn : ws.length ≤ n) : Dat 0 (10 * ((k + 1) * n) + 2) (.str (wordsS ws)) := by
  refine dat_str (fun c hc => ?_) ?_
  · rw [tl_words] at hc
    exact joinL_low (fun x hx => (h x hx).2) c hc
  · exact Nat.le_trans (words_len fun x hx => (h x hx).1) (Nat.mul_le_mul_left _ hn)
theorem dat_row {ns : List Int} {k n : Nat} (hk : 0 < k) (h : ∀ x ∈ ns, x.natAbs < 10 ^ k) (hn : ns.length ≤ n) : Dat 0 (10 * ((k + 1 + 1) * n) + 2) (.str (wordsS (ns.map intL))) :=
  dat_words (fun x hx => by
    obtain ⟨m, hm, rfl⟩ := List.mem_map.mp hx
    exact ⟨intL_len hk (h m hm), intL_low m⟩) (by rw [List.length_map]; exact hn)
theorem dat_looks {ps : List (Int × Int)} {k n : Nat} (hk : 0 < k) (h : ∀ p ∈ ps, p.1.natAbs < 10 ^ k ∧ p.2.natAbs < 10 ^ k) (hn : ps.length ≤ n) : Dat 0 (10 * ((2 * k + 3 + 1) * n) + 2) (.str (wordsS (ps.map lookL))) :=
  dat_words (fun x hx => by
    obtain ⟨p, hp, rfl⟩ := List.mem_map.mp hx
    exact ⟨look_len hk (h p hp).1 (h p hp).2, lookL_low p⟩) (by rw [List.length_map]; exact hn)
end Sd

namespace Sd
open PySem PySem.Spec PyProof.Rows L2
section
variable {P : Program} {w : World} {A : Around} {E : Value → Shared → Prop} {s : Shared}
/-- the set object just made -/
abbrev bareSet (w : World) : Obj := { cls := .type "set", dict := none, data := .set #[] 0 (.fresh 0 0 (!w.params.followText "set-order")) }
/-- what set.__init__ leaves -/
def InitI (w : World) (s : Shared) (ns : List Int) (s₂ : Shared) : Prop := ∃ h' tk c, s₂ = { s with heap := h', toks := tk } ∧ SetR w h' s.heap.objs.size (fun j => decide (j ∈ ns)) c ∧ c ≤ ns.length ∧ ∀ b o, s.heap.get? b = some o → h'.get? b = some o
/-- set.__init__ of a bare set with a list of ints -/
theorem init_ints {l : Addr} {items : Array Value} (ns : List Int) (hh : A.handled = none) (hl : s.heap.IsList l items) (hit : IntsAre items.toList ns) (hb : ns.length + 1 < scanBound) :
    codeAny (model P w) A (.call (.builtin "set.__init__") ⟨[.ref s.heap.objs.size, .ref l], []⟩) (wants (fun r s₂ => r = .none ∧ InitI w s ns s₂) E) { s with heap := s.heap.push (bareSet w) } := by
  have hS : (s.heap.push (bareSet w)).get? s.heap.objs.size = some (bareSet w) := Heap.get?_push_size _ rfl
  have hT : Shared.TypeIs { s with heap := s.heap.push (bareSet w) } (.ref s.heap.objs.size) "set" := ⟨_, hS, rfl⟩
  have hz : items.size = ns.length := by
    have q := IntsAre.length hit
    rwa [Array.length_toList] at q
  have val : ∀ (i : Nat) (v : Value), items[i]? = some v → ∃ k t, ns[i]? = some k ∧ v = .int k t := fun i v hv => by
    have hi : i < ns.length := by rw [← hz]; exact (Array.getElem?_eq_some_iff.mp hv).1
    obtain ⟨t, e⟩ := PyProof.Rows.IntsAre.int_at hit i v (by rw [Array.getElem?_toList]; exact hv)
    exact ⟨ns[i], t, List.getElem?_eq_getElem hi, by rw [e, List.getD_eq_getElem?_getD, List.getElem?_eq_getElem hi]; rfl⟩
  have isL : (s.heap.push (bareSet w)).IsList l items := hl.push _
  have lt : l < s.heap.objs.size := let ⟨_, h, _⟩ := hl; Heap.lt_size h
  refine codeAny_call_builtin F.called_set.init.plain F.entry_set_init (check_set_init_1 hT ?_)
  obtain ⟨ol, hol, hcl, nl, hdl⟩ := isL
  obtain ⟨ocls, odict, odata, oslots⟩ := ol
  simp only at hcl hdl
  subst hcl; subst hdl
  have sub1 := F.sub_list_set
  have sub2 := F.sub_list_frozenset
  have ne : (Value.type "list" == Value.type "dict") = false := by decide
  unfold Builtin.«set.__init__» noKeywords Builtin.Frozenset.updateFrom
  generalize hPI : pyIter = PI
  wp_walk
  subst hPI
  have isL : (s.heap.push (bareSet w)).IsList l items := ⟨_, hol, rfl, nl, rfl⟩
  have size1 : (s.heap.push (bareSet w)).objs.size = s.heap.objs.size + 1 := Heap.size_push ..
  have apart : l ≠ (s.heap.push (bareSet w)).objs.size := Nat.ne_of_lt (by rw [size1]; exact Nat.lt_succ_of_lt lt)
  have out : s.heap.objs.size ∉ [(s.heap.push (bareSet w)).objs.size, l] := fun h => by
    rcases List.mem_cons.mp h with e | e
    · rw [size1] at e
      exact absurd e (Nat.ne_of_lt (Nat.lt_succ_self _))
    · exact absurd (List.mem_singleton.mp e) (Nat.ne_of_gt lt)
  have h3 : A.in1.in1.handled = none := by simp [hh]
  refine wpAny_pyIter_list isL ?_
  refine wpAny_bind (wpAny_runValue ?_)
  refine set_update_ints ((Walks.list h3 _ l apart items).toS) s.heap.objs.size out ns hz hb val (items.size - 0) 0 _ (by omega) (Nat.zero_le _)
    ⟨⟨_, Heap.get?_push_size _ rfl, rfl, rfl⟩, (isL.push _)⟩ ?a1 ?a2
  case a1 =>
    have hg : ((s.heap.push (bareSet w)).push { cls := .type "list_iterator", data := .fields #[.ref l, .int 0 0] }).get? s.heap.objs.size = some (bareSet w) := Heap.get?_push_of_some _ hS
    exact ⟨0, Nat.le_refl 0, setR_new_at hg⟩
  case a2 =>
    intro s' c' hm hc' hS'
    obtain ⟨h', g2, d', tk', os'⟩ := s'
    have eg : g2 = s.gens := hm.gens
    have ed : d' = s.drawn := hm.drawn
    have eo : os' = s.os := hm.os
    subst eg ed eo
    refine wpAny_pure ?_
    refine wpAny_pure ⟨rfl, h', tk', c', rfl, hS', by omega, fun b o e => ?_⟩
    have b0 : b < s.heap.objs.size := Heap.lt_size e
    refine hm.heap b o (fun h => ?_) (Heap.get?_push_of_some _ (Heap.get?_push_of_some _ e))
    rcases List.mem_cons.mp h with z | z
    · exact absurd z (Nat.ne_of_lt b0)
    · have q := List.mem_singleton.mp z
      rw [size1] at q
      exact absurd q (Nat.ne_of_lt (Nat.lt_succ_of_lt b0))
/-- set(xs), xs a list of ints -/
theorem call_set_intsL {l : Addr} {items : Array Value} (ns : List Int) {Q : Value → Shared → Prop} (hh : A.handled = none) (hl : s.heap.IsList l items) (hit : IntsAre items.toList ns) (hb : ns.length + 1 < scanBound)
    (h : ∀ s₂, InitI w s ns s₂ → Q (.ref s.heap.objs.size) s₂) : wpAny (model P w) A (call (.type "set") [.ref l]) Q E s := by
  obtain ⟨c, tl, hmro⟩ := F.called_set.mro
  have hmade := F.called_set.made
  have hsub := F.called_set.sub
  have h1 := F.called_set.notType
  have h2 := F.called_set.canCreate
  have hct := F.typeCall_set_1 (.ref l)
  have hli := F.called_set.init.lookup
  have hbi := F.called_set.init.bind (.ref s.heap.objs.size)
  refine wpAny_call (codeAny_of_tree ?_)
  show wpAny _ _ (callAny (.type "set") _) _ _ _
  refine wpAny_pure ⟨Code.quiet_builtin _ (by decide +kernel), codeAny_builtin F.entry_type_call ?_⟩
  rw [Around.under_plain (weight_type_call_type "set" [.ref l] []) rfl]
  repeat (any_goals (first | assumption | wp_step))
  refine codeAny_mono (code_set_led1 (.ref l) (E := E) (Q₁ := fun obj s₁ => obj = .ref s.heap.objs.size ∧ s₁ = { s with heap := s.heap.push (bareSet w) }) ⟨rfl, rfl⟩) fun r s₁ hr => ?_
  rcases r with e | fl
  · exact hr
  cases fl with
  | ret obj =>
    obtain ⟨rfl, rfl⟩ := hr
    have hS : (s.heap.push (bareSet w)).get? s.heap.objs.size = some (bareSet w) := Heap.get?_push_size _ rfl
    have hT : Shared.TypeIs { s with heap := s.heap.push (bareSet w) } (.ref s.heap.objs.size) "set" := ⟨_, hS, rfl⟩
    repeat (any_goals (first | assumption | wp_step))
    refine codeAny_mono (init_ints (E := E) ns ?_ hl hit hb) fun r₂ s₂ hr₂ => ?_
    · simp [hh]
    rcases r₂ with e | fl₂
    · exact hr₂
    cases fl₂ with
    | ret r =>
      obtain ⟨rfl, hI⟩ := hr₂
      repeat (any_goals (first | assumption | wp_step))
      exact h _ hI
    | _ => exact hr₂.elim
  | _ => exact hr.elim
end
section
variable {X : Cx}
def rSetOfI (K : PySem.W.Frag) (w : World) : List V → Hp → VK → Prop := fun xs H Q => ∃ (l : Addr) (ns : List Int), xs = [V.ref l] ∧ SqL K H l (ns.map V.int) ∧ ns.length < 1000 ∧
  ∀ (a : Addr) (c : Nat), H a = none → c ≤ ns.length → Q (.ref a) (upd H a (SetO w a (fun j => decide (j ∈ ns)) c))
theorem cr_setOfI (hc : X.calm = true) : CallR X (.type "set") (rSetOfI X.K X.w) := by
  intro pins s σ H xs us Q I r h
  obtain ⟨l, ns, rfl, hl, hf, q⟩ := h
  rw [Vals.ref1 r]
  obtain ⟨its, rv, pl, hz⟩ := I.list hl
  have hn : H s.heap.objs.size = none := I.hok.fresh (Nat.le_refl _)
  refine call_set_intsL (P := X.prog) (w := X.w) ns (I.ok.hd hc) pl.isList (by simpa using intsAre_of rv) (by unfold scanBound; omega) fun s₂ hI => ?_
  obtain ⟨h', tk, c, rfl, R, hcn, k⟩ := hI
  exact ⟨.ref s.heap.objs.size, upd H s.heap.objs.size (SetO X.w s.heap.objs.size (fun j => decide (j ∈ ns)) c), I.laid (t' := tk) k (Nat.le_refl _) (setO_new R), rfl, q _ c hn hcn⟩
end
/-! ### a tank whose second number is greater -/
def Stk (H : Hp) (T : Addr) (c : Int) : Prop := ∃ x y z : Int, H T = some (.lst [.int x, .int y, .int z]) ∧ 0 ≤ x ∧ 0 ≤ y ∧ y < 170141183460469231731687303715884105727 ∧ 0 ≤ z ∧ z ≤ c
theorem Stk.some {H : Hp} {T : Addr} {c : Int} (h : Stk H T c) : ∃ o, H T = some o := let ⟨_, _, _, e, _⟩ := h; ⟨_, e⟩
theorem Stk.same {H H' : Hp} {T : Addr} {c : Int} (h : Stk H T c) (s : Same H H') : Stk H' T c := let ⟨x, y, z, e, r⟩ := h; ⟨x, y, z, s _ _ e, r⟩
theorem Stk.ne {H : Hp} {T p : Addr} {c : Int} (h : Stk H T c) (n : H p = none) : p ≠ T := fun e => by
  obtain ⟨o, q⟩ := h.some
  rw [e, q] at n
  cases n
theorem Stk.up {H : Hp} {T p : Addr} {c : Int} {o : HO} (h : Stk H T c) (n : H p = none) : Stk (upd H p o) T c := h.same (new_same n)
theorem Stk.mono {H : Hp} {T : Addr} {c d : Int} (h : Stk H T c) (l : c ≤ d) : Stk H T d := let ⟨x, y, z, e, a, b, r, f, g⟩ := h; ⟨x, y, z, e, a, b, r, f, by omega⟩
theorem Stk.over {H : Hp} {T p : Addr} {c : Int} {o : HO} (h : Stk H T c) (n : p ≠ T) : Stk (upd H p o) T c := let ⟨x, y, z, e, r⟩ := h; ⟨x, y, z, by rw [upd_ne n.symm]; exact e, r⟩
/-! ### a square of a great int -/
def CPow2 (i j : Int) : Prop := j = 2 ∧ 0 ≤ i ∧ i.natAbs < 2 ^ 200
theorem op_pow2 {X : Cx} : OpR X (binaryOp .Pow) (rI CPow2 fun i j => .int (i ^ j.toNat)) := opI fun i j t u s Q E hc q => by
  obtain ⟨rfl, h0, h1⟩ := hc
  by_cases e : (i == 0 || i == 1) = true
  · refine PySem.AutoIntOps.pow_1 (by decide) (by decide) e ?_
    have e2 : i ^ (2 : Int).toNat = i := by
      rcases (Bool.or_eq_true _ _).mp e with z | z
      · rw [eq_of_beq z]; rfl
      · rw [eq_of_beq z]; rfl
    rw [e2] at q
    exact q
  · refine PySem.AutoIntOps.pow_4 (by decide) (by decide) e ?_ ?_ q
    · intro z
      have := eq_of_beq z
      omega
    · intro z
      unfold Builtin.Int.intTooBig at z
      have z3 := of_decide_eq_true z
      have b : Builtin.Int.intBits i ≤ 201 := by
        unfold Builtin.Int.intBits
        have y := PySem.Flt.log2_lt_of (show 0 < 200 by decide) h1
        split <;> omega
      have e : bitsLine = 134217728 := by decide
      rw [e] at z3
      omega
/-! ### rows of bits, sums over bits -/
def bitR : Nat → Nat → List Int
  | 0, _ => []
  | n + 1, b => (((b / 2 ^ n) % 2 : Nat) : Int) :: bitR n b
theorem bitR_len : ∀ n b : Nat, (bitR n b).length = n
  | 0, _ => rfl
  | n + 1, b => by
    show (bitR n b).length + 1 = n + 1
    rw [bitR_len n b]
theorem bitR_at : ∀ {n b i : Nat}, i < n → (bitR n b)[i]? = some (((b / 2 ^ (n - 1 - i)) % 2 : Nat) : Int)
  | 0, _, _, h => absurd h (Nat.not_lt_zero _)
  | n + 1, b, 0, _ => by
    show some (((b / 2 ^ n) % 2 : Nat) : Int) = _
    rw [show n + 1 - 1 - 0 = n by omega]
  | n + 1, b, i + 1, h => by
    show (bitR n b)[i]? = _
    rw [bitR_at (show i < n by omega), show n + 1 - 1 - (i + 1) = n - 1 - i by omega]
theorem bitR_add : ∀ n q b : Nat, bitR n (2 ^ n * q + b) = bitR n b
  | 0, _, _ => rfl
  | n + 1, q, b => by
    show (((2 ^ (n + 1) * q + b) / 2 ^ n % 2 : Nat) : Int) :: bitR n (2 ^ (n + 1) * q + b) = ((b / 2 ^ n % 2 : Nat) : Int) :: bitR n b
    have e : 2 ^ (n + 1) * q = 2 ^ n * (2 * q) := by rw [Nat.pow_succ, Nat.mul_assoc]
    rw [e, bitR_add n (2 * q) b, Nat.mul_add_div (Nat.pow_pos (by decide)), Nat.mul_add_mod]
theorem bitR_01 : ∀ {n b : Nat} {x : Int}, x ∈ bitR n b → 0 ≤ x ∧ x ≤ 1
  | 0, _, _, h => absurd h List.not_mem_nil
  | n + 1, b, x, h => by
    rcases List.mem_cons.mp h with e | e
    · rw [e]
      have := Nat.mod_lt (b / 2 ^ n) (show 0 < 2 by decide)
      omega
    · exact bitR_01 e
def sumsB : List Int → List Int
  | [] => [0]
  | x :: r => sumsB r ++ (sumsB r).map (· + x)
theorem sumsB_len : ∀ xs : List Int, (sumsB xs).length = 2 ^ xs.length
  | [] => rfl
  | x :: r => by
    show (sumsB r ++ (sumsB r).map (· + x)).length = 2 ^ (r.length + 1)
    rw [List.length_append, List.length_map, sumsB_len r, Nat.pow_succ]
    omega
theorem sumsB_at : ∀ {xs : List Int} {b : Nat}, b < 2 ^ xs.length → (sumsB xs)[b]? = some (prods xs (bitR xs.length b)).sum
  | [], b, h => by
    obtain rfl : b = 0 := by
      have : b < 1 := h
      omega
    rfl
  | x :: r, b, h => by
    have h : b < 2 ^ (r.length + 1) := h
    rw [Nat.pow_succ] at h
    show (sumsB r ++ (sumsB r).map (· + x))[b]? = some (prods (x :: r) ((((b / 2 ^ r.length) % 2 : Nat) : Int) :: bitR r.length b)).sum
    show _ = some (x * (((b / 2 ^ r.length) % 2 : Nat) : Int) + (prods r (bitR r.length b)).sum)
    by_cases hb : b < 2 ^ r.length
    · rw [List.getElem?_append_left (by rw [sumsB_len]; exact hb), sumsB_at hb, Nat.div_eq_of_lt hb]
      show _ = some (x * 0 + _)
      rw [Int.mul_zero, Int.zero_add]
    · obtain ⟨c, rfl⟩ : ∃ c, b = 2 ^ r.length * 1 + c := ⟨b - 2 ^ r.length, by omega⟩
      have hc : c < 2 ^ r.length := by omega
      rw [List.getElem?_append_right (by rw [sumsB_len]; omega), sumsB_len, List.getElem?_map, show 2 ^ r.length * 1 + c - 2 ^ r.length = c by omega, sumsB_at hc, bitR_add, Nat.mul_add_div (Nat.pow_pos (by decide)), Nat.div_eq_of_lt hc]
      show some (_ + x) = some (x * 1 + _)
      rw [Int.mul_one, Int.add_comm]
theorem lights_at {ns : List Int} {t : Int} {b : Nat} (h1 : 1 ≤ ns.length) (h : b < 2 ^ ns.length) : (sumsB (rot ns (-t)))[b]? = some (lightV ns (bitR ns.length b) t) := by
  rw [sumsB_at (by rw [rot_len]; exact h), rot_len]
  have e := light_rot1 (ns := ns) (ms := bitR ns.length b) (bitR_len _ _).symm (-t) 0
  rw [show (0 : Int) - -t = t by omega] at e
  rw [← e]
  show _ = some (prods (rot ns (-t)) (rot (bitR ns.length b) 0)).sum
  rw [rot_zero]
/-- the numbers of the rows that fit -/
def okF (ns : List Int) (p : Int × Int) (b : Nat) : Bool := decide (lightV ns (bitR ns.length b) p.1 = p.2)
def fitsF (ns : List Int) (ps : List (Int × Int)) : List Nat := ps.foldl (fun F p => F.filter (okF ns p)) (List.range (2 ^ ns.length))
theorem fits_take {ns : List Int} {ps : List (Int × Int)} {i : Nat} {p : Int × Int} (h : ps[i]? = some p) : fitsF ns (ps.take (i + 1)) = (fitsF ns (ps.take i)).filter (okF ns p) := by
  unfold fitsF
  rw [List.take_add_one, h, List.foldl_append]
  rfl
theorem fits_all (ns : List Int) (ps : List (Int × Int)) : fitsF ns (ps.take ps.length) = fitsF ns ps := by rw [List.take_length]
theorem foldF_len {α : Type} (g : α → Nat → Bool) : ∀ (ps : List α) (F : List Nat), (ps.foldl (fun F p => F.filter (g p)) F).length ≤ F.length
  | [], F => Nat.le_refl _
  | p :: r, F => Nat.le_trans (foldF_len g r (F.filter (g p))) (List.length_filter_le _ _)
theorem foldF_mem {α : Type} (g : α → Nat → Bool) : ∀ (ps : List α) (F : List Nat) {b : Nat}, b ∈ ps.foldl (fun F p => F.filter (g p)) F → b ∈ F
  | [], F, _, h => h
  | p :: r, F, _, h => (List.mem_filter.mp (foldF_mem g r (F.filter (g p)) h)).1
theorem fits_len (ns : List Int) (ps : List (Int × Int)) : (fitsF ns ps).length ≤ 2 ^ ns.length := by
  have := foldF_len (okF ns) ps (List.range (2 ^ ns.length))
  rwa [List.length_range] at this
theorem fits_mem {ns : List Int} {ps : List (Int × Int)} {b : Nat} (h : b ∈ fitsF ns ps) : b < 2 ^ ns.length := List.mem_range.mp (foldF_mem (okF ns) ps _ h)
/-! ### lists of lists of ints -/
inductive LL (H : Hp) : List V → List (List Int) → Prop
  | nil : LL H [] []
  | cons {a : Addr} {r : List Int} {vs : List V} {S : List (List Int)} (h : H a = some (.lst (r.map V.int))) (t : LL H vs S) : LL H (.ref a :: vs) (r :: S)
theorem none_back {H H1 : Hp} {p : Addr} (s : Same H H1) (n : H1 p = none) : H p = none := by
  cases e : H p with
  | none => rfl
  | some o =>
    have := s _ _ e
    rw [n] at this
    cases this
theorem LL.up {H H1 : Hp} {vs : List V} {S : List (List Int)} (h : LL H vs S) (s : Same H H1) : LL H1 vs S := by
  induction h with
  | nil => exact .nil
  | cons h _ ih => exact .cons (s _ _ h) ih
theorem LL.len {H : Hp} {vs : List V} {S : List (List Int)} (h : LL H vs S) : vs.length = S.length := by
  induction h with
  | nil => rfl
  | cons _ _ ih => rw [List.length_cons, List.length_cons, ih]
theorem LL.at {H : Hp} {vs : List V} {S : List (List Int)} (h : LL H vs S) : ∀ {i : Nat} {v : V}, vs[i]? = some v → ∃ a r, v = .ref a ∧ S[i]? = some r ∧ H a = some (.lst (r.map V.int)) := by
  induction h with
  | nil => exact fun e => nomatch e
  | cons h _ ih =>
    intro i v e
    cases i with
    | zero => exact ⟨_, _, (Option.some.inj e).symm, rfl, h⟩
    | succ i => exact ih e
theorem LL.get {H : Hp} {vs : List V} {S : List (List Int)} (h : LL H vs S) : ∀ {i : Nat} {r : List Int}, S[i]? = some r → ∃ a, vs[i]? = some (.ref a) ∧ H a = some (.lst (r.map V.int)) := by
  induction h with
  | nil => exact fun e => nomatch e
  | cons h _ ih =>
    intro i v e
    cases i with
    | zero => exact ⟨_, rfl, by rw [← Option.some.inj e]; exact h⟩
    | succ i => exact ih e
theorem LL.snoc {H : Hp} {vs : List V} {S : List (List Int)} {a : Addr} {r : List Int} (h : LL H vs S) (e : H a = some (.lst (r.map V.int))) : LL H (vs ++ [.ref a]) (S ++ [r]) := by
  induction h with
  | nil => exact .cons e .nil
  | cons h _ ih => exact .cons h ih
end Sd

namespace Sd
open PySem PySem.Spec PyProof.Rows L2
/-! ### enumerate(tuple) -/
theorem meets_enum1 {v : Value} {o : Obj} {G : Heap → Prop} (B : Begins v o G) :
    Meets (Builtin.«enumerate.__new__» ⟨[.type "enumerate", v], []⟩) (fun _ R s => G s.heap ∧
      R (.ok (.ret (.ref (s.heap.push o).objs.size))) { s with heap := (s.heap.push o).push { cls := .type "enumerate", data := .fields #[.none, .bool false, .ref s.heap.objs.size, rawInt 0, .none, .none] } }) :=
  .of_wp fun prog w A R s h => by
    obtain ⟨hp, g, d, tk, os⟩ := s; obtain ⟨h1, h⟩ := h
    have hsub := sub_enumerate
    have go : ∀ {A' : Around} {E : Value → Shared → Prop} {Q : Value → Shared → Prop}, Q (.ref hp.objs.size) ⟨hp.push o, g, d, tk, os⟩ → wpAny (model prog w) A' (pyIter v) Q E ⟨hp, g, d, tk, os⟩ :=
      fun q => B.iter prog w _ _ ⟨hp, g, d, tk, os⟩ _ h1 q
    wp_walk using go
    refine wpAny_stack_any fun st => wpAny_pure ?_
    split
    · rename_i c _ _ _ _ _
      cases (c == Value.type "enumerate") <;>
      · wp_walk using go
        exact ⟨_, rfl, h⟩
    · wp_walk using go
      exact ⟨_, rfl, h⟩
section
variable {P : Program} {w : World} {A : Around} {E : Value → Shared → Prop} {s : Shared}
theorem enum1_begins {v : Value} {o : Obj} {G : Heap → Prop} {Q : Value → Shared → Prop} (B : Begins v o G) (h1 : G s.heap)
    (h : ∀ h', IsEnum h' (s.heap.objs.size + 1) s.heap.objs.size 0 .none → h'.get? s.heap.objs.size = some o → (∀ b u, s.heap.get? b = some u → h'.get? b = some u) → Q (.ref (s.heap.objs.size + 1)) { s with heap := h' }) :
    wpAny (model P w) A (call (.type "enumerate") [v]) Q E s := by
  refine callType_new F.called_enumerate (by decide) (F.typeCall_enumerate_1 _) (F.newCall_enumerate_1 _) (fun obj => F.args_object_init_2 obj _) F.entry_enumerate_new (meets_enum1 B) ⟨h1, ?_⟩
  have hz : (s.heap.push o).objs.size = s.heap.objs.size + 1 := Heap.size_push ..
  show _ ∧ _
  rw [hz]
  have he : IsEnum ((s.heap.push o).push { cls := .type "enumerate", data := .fields #[.none, .bool false, .ref s.heap.objs.size, rawInt 0, .none, .none] }) (s.heap.objs.size + 1) s.heap.objs.size 0 .none := by
    have q := Heap.get?_push_size (s.heap.push o) (o := { cls := .type "enumerate", data := .fields #[.none, .bool false, .ref s.heap.objs.size, rawInt 0, .none, .none] }) rfl
    rw [hz] at q
    exact q
  exact ⟨⟨_, he, rfl⟩, h _ he (Heap.get?_push_of_some _ (Heap.get?_push_size _ B.free)) fun b u x => Heap.get?_push_of_some _ (Heap.get?_push_of_some _ x)⟩
end
/-- a tuple's iterator behind its last item -/
theorem drawn_out {P : Program} {w : World} {A : Around} (hh : A.handled = none) (it t : Addr) (k : Nat) (items : Array Value) (hx : items[k]? = none) :
    Draws P w A it [it, t] 0 (fun _ _ => False) (fun _ h => h.IsTupleIter it t k ∧ h.IsTuple t items) where
  live := fun _ _ st => let ⟨o, ho, _⟩ := st.1; ⟨o, ho⟩
  frame := fun _ _ _ st hk => ⟨st.1.at fun o e => hk it (by simp) o e, st.2.at fun o e => hk t (by simp) o e⟩
  item := fun i s Q E hi => absurd hi (Nat.not_lt_zero _)
  done := fun s Q E st hE => wpAny_nextOf_tuple_end hh st.1 st.2 hx hE
/-- the tuple at a, each item in a new pair -/
def Iet (K : PySem.W.Frag) (a : Addr) : It :=
  ⟨fun i H => ∃ (xs : List V) (x : V), SqT K H a xs ∧ xs[i]? = some x, fun i H v H' => ∃ T x, v = .ref T ∧ H T = none ∧ H' = upd H T (.tup [.int (i : Nat), x]) ∧ ∀ xs, SqT K H a xs → xs[i]? = some x, fun i H => ∃ xs : List V, SqT K H a xs ∧ xs.length ≤ i⟩
theorem turn_enumT {P : Program} {w : World} {K : PySem.W.Frag} {elts : List Expr} {kk : Nat} {tpos : Pos} (a e it : Addr) (hea : e ≠ a) (hai : a ≠ it) :
    Turn P w K (.Tuple elts kk tpos) (Iet K a) [e, it] e (fun i h => (∃ old, IsEnum h e it ((i : Nat) : Int) old) ∧ h.IsTupleIter it a i ∧ e ≠ it) where
  mem := by simp
  obj := fun i h st b hb => by
    obtain ⟨⟨old, he⟩, ⟨o, ho, hc, hd⟩, _⟩ := st
    rcases (by simpa using hb : b = e ∨ b = it) with rfl | rfl
    · exact ⟨_, he, fun v q => nomatch q⟩
    · exact ⟨o, ho, fun v q => by rw [hd] at q; cases q⟩
  keep := fun i h h' st k => let ⟨⟨old, he⟩, hi, hne⟩ := st; ⟨⟨old, k e (by simp) _ he⟩, hi.at fun o q => k it (by simp) o q, hne⟩
  item := by
    intro X hP hw hK hc i pins s σ H E I hf st hg
    subst hP hw hK
    obtain ⟨⟨old, he⟩, hit, hne⟩ := st
    obtain ⟨xs, x, hq, hx⟩ := hg
    obtain ⟨its, rv, p, hz⟩ := I.tuple hq
    obtain ⟨u, hu, ru⟩ := rv.get hx
    have hel : e < s.heap.objs.size := Heap.lt_size he
    have hil : it < s.heap.objs.size := by obtain ⟨_, q, _⟩ := hit; exact Heap.lt_size q
    have pt : s.heap.IsTuple a its.toArray := p
    have hin : i < its.toArray.size := by
      have := (List.getElem?_eq_some_iff.mp hu).1
      simpa using this
    refine wpAny_pyNext_enum_itemC (Draws.tuple (prog := X.prog) (w := X.w) (A := X.A.in1) (by simp [I.ok.hd hc]) it a hai its.toArray) he ⟨hit, pt⟩ hin hne (by simp [hne, hea]) fun v h' tk hv ho hst' hT hsz hk => ?_
    obtain rfl : v = u := by
      have q : its.toArray[i]? = some v := hv
      rw [List.getElem?_toArray, hu] at q
      exact (Option.some.inj q).symm
    refine ⟨_, rfl, wpAny_letOwnedTupleGo_enum (s := { s with heap := h', toks := tk + 1 }) ho fun h'' he' sb => ?_⟩
    have hT2 : h''.get? s.heap.objs.size = some { cls := .type "tuple", data := .seq #[.int i tk, v] } := (sb.2 _ (Nat.ne_of_gt hel)).trans hT
    have new : ObjOk X.prog X.w (upd H s.heap.objs.size (.tup [.int (i : Nat), x])) h'' s.heap.objs.size (.tup [.int (i : Nat), x]) :=
      ⟨by show 2 ≤ sizeLine; decide, [.int i tk, v], .cons ⟨_, rfl⟩ (.cons ru .nil), ⟨_, hT2, rfl, _, rfl⟩⟩
    have I1 : Inv X pins σ (upd H s.heap.objs.size (.tup [.int (i : Nat), x])) { s with heap := h'', toks := tk + 1 } :=
      I.turnedNew (ch := [e, it]) (fun b ob hb q => (sb.2 b (fun z => hb (by simp [z]))).trans (hk b ob (fun z => hb (by simp [z])) (fun z => hb (by simp [z])) q)) hf (Nat.le_refl _) new
    refine ⟨.ref s.heap.objs.size, _, I1, rfl, ⟨_, x, rfl, I.hok.fresh (Nat.le_refl _), rfl, fun ys hy => by rw [I.tuple_inj hy hq]; exact hx⟩, ⟨⟨v, ?_⟩, hst'.1.at fun o q => (sb.2 it (Ne.symm hne)).trans q, hne⟩, fun b hb => ?_⟩
    · rw [show ((i + 1 : Nat) : Int) = (i : Int) + 1 by omega]
      exact he'
    · have hb' : b < s.heap.objs.size := by
        rcases (by simpa using hb : b = e ∨ b = it) with rfl | rfl
        · exact hel
        · exact hil
      rw [upd_ne (Nat.ne_of_lt hb')]
      exact (hf b hb).1
  done := by
    intro X hP hw hK hc i pins s σ H E I hf st hg
    subst hP hw hK
    obtain ⟨⟨old, he⟩, hit, hne⟩ := st
    obtain ⟨xs, hq, hx⟩ := hg
    obtain ⟨its, rv, p, hz⟩ := I.tuple hq
    obtain ⟨f0, f1, f2, f3, f4, f5⟩ := hf it (by simp)
    have hl := rv.length
    have pt : s.heap.IsTuple a its.toArray := p
    have hno : its.toArray[i]? = none := by
      rw [List.getElem?_toArray]
      exact List.getElem?_eq_none (by omega)
    exact wpAny_pyNext_enum_endD (drawn_out (by simp [I.ok.hd hc]) it a i its.toArray hno) he ⟨hit, pt⟩ fun h' eb => ⟨rfl, I.turned (t' := s.toks) (fun b o hb q => eb b o hb q) f0 f1 f3 f4 f5⟩
  self := fun A i s Q E st h => let ⟨⟨_, he⟩, _⟩ := st; wpAny_pyIter_enum he h
def iEnumT (K : PySem.W.Frag) (ta : TA) : TI := fun σ H R => ta σ H fun vs H1 => ∃ a xs, vs = [.ref a] ∧ SqT K H1 a xs ∧ R (Iet K a) H1
theorem pi_enumT {X : Cx} {e : Expr} {ta : TA} {p pos tpos : Pos} {elts : List Expr} {kk : Nat} (hg : Gl X "enumerate") (hm : X.mg "enumerate" = none) (ha : PA X [e] ta) (hs : starEach [e] X.env = [(false, eval e X.env)] := by rfl) :
    PI X (.Tuple elts kk tpos) (.Call (.Name "enumerate" p) [e] [] pos) (iEnumT X.K ta) := by
  refine ⟨fun pins s σ H R I h => ?_⟩
  refine Call_ (ld_blt I hg hm boot_enumerate (PyProof.Rows.callWith_type1 (thn (ha.run pos pins s σ H _ I h) fun us s1 ⟨vs, H1, I1, r1, q1⟩ => ?_) hs rfl))
  obtain ⟨a, xs, rfl, hq, q⟩ := q1
  rw [Vals.ref1 r1]
  obtain ⟨its, rv, p', hz⟩ := I1.tuple hq
  have pt : s1.heap.IsTuple a its.toArray := p'
  have hal : a < s1.heap.objs.size := by
    obtain ⟨o, ho, _⟩ := pt
    exact Heap.lt_size ho
  refine enum1_begins (begins_tuple a its.toArray) pt fun h' he hit hk => wpAny_pyIter_enum he ?_
  have I2 : Inv X pins σ H1 { s1 with heap := h' } := I1.kept (t' := s1.toks) hk
  refine ⟨s1.heap.objs.size + 1, [s1.heap.objs.size + 1, s1.heap.objs.size], _, _, H1, rfl, I2, turn_enumT a (s1.heap.objs.size + 1) s1.heap.objs.size (Nat.ne_of_gt (Nat.lt_succ_of_lt hal)) (Nat.ne_of_lt hal), ⟨⟨.none, he⟩, ⟨_, hit, rfl, rfl⟩, Nat.succ_ne_self _⟩, fun b hb => ?_, q⟩
  have hle : s1.heap.objs.size ≤ b := by
    rcases (by simpa using hb : b = s1.heap.objs.size + 1 ∨ b = s1.heap.objs.size) with z | z
    · rw [z]; exact Nat.le_add_right _ _
    · rw [z]; exact Nat.le_refl _
  exact I1.fpOk hle (I1.hok.fresh hle)
theorem enumT {X : Cx} {K : PySem.W.Frag} {elts : List Expr} {kk : Nat} {tpos p pos : Pos} {e : Expr} {ta : TA} (h : X.K = K) (hg : Gl X "enumerate") (hm : X.mg "enumerate" = none) (ha : PA X [e] ta)
    (hs : starEach [e] X.env = [(false, eval e X.env)] := by rfl) : PI X (.Tuple elts kk tpos) (.Call (.Name "enumerate" p) [e] [] pos) (iEnumT K ta) := h ▸ pi_enumT hg hm ha hs
theorem walk_enumT {K : PySem.W.Frag} {a : Addr} {xs : List V} : Walk (Iet K a) xs.length (fun H => SqT K H a xs) (YPair (fun i => some (.int (i : Nat))) (fun i => xs[i]?)) := by
  refine ⟨fun i _ hi q => ⟨xs, xs[i], q, by simp [hi]⟩, fun _ q => ⟨xs, q, Nat.le_refl _⟩, fun i H v H' _ q y => ?_⟩
  obtain ⟨T, x, h1, h2, h3, h4⟩ := y
  exact ⟨T, .int (i : Nat), x, h1, h2, h3, rfl, h4 xs q⟩
theorem ixTL {X : Cx} {K : PySem.W.Frag} (h : X.K = K) : IxR X (rIxT K) := h ▸ ix_tup
/-- numbers as ints -/
def natI (F : List Nat) : List Int := F.map fun (b : Nat) => (b : Int)
theorem natI_len (F : List Nat) : (natI F).length = F.length := List.length_map ..
theorem natI_at {F : List Nat} {i : Nat} {n : Int} (h : (natI F)[i]? = some n) : ∃ b, F[i]? = some b ∧ n = (b : Int) := by
  unfold natI at h
  rw [List.getElem?_map] at h
  cases e : F[i]? with
  | none => rw [e] at h; cases h
  | some b =>
    rw [e] at h
    exact ⟨b, rfl, (Option.some.inj h).symm⟩
theorem natI_get {F : List Nat} {i b : Nat} (h : F[i]? = some b) : (natI F)[i]? = some (b : Int) := by
  unfold natI
  rw [List.getElem?_map, h]
  rfl
theorem filt_next {α : Type} {F : List α} {g : α → Bool} {i : Nat} {b : α} (h : F[i]? = some b) : (F.take (i + 1)).filter g = (F.take i).filter g ++ (if g b = true then [b] else []) := by
  rw [List.take_add_one, h, List.filter_append]
  show _ ++ List.filter g [b] = _
  by_cases e : g b = true
  · rw [List.filter_cons, if_pos e, if_pos e]
    rfl
  · rw [List.filter_cons, if_neg e, if_neg e]
    rfl
theorem LL.put {H : Hp} {F : Addr} {us : List V} {o : HO} (e : H F = some (.lst us)) : ∀ {vs : List V} {S : List (List Int)}, LL H vs S → (∀ v ∈ vs, v ∈ us) → LL (upd H F o) vs S
  | _, _, .nil, _ => .nil
  | _, _, .cons (a := a) (r := r) h t, m => by
    refine .cons ?_ (LL.put e t fun v hv => m v (List.mem_cons_of_mem _ hv))
    rw [upd_ne fun z => ?_]
    · exact h
    · rw [z, e] at h
      have hm := m _ List.mem_cons_self
      have hr : us = r.map V.int := by
        injection h with h
        injection h
      rw [hr] at hm
      obtain ⟨x, _, q⟩ := List.mem_map.mp hm
      cases q
theorem prods01 {B : Int} : ∀ {ns ms : List Int}, (∀ n ∈ ns, 0 ≤ n ∧ n ≤ B) → (∀ m ∈ ms, 0 ≤ m ∧ m ≤ 1) → 0 ≤ (prods ns ms).sum ∧ (prods ns ms).sum ≤ B * ns.length
  | [], _, _, _ => ⟨Int.le_refl _, by show (0 : Int) ≤ B * 0; omega⟩
  | n :: ns, [], hn, _ => ⟨Int.le_refl _, by
      show (0 : Int) ≤ B * ((ns.length + 1 : Nat) : Int)
      have := hn n List.mem_cons_self
      exact Int.mul_nonneg (by omega) (by omega)⟩
  | n :: ns, m :: ms, hn, hm => by
    obtain ⟨h1, h2⟩ := prods01 (B := B) (ns := ns) (ms := ms) (fun x hx => hn x (List.mem_cons_of_mem _ hx)) (fun x hx => hm x (List.mem_cons_of_mem _ hx))
    have hn1 := hn n List.mem_cons_self
    have hm1 := hm m List.mem_cons_self
    show 0 ≤ n * m + (prods ns ms).sum ∧ n * m + (prods ns ms).sum ≤ B * ((ns.length + 1 : Nat) : Int)
    have hs : B * ((ns.length + 1 : Nat) : Int) = B * (ns.length : Int) + B := by
      rw [Int.natCast_add, Int.mul_add]
      show _ + B * 1 = _
      rw [Int.mul_one]
    rw [hs]
    rcases (show m = 0 ∨ m = 1 by omega) with rfl | rfl
    · rw [Int.mul_zero]
      omega
    · rw [Int.mul_one]
      omega
theorem light01 {ns ms : List Int} {t : Int} (hR : Rim ns) (hm : ∀ m ∈ ms, 0 ≤ m ∧ m ≤ 1) : 0 ≤ lightV ns ms t ∧ lightV ns ms t ≤ 1000000000000000000000000000000 * 40 := by
  obtain ⟨h1, h2⟩ := prods01 hR.all (rot_all (t := t) (P := fun m => 0 ≤ m ∧ m ≤ 1) hm)
  have h3 := hR.le
  refine ⟨h1, Int.le_trans h2 (Int.mul_le_mul_of_nonneg_left (by omega) (by decide))⟩
theorem ab01 {ms : List Int} (hm : ∀ m ∈ ms, 0 ≤ m ∧ m ≤ 1) : Ab 400 ms := fun m h => by
  have := hm m h
  exact Nat.lt_of_le_of_lt (m := 1) (by omega) (by decide +kernel)
theorem LL.but {t : Addr} {H H1 : Hp} (u : But t H H1) : ∀ {vs : List V} {S : List (List Int)}, LL H vs S → (∀ a, V.ref a ∈ vs → a ≠ t) → LL H1 vs S
  | _, _, .nil, _ => .nil
  | _, _, .cons h r, n => .cons (u _ _ h (n _ List.mem_cons_self)) (LL.but u r fun a ha => n a (List.mem_cons_of_mem _ ha))
theorem setOfIL {X : Cx} {K : PySem.W.Frag} {w : World} (h : X.K = K) (hw : X.w = w) (hc : X.calm = true) : CallR X (.type "set") (rSetOfI K w) := by
  subst h hw
  exact cr_setOfI hc
theorem sortedSetL {X : Cx} {w : World} (hw : X.w = w) (hc : X.calm = true) : CallR X (.builtin "sorted") (rSortedSet w) := by
  subst hw
  exact cr_sortedSet hc
end Sd

namespace Sd
open PySem PySem.Spec PyProof.Rows L2
/-! ### a method by keywords alone, len by an own __len__ -/
section
variable {X : Cx} {C : CXT} {k : Nat} {D f : Addr} {fd : FuncData} {ps ks : List Str} {sp : Sp} {E : XK} {m : Str} {apos pos : Pos} {o : Expr} {kws : List Keyword} {ta : TE} {tk : TA} {g : List Value → List Value → List Value} {gV : List V → List V → List V}
def tMethW (D : Addr) (m : Str) (sp : Sp) (gV : List V → List V → List V) (E : XK) (ta : TE) (tk : TA) : TE := fun σ H Q => ta σ H fun x H1 => ∃ a dx fs, x = .ref a ∧ H1 a = some (.ins D dx fs) ∧ fs.lookup m = none ∧
  tk σ H1 fun zs H2 => sp (gV [x] zs) H2 Q E
theorem pe_methW {pl : Sem Bool} (he : PE X o ta) (c : Cls X.K D) (hm : Meth X.K D m f) (F : FnOk X.prog X.w X.K X.mg X.base C k f fd ps sp) (hr : Room k X.A) (hb : KBinds X.K fd ps ks g gV) (hx : Passes C X E) (hkw : PK X kws tk)
    (hall : (backToKw pos (keywordEach kws X.env)).all (·.1.isSome) = true := by rfl) (hks : (backToKw pos (keywordEach kws X.env)).filterMap (·.1) = ks := by rfl)
    (hpl : ((backTo pos (starEach [] X.env)).any (·.1) || (backToKw pos (keywordEach kws X.env)).any (·.1.isNone)) = false := by rfl)
    (ht : eval (.Call (.Attribute o m apos) [] kws pos) X.env = (eval o X.env >>= fun ov => standAt apos.atName >>= fun _ => holding [ov] (getMethod ov m pl) >>= fun p =>
      callWith pos p.1 p.2 (backTo pos (starEach [] X.env)) (backToKw pos (keywordEach kws X.env))) := by rfl) :
    PE X (.Call (.Attribute o m apos) [] kws pos) (tMethW D m sp gV E ta tk) := by
  refine ⟨fun pins s σ H Q I h => ?_⟩
  refine PySem.W.methodCall_KW (pl := pl) (thn (he.run pins s σ H _ I h) fun u s1 z => ?_) ht
  obtain ⟨x, H1, I1, rx, a, dx, fs, ex, ea, l, q⟩ := z
  subst ex
  have eu : u = Value.ref a := rx
  subst eu
  refine getmeth_ok I1 ea c hm l ?_
  refine PySem.W.callWith_KW0 (first := [Value.ref a]) (h₀ := X.base) I.ok.mod.kin hm.kp hall (thn (hkw.run pos pins s1 σ H1 _ I1 q) fun ws s2 y => ?_) hpl
  obtain ⟨zs, H2, I2, rz, q2⟩ := y
  refine ⟨I2.kIn, ?_⟩
  rw [hks]
  exact run_fnk (us := [Value.ref a]) (vs := [V.ref a]) F hr hb hx I2 (.cons rfl .nil) rz q2
def rLenOwn (D : Addr) (sp : Sp) (E : XK) : List V → Hp → VK → Prop := fun xs H Q => ∃ a dx fs, xs = [.ref a] ∧ H a = some (.ins D dx fs) ∧ sp [.ref a] H (fun v H' => ∃ n : Int, v = .int n ∧ 0 ≤ n ∧ n < 2 ^ 63 ∧ Q (.int n) H') E
theorem cr_lenOwn (c : Cls X.K D) (hm : Meth X.K D "__len__" f) (F : FnOk X.prog X.w X.K X.mg X.base C k f fd ps sp) (hr : Room (k + 1) X.A) (hb : Binds X.K fd ps []) (hx : Passes C X E) : CallR X (.builtin "len") (rLenOwn D sp E) := by
  intro pins s σ H xs us Q I r h
  obtain ⟨a, dx, fs, rfl, ea, q⟩ := h
  rw [Vals.ref1 r]
  obtain ⟨mA, O, _⟩ := ins_get I.hok ea
  obtain ⟨od, J, _⟩ := O.look
  obtain ⟨m0, hF⟩ := I.fr
  refine PySem.W.len_K hF I.ok.mod.kin J hm.at_ hm.fn ?_
  have hl : ([Value.ref a] ++ []).length = ps.length := by
    have := F.len _ _ _ _ q
    exact this
  refine wpAny_call (codeAny_mono (F.run X.A.in1 X.stack s H ⟨[.ref a], []⟩ [.ref a] [.ref a] _ E hr.in1 I.env0.in1 (hb s [.ref a] I.kIn hl) (.cons rfl .nil) q) fun r s' hq => ?_)
  cases r with
  | error er => exact hx pins σ H s er s' I hq
  | ok fl =>
    cases fl with
    | ret u =>
      obtain ⟨v, H', I3, rv, n, ev, n0, n1, q3⟩ := I.after hq
      subst ev
      obtain ⟨t, eu⟩ := (show ∃ t, u = Value.int n t from rv)
      subst eu
      exact ⟨⟨n0, n1⟩, .int n, H', I3.tok _, ⟨_, rfl⟩, q3⟩
    | next => exact False.elim hq
    | brk => exact False.elim hq
    | cont => exact False.elim hq
end
/-! ### calls of live discs -/
inductive LC where
  | turn (n : Int)
  | slot (s : Nat) (l : Int)
  | flip
def sTurn : Str := "turn"
def sSlot : Str := "slot"
def sMir : Str := "mirror"
def LC.v : LC → List V
  | .turn n => [.str sTurn, .int n]
  | .slot s l => [.str sSlot, .int s, .int l]
  | .flip => [.str sMir]
def LC.d : LC → PyData
  | .turn n => .tuple [.str sTurn, .int n]
  | .slot s l => .tuple [.str sSlot, .int s, .int l]
  | .flip => .tuple [.str sMir]
abbrev LS := List Int × Int
def LC.on (st : LS) : LC → LS
  | .turn n => (st.1, (st.2 + n) % (st.1.length : Int))
  | .slot s l => (st.1.set s l, st.2)
  | .flip => (mir st.1, st.2)
def LC.ok (n : Nat) : LC → Prop
  | .turn k => k.natAbs < 10 ^ 40
  | .slot s l => s < n ∧ 0 ≤ l ∧ l ≤ 1000000000000000000000000000000
  | .flip => True
def LSok (n : Nat) (st : LS) : Prop := Rim st.1 ∧ st.1.length = n ∧ 0 ≤ st.2 ∧ st.2 < n
theorem rim_set {ns : List Int} {s : Nat} {l : Int} (h : Rim ns) (h0 : 0 ≤ l) (h1 : l ≤ 1000000000000000000000000000000) : Rim (ns.set s l) :=
  ⟨by rw [List.length_set]; exact h.pos, by rw [List.length_set]; exact h.le, fun x hx => by
    rcases List.mem_or_eq_of_mem_set hx with h2 | h2
    · exact h.all x h2
    · rw [h2]
      exact ⟨h0, h1⟩⟩
theorem LC.on_ok {n : Nat} {st : LS} (h : LSok n st) {c : LC} (hc : c.ok n) : LSok n (c.on st) := by
  obtain ⟨hR, hl, h0, h1⟩ := h
  cases c with
  | turn k =>
    have p := hR.pos
    exact ⟨hR, hl, Int.emod_nonneg _ (by show ((st.1.length : Nat) : Int) ≠ 0; omega), by
      have := Int.emod_lt_of_pos (st.2 + k) (show (0 : Int) < (st.1.length : Int) by omega)
      show (st.2 + k) % (st.1.length : Int) < n
      omega⟩
  | slot s l => exact ⟨rim_set hR hc.2.1 hc.2.2, by show (st.1.set s l).length = n; rw [List.length_set, hl], h0, h1⟩
  | flip => exact ⟨hR.mir, by show (mir st.1).length = n; rw [mir_len, hl], h0, h1⟩
theorem LC.dp {K : PySem.W.Frag} {H : Hp} {t : Addr} {c : LC} (h : H t = some (.tup c.v)) : Dp K H (.ref t) c.d := by
  cases c with
  | turn n => exact .tup (SqT.of h) (.cons (.str _) (.cons (.int _) .nil))
  | slot s l => exact .tup (SqT.of h) (.cons (.str _) (.cons (.int _) (.cons (.int _) .nil)))
  | flip => exact .tup (SqT.of h) (.cons (.str _) .nil)
theorem low_of (s : String) (h : (s.toList.all fun c => decide (c.toNat < 128)) = true) : ∀ c ∈ TL.tl (Str.ofString s), c < 128 := fun c hc => by
  rw [tl_ofString] at hc
  obtain ⟨x, hx, rfl⟩ := List.mem_map.mp hc
  exact of_decide_eq_true (List.all_eq_true.mp h x hx)
theorem dat_word {s : String} (h : (s.toList.all fun c => decide (c.toNat < 128)) = true) (hl : (Str.ofString s).length ≤ 90) : Dat 0 1001 (.str (Str.ofString s)) :=
  (dat_str (low_of s h) hl).mono (Nat.le_refl _) (by omega)
theorem LC.dat {n : Nat} {c : LC} (h : c.ok n) (hn : n ≤ 40) : Dat 1 3012 c.d := by
  have w1 : Dat 0 1001 (.str sTurn) := dat_word (s := "turn") (by decide) (by decide)
  have w2 : Dat 0 1001 (.str sSlot) := dat_word (s := "slot") (by decide) (by decide)
  have w3 : Dat 0 1001 (.str sMir) := dat_word (s := "mirror") (by decide) (by decide)
  have e30 : (10 : Nat) ^ 40 = 10000000000000000000000000000000000000000 := by decide +kernel
  cases c with
  | turn k => exact dat_tup (k := 0) (B := 1001) (n := 3) (fun d hd => by
      simp only [List.mem_cons, List.not_mem_nil, or_false] at hd
      rcases hd with rfl | rfl
      · exact w1
      · exact dat_int (k := 40) h (by decide)) (by decide) (by show 2 ≤ 3; decide)
  | slot s l => exact dat_tup (k := 0) (B := 1001) (n := 3) (fun d hd => by
      simp only [List.mem_cons, List.not_mem_nil, or_false] at hd
      obtain ⟨h1, h2, h3⟩ := h
      rcases hd with rfl | rfl | rfl
      · exact w2
      · exact dat_int (k := 40) (by rw [e30]; omega) (by decide)
      · exact dat_int (k := 40) (by rw [e30]; omega) (by decide)) (by decide) (by show 3 ≤ 3; decide)
  | flip => exact dat_tup (k := 0) (B := 1001) (n := 3) (fun d hd => by
      simp only [List.mem_cons, List.not_mem_nil, or_false] at hd
      rcases hd with rfl
      exact w3) (by decide) (by decide)
/-! ### how live discs stand: Z: what others change -/
inductive StsAt (Z : Addr → Prop) (S L : Addr) (H : Hp) : List V → List LS → Prop
  | nil : StsAt Z S L H [] []
  | cons {t o : Addr} {s : LS} {us : List V} {ss : List LS} (h : H t = some (.tup [.ref o, .int s.2])) (g : H o = some (.lst (s.1.map V.int))) (f1 : ¬ Z t) (f2 : ¬ Z o) (n1 : o ≠ S) (n2 : o ≠ L) (r : StsAt Z S L H us ss) : StsAt Z S L H (.ref t :: us) (s :: ss)
inductive ClsAt (Z : Addr → Prop) (H : Hp) : List V → List LC → Prop
  | nil : ClsAt Z H [] []
  | cons {t : Addr} {c : LC} {us : List V} {cs : List LC} (h : H t = some (.tup c.v)) (f1 : ¬ Z t) (r : ClsAt Z H us cs) : ClsAt Z H (.ref t :: us) (c :: cs)
def Lst (H : Hp) (a : Addr) : Prop := ∃ xs, H a = some (.lst xs)
theorem tup_ne {H : Hp} {t a : Addr} {xs : List V} (h : H t = some (.tup xs)) (l : Lst H a) : t ≠ a := fun e => by
  obtain ⟨ys, l⟩ := l
  rw [e, l] at h
  cases h
theorem StsAt.up {Z : Addr → Prop} {H H' : Hp} {S L : Addr} {us : List V} {ss : List LS} (h : StsAt Z S L H us ss) (hS : Lst H S) (hL : Lst H L) (k : ∀ b x, H b = some x → ¬ Z b → b ≠ S → b ≠ L → H' b = some x) : StsAt Z S L H' us ss := by
  induction h with
  | nil => exact .nil
  | cons h g f1 f2 n1 n2 _ ih => exact .cons (k _ _ h f1 (tup_ne h hS) (tup_ne h hL)) (k _ _ g f2 n1 n2) f1 f2 n1 n2 ih
theorem ClsAt.up {Z : Addr → Prop} {H H' : Hp} {S L : Addr} {us : List V} {cs : List LC} (h : ClsAt Z H us cs) (hS : Lst H S) (hL : Lst H L) (k : ∀ b x, H b = some x → ¬ Z b → b ≠ S → b ≠ L → H' b = some x) : ClsAt Z H' us cs := by
  induction h with
  | nil => exact .nil
  | cons h f1 _ ih => exact .cons (k _ _ h f1 (tup_ne h hS) (tup_ne h hL)) f1 ih
theorem StsAt.len {Z : Addr → Prop} {H : Hp} {S L : Addr} {us : List V} {ss : List LS} (h : StsAt Z S L H us ss) : us.length = ss.length := by
  induction h with
  | nil => rfl
  | cons _ _ _ _ _ _ _ ih => rw [List.length_cons, List.length_cons, ih]
theorem ClsAt.len {Z : Addr → Prop} {H : Hp} {us : List V} {cs : List LC} (h : ClsAt Z H us cs) : us.length = cs.length := by
  induction h with
  | nil => rfl
  | cons _ _ _ ih => rw [List.length_cons, List.length_cons, ih]
theorem StsAt.snoc {Z : Addr → Prop} {H : Hp} {S L t o : Addr} {s : LS} {us : List V} {ss : List LS} (h : StsAt Z S L H us ss) (e : H t = some (.tup [.ref o, .int s.2])) (g : H o = some (.lst (s.1.map V.int))) (f1 : ¬ Z t) (f2 : ¬ Z o) (n1 : o ≠ S) (n2 : o ≠ L) :
    StsAt Z S L H (us ++ [.ref t]) (ss ++ [s]) := by
  induction h with
  | nil => exact .cons e g f1 f2 n1 n2 .nil
  | cons h g f1 f2 n1 n2 _ ih => exact .cons h g f1 f2 n1 n2 ih
theorem ClsAt.snoc {Z : Addr → Prop} {H : Hp} {t : Addr} {c : LC} {us : List V} {cs : List LC} (h : ClsAt Z H us cs) (e : H t = some (.tup c.v)) (f1 : ¬ Z t) : ClsAt Z H (us ++ [.ref t]) (cs ++ [c]) := by
  induction h with
  | nil => exact .cons e f1 .nil
  | cons h f1 _ ih => exact .cons h f1 ih
theorem ClsAt.dp {K : PySem.W.Frag} {Z : Addr → Prop} {H : Hp} {us : List V} {cs : List LC} (h : ClsAt Z H us cs) : DpAll K H us (cs.map LC.d) := by
  induction h with
  | nil => exact .nil
  | cons h _ _ ih => exact .cons (LC.dp h) ih
/-- the last state -/
theorem StsAt.last {Z : Addr → Prop} {H : Hp} {S L : Addr} {s : LS} : ∀ {us : List V} {ss : List LS}, StsAt Z S L H us (ss ++ [s]) → ∃ t o, atI us (-1) = some (.ref t) ∧ H t = some (.tup [.ref o, .int s.2]) ∧ H o = some (.lst (s.1.map V.int)) ∧ ¬ Z t ∧ ¬ Z o ∧ o ≠ S ∧ o ≠ L := by
  intro us ss h
  have hl := h.len
  rw [List.length_append] at hl
  have hl : us.length = ss.length + 1 := hl
  have key : ∀ {us : List V} {ss : List LS}, StsAt Z S L H us (ss ++ [s]) → ∃ t o, us[ss.length]? = some (.ref t) ∧ H t = some (.tup [.ref o, .int s.2]) ∧ H o = some (.lst (s.1.map V.int)) ∧ ¬ Z t ∧ ¬ Z o ∧ o ≠ S ∧ o ≠ L := by
    intro us ss
    induction ss generalizing us with
    | nil =>
      intro h
      cases h with
      | cons h g f1 f2 n1 n2 r => exact ⟨_, _, rfl, h, g, f1, f2, n1, n2⟩
    | cons x ss ih =>
      intro h
      cases h with
      | cons h g f1 f2 n1 n2 r => exact ih r
  obtain ⟨t, o, e, r⟩ := key h
  refine ⟨t, o, ?_, r⟩
  have h1 : 0 < us.length := by omega
  have e2 : us = us.take ss.length ++ [.ref t] := by
    have h2 := List.take_append_drop ss.length us
    have h3 : us.drop ss.length = [.ref t] := by
      rw [List.drop_eq_getElem_cons (by omega), List.drop_of_length_le (by omega)]
      rw [List.getElem?_eq_getElem (by omega)] at e
      rw [Option.some.inj e]
    rw [h3] at h2
    exact h2.symm
  rw [e2]
  exact atI_last _ _
structure LiveAt (C : Addr) (Z : Addr → Prop) (H : Hp) (p D S L : Addr) (ns : List Int) (ss : List LS) (cs : List LC) : Prop where
  ob : ∃ dx, H p = some (.ins C dx (putF "_log" (.ref L) (putF "_states" (.ref S) (putF "_disc" (.ref D) []))))
  gD : H D = some (.lst (ns.map V.int))
  gS : ∃ us, H S = some (.lst us) ∧ StsAt Z S L H us ss
  gL : ∃ ws, H L = some (.lst ws) ∧ ClsAt Z H ws cs
  fD : ¬ Z D
  fS : ¬ Z S
  fL : ¬ Z L
  fp : ¬ Z p
  DS : D ≠ S
  DL : D ≠ L
  SL : S ≠ L
  rim : Rim ns
  sok : ∀ s ∈ ss, LSok ns.length s
  cok : ∀ c ∈ cs, c.ok ns.length
  len : ss.length = cs.length + 1
  many : cs.length ≤ 1000
  zst : ∀ z, Z z → H z ≠ none
theorem LiveAt.up {C : Addr} {Z : Addr → Prop} {H H' : Hp} {p D S L : Addr} {ns : List Int} {ss : List LS} {cs : List LC} (h : LiveAt C Z H p D S L ns ss cs) (k : ∀ b x, H b = some x → ¬ Z b → H' b = some x) (hz : ∀ z, Z z → H' z ≠ none) : LiveAt C Z H' p D S L ns ss cs := by
  obtain ⟨us, e1, r1⟩ := h.gS
  obtain ⟨ws, e2, r2⟩ := h.gL
  obtain ⟨dx, e0⟩ := h.ob
  exact { h with
    ob := ⟨dx, k _ _ e0 h.fp⟩
    gD := k _ _ h.gD h.fD
    gS := ⟨us, k _ _ e1 h.fS, r1.up ⟨_, e1⟩ ⟨_, e2⟩ fun b x e n _ _ => k b x e n⟩
    gL := ⟨ws, k _ _ e2 h.fL, r2.up ⟨_, e1⟩ ⟨_, e2⟩ fun b x e n _ _ => k b x e n⟩
    zst := hz }
theorem stay_some {H H' : Hp} {z : Addr} (n : H z ≠ none) (k : ∀ x, H z = some x → H' z = some x) : H' z ≠ none := by
  cases e : H z with
  | none => exact absurd e n
  | some x =>
    rw [k x e]
    exact fun y => nomatch y
theorem LiveAt.same {C : Addr} {Z : Addr → Prop} {H H' : Hp} {p D S L : Addr} {ns : List Int} {ss : List LS} {cs : List LC} (h : LiveAt C Z H p D S L ns ss cs) (s : Same H H') : LiveAt C Z H' p D S L ns ss cs :=
  h.up (fun b x e _ => s b x e) fun z hz => stay_some (h.zst z hz) fun x e => s _ _ e
theorem LiveAt.but {T C : Addr} {H H' : Hp} {p D S L : Addr} {ns : List Int} {ss : List LS} {cs : List LC} (h : LiveAt C (· = T) H p D S L ns ss cs) (s : But T H H') (n : H' T ≠ none) : LiveAt C (· = T) H' p D S L ns ss cs :=
  h.up (fun b x e f => s b x e f) fun z hz => hz ▸ n
theorem LiveAt.new {C : Addr} {Z : Addr → Prop} {H : Hp} {p D S L : Addr} {ns : List Int} {ss : List LS} {cs : List LC} (h : LiveAt C Z H p D S L ns ss cs) {a : Addr} (n : H a = none) : ¬ Z a := fun z => h.zst a z n
theorem lf_disc {D S L : Addr} : (putF "_log" (V.ref L) (putF "_states" (V.ref S) (putF "_disc" (V.ref D) []))).lookup ("_disc" : Str) = some (.ref D) := by
  rw [lookup_putF, if_neg (by decide +kernel), lookup_putF, if_neg (by decide +kernel), lookup_putF, if_pos rfl]
theorem lf_states {D S L : Addr} : (putF "_log" (V.ref L) (putF "_states" (V.ref S) (putF "_disc" (V.ref D) []))).lookup ("_states" : Str) = some (.ref S) := by
  rw [lookup_putF, if_neg (by decide +kernel), lookup_putF, if_pos rfl]
theorem lf_log {D S L : Addr} : (putF "_log" (V.ref L) (putF "_states" (V.ref S) (putF "_disc" (V.ref D) []))).lookup ("_log" : Str) = some (.ref L) := by
  rw [lookup_putF, if_pos rfl]
theorem lf_no {D S L : Addr} {m : Str} (h1 : m ≠ "_log") (h2 : m ≠ "_states") (h3 : m ≠ "_disc") : (putF "_log" (V.ref L) (putF "_states" (V.ref S) (putF "_disc" (V.ref D) []))).lookup m = none := by
  rw [lookup_putF, if_neg h1, lookup_putF, if_neg h2, lookup_putF, if_neg h3]
  rfl
/-- all stays but the states and the log -/
def ButLS (S L : Addr) (H H' : Hp) : Prop := ∀ b x, H b = some x → b ≠ S → b ≠ L → H' b = some x
theorem ButLS.trans {S L : Addr} {H H1 H2 : Hp} (a : ButLS S L H H1) (b : ButLS S L H1 H2) : ButLS S L H H2 := fun c o h n m => b c o (a c o h n m) n m
theorem ButLS.of {S L : Addr} {H H' : Hp} (s : Same H H') : ButLS S L H H' := fun b o h _ _ => s b o h
end Sd

namespace Sd
open PySem PySem.Spec PyProof.Rows L2
/-! ### == and != by an own __eq__, with either answer -/
section
variable {X : Cx} {C : CXT} {k : Nat} {D f : Addr} {fd : FuncData} {ps : List Str} {sp : Sp} {E : XK}
def rOwnEq (D : Addr) (sp : Sp) (E : XK) (neg : Bool) : V → V → Hp → VK → Prop := fun x y H Q => ∃ a b dx dy fs gs, x = .ref a ∧ y = .ref b ∧ H a = some (.ins D dx fs) ∧ H b = some (.ins D dy gs) ∧ sp [.ref a, .ref b] H (fun v H' => ∃ r : Bool, v = .bl r ∧ Q (.bl (if neg then !r else r)) H') E
theorem own_run {A : Around} {pins : List (Addr × Obj)} {σ : L2.St} {H : Hp} {s : Shared} {Q : Bool → Hp → Prop} {a b : Addr} {E' : Value → Shared → Prop} (G : FnOk X.prog X.w X.K X.mg X.base C k f fd ps sp) (hr : Room k A) (hA : A.frames = X.A.frames) (hb : Binds X.K fd ps [])
    (hx : ∀ e s', C X.stack H s E e s' → E' e s') (I : Inv X pins σ H s) (q : sp [.ref a, .ref b] H (fun v H' => ∃ r : Bool, v = .bl r ∧ Q r H') E) :
    wpAny (model X.prog X.w) A (call (.ref f) [.ref a, .ref b]) (fun v s' => ∃ (r : Bool) (H' : Hp), v = .bool r ∧ Inv X pins σ H' s' ∧ Q r H') E' s := by
  have e0 : Env0 X.prog X.w X.K X.mg X.base A X.stack s H := by
    have e := I.env0
    exact ⟨by rw [hA]; exact e.frames, e.mod, e.bs, e.bsz, e.funs, e.frf, e.hok, e.bare⟩
  have hl := G.len _ _ _ _ q
  have bi := hb s [.ref a, .ref b] I.kIn (by simpa using hl)
  have vv : Vals [V.ref a, V.ref b] ([Value.ref a, Value.ref b] ++ []) := .cons rfl (.cons rfl .nil)
  refine wpAny_call (codeAny_mono (G.run A X.stack s H ⟨[.ref a, .ref b], []⟩ ([.ref a, .ref b] ++ []) [.ref a, .ref b] _ E hr e0 bi vv q) fun r s' hq => ?_)
  cases r with
  | error e => exact hx e s' hq
  | ok fl =>
    cases fl with
    | ret u =>
      obtain ⟨v, H', I', rv, r, ev, q'⟩ := I.after hq
      subst ev
      have eu : u = Value.bool r := rv
      exact ⟨r, H', eu, I', q'⟩
    | next => exact False.elim hq
    | brk => exact False.elim hq
    | cont => exact False.elim hq
theorem op_eqOwn (hm : Meth X.K D "__eq__" f) (G : FnOk X.prog X.w X.K X.mg X.base C k f fd ps sp) (hr : Room k X.A) (hb : Binds X.K fd ps []) (hx : Passes C X E) : OpR X (compareOp .Eq) (rOwnEq D sp E false) := by
  intro pins s σ H x y v u Q I rx ry h
  obtain ⟨a, b, dx, dy, fs, gs, rfl, rfl, ha, hb', q⟩ := h
  cases rx
  cases ry
  obtain ⟨_, J, _⟩ := ins_get I.hok ha
  obtain ⟨_, J', _⟩ := ins_get I.hok hb'
  obtain ⟨_, J, _⟩ := J.look
  obtain ⟨_, J', _⟩ := J'.look
  obtain ⟨_, hF⟩ := I.fr
  refine PySem.W.cmp_K (op := .Eq) (tb := .ref D) hr.units0 hF I.ok.mod.kin J J'.type (by simp [PySem.W.notFirst]) hm.at_ hm.fn ?_
  refine wpAny_mono (own_run G hr rfl hb (fun e s' z => hx pins σ H s e s' I z) I q) (fun v s' z => ?_) fun _ _ z => z
  obtain ⟨r, H', rfl, I', q'⟩ := z
  exact ⟨.bl r, H', I', rfl, q'⟩
theorem op_neOwn (hm : Meth X.K D "__eq__" f) (hn : PySem.W.findIn X.K (.ref D) "__ne__" = some (some (.builtin "object.__ne__"))) (ho : PySem.W.mroIn X.K D (.type "object") = some true) (G : FnOk X.prog X.w X.K X.mg X.base C k f fd ps sp) (hr : Room (k + 1) X.A)
    (hb : Binds X.K fd ps []) (hx : Passes C X E) : OpR X (compareOp .NotEq) (rOwnEq D sp E true) := by
  intro pins s σ H x y v u Q I rx ry h
  obtain ⟨a, b, dx, dy, fs, gs, rfl, rfl, ha, hb', q⟩ := h
  cases rx
  cases ry
  obtain ⟨_, J, _⟩ := ins_get I.hok ha
  obtain ⟨_, J', _⟩ := ins_get I.hok hb'
  obtain ⟨_, J, _⟩ := J.look
  obtain ⟨_, J', _⟩ := J'.look
  have hu : X.A.in1.units < cLine := hr.in1.units0
  have body : wpAny (model X.prog X.w) X.A.in1 (Builtin.«object.__ne__» ⟨[.ref a, .ref b], []⟩) (fun fin s' => ∃ (r : Bool) (H' : Hp), fin = .done (.ret (.bool r)) ∧ Inv X pins σ H' s' ∧ Q (.bl r) H') X.xe s := by
    unfold Builtin.«object.__ne__»
    refine wpAny_bind (wpAny_pure (wpAny_bind (wpAny_cRoomFor hu ?_)))
    refine wpAny_bind (m := callSpecialIfBound? _ _ _) (PySem.W.ifBound_K I.kIn J hm.at_ hm.fn (wpAny_mono (own_run G hr.in1 rfl hb (fun e s' z => hx pins σ H s e s' I z) I q) (fun v s' z => ?_) fun _ _ z => z))
    obtain ⟨r, H', rfl, I', q'⟩ := z
    refine wpAny_bind (m := truthy _) (wpAny_truthy_bool ?_)
    exact wpAny_pure ⟨!r, H', rfl, I', q'⟩
  have cl : wpAny (model X.prog X.w) X.A (call (.builtin "object.__ne__") ([Value.ref a] ++ [.ref b])) (fun v s' => ∃ (r : Bool) (H' : Hp), v = .bool r ∧ Inv X pins σ H' s' ∧ Q (.bl r) H') X.xe s := by
    refine wpAny_call (codeAny_call_builtin PySem.F.cmp_object.ne.plain PySem.F.cmpEntry_ne (PySem.W.check_slot PySem.F.cmpKind_ne PySem.F.cmpSplit_ne (J.type.andThen (PySem.W.looks_mroIn I.kIn ho)) (PySem.F.cmpArgs_ne _ _) (wpAny_mono body (fun fin s' z => ?_) fun _ _ z => z)))
    obtain ⟨r, H', rfl, I', z⟩ := z
    exact ⟨r, H', rfl, I', z⟩
  have one : wpAny (model X.prog X.w) X.A (tryCompare (.ref a) "__ne__" (.ref b)) (fun v s' => ∃ (r : Bool) (H' : Hp), v = some (.bool r) ∧ Inv X pins σ H' s' ∧ Q (.bl r) H') X.xe s := by
    unfold tryCompare
    refine wpAny_bind (m := callSpecialIfBound? _ _ _) (NtL.csib (J.type.andThen (PySem.W.looks_findIn I.kIn hn)) (PySem.F.cmp_object.ne.bind _) (wpAny_mono cl (fun v s' z => ?_) fun _ _ z => z))
    obtain ⟨r, H', rfl, I', z⟩ := z
    exact wpAny_pure ⟨r, H', rfl, I', z⟩
  show wpAny _ _ (richCompare .NotEq (.ref a) (.ref b)) _ _ _
  unfold richCompare
  simp only [oneThing_ref]
  refine wpAny_holding (wpAny_bind (wpAny_cRoomFor hr.units0 ?_))
  rw [cmpInfo_NotEq]
  refine wpAny_bind (J.type.here (wpAny_bind (J'.type.here ?_)))
  rw [show (Value.ref D != Value.ref D) = false by simp]
  simp only [Bool.false_eq_true, if_false]
  refine wpAny_bind (wpAny_pure ?_)
  simp only [Bool.false_eq_true, if_false]
  refine wpAny_bind (wpAny_mono one (fun v s' z => ?_) fun _ _ z => z)
  obtain ⟨r, H', rfl, I', z⟩ := z
  exact wpAny_pure ⟨.bl r, H', I', rfl, z⟩
end
theorem kitOne_self (K : PySem.W.Frag) (a : Addr) : PySem.W.kitOne K (.ref a) (.ref a) = some true := if_pos (by first | exact beq_self_eq_true _ | simp)
theorem pg_lstL {X : Cx} {K : PySem.W.Frag} {es : List Expr} {j : Nat} {pos : Pos} {t : TGs} {n : Nat} (h : X.K = K) (hc : X.calm = true) (hs : PGs X es t)
    (hn : (assignEach es X.env).length = n := by rfl) (hst : (assignEach es X.env).findIdx? (·.1) = none := by rfl) : PG X (.Tuple es j pos) (gLst K n t) := h ▸ pg_lst hc hs hn hst
end Sd

namespace Sd
open PySem PySem.Spec PyProof.Rows L2
/-! ### == by an own __eq__ with any other value -/
section
variable {X : Cx} {C : CXT} {k : Nat} {D f : Addr} {fd : FuncData} {ps : List Str} {sp : Sp} {E : XK}
def rOwnEqA (K : PySem.W.Frag) (D : Addr) (sp : Sp) (E : XK) : V → V → Hp → VK → Prop := fun x y H Q => ∃ a dx fs t, x = .ref a ∧ H a = some (.ins D dx fs) ∧ TyX K H y t ∧ PySem.W.notFirst K D t = true ∧ sp [.ref a, y] H (fun v H' => ∃ r : Bool, v = .bl r ∧ Q (.bl r) H') E
theorem own_runA {A : Around} {pins : List (Addr × Obj)} {σ : L2.St} {H : Hp} {s : Shared} {Q : Bool → Hp → Prop} {a : Addr} {y : V} {u : Value} {E' : Value → Shared → Prop} (ry : RelV y u) (G : FnOk X.prog X.w X.K X.mg X.base C k f fd ps sp) (hr : Room k A) (hA : A.frames = X.A.frames) (hb : Binds X.K fd ps [])
    (hx : ∀ e s', C X.stack H s E e s' → E' e s') (I : Inv X pins σ H s) (q : sp [.ref a, y] H (fun v H' => ∃ r : Bool, v = .bl r ∧ Q r H') E) :
    wpAny (model X.prog X.w) A (call (.ref f) [.ref a, u]) (fun v s' => ∃ (r : Bool) (H' : Hp), v = .bool r ∧ Inv X pins σ H' s' ∧ Q r H') E' s := by
  have e0 : Env0 X.prog X.w X.K X.mg X.base A X.stack s H := by
    have e := I.env0
    exact ⟨by rw [hA]; exact e.frames, e.mod, e.bs, e.bsz, e.funs, e.frf, e.hok, e.bare⟩
  have hl := G.len _ _ _ _ q
  have bi := hb s [.ref a, u] I.kIn (by simpa using hl)
  have vv : Vals [V.ref a, y] ([Value.ref a, u] ++ []) := .cons rfl (.cons ry .nil)
  refine wpAny_call (codeAny_mono (G.run A X.stack s H ⟨[.ref a, u], []⟩ ([.ref a, u] ++ []) [.ref a, y] _ E hr e0 bi vv q) fun r s' hq => ?_)
  cases r with
  | error e => exact hx e s' hq
  | ok fl =>
    cases fl with
    | ret u =>
      obtain ⟨v, H', I', rv, r, ev, q'⟩ := I.after hq
      subst ev
      have eu : u = Value.bool r := rv
      exact ⟨r, H', eu, I', q'⟩
    | next => exact False.elim hq
    | brk => exact False.elim hq
    | cont => exact False.elim hq
theorem op_eqOwnA {K : PySem.W.Frag} (hK : X.K = K) (hm : Meth X.K D "__eq__" f) (G : FnOk X.prog X.w X.K X.mg X.base C k f fd ps sp) (hr : Room k X.A) (hb : Binds X.K fd ps []) (hx : Passes C X E) : OpR X (compareOp .Eq) (rOwnEqA K D sp E) := by
  subst hK
  intro pins s σ H x y v u Q I rx ry h
  obtain ⟨a, dx, fs, t, rfl, ha, ty, hn, q⟩ := h
  cases rx
  obtain ⟨P, Z, p, hx'⟩ := kit_of I ry ty
  obtain ⟨_, J, _⟩ := ins_get I.hok ha
  obtain ⟨_, J, _⟩ := J.look
  obtain ⟨_, hF⟩ := I.fr
  refine PySem.W.cmp_K (op := .Eq) (tb := t) hr.units0 hF I.ok.mod.kin J (Z.ty _ _ I.kIn p) hn hm.at_ hm.fn ?_
  refine wpAny_mono (own_runA ry G hr rfl hb (fun e s' z => hx pins σ H s e s' I z) I q) (fun v s' z => ?_) fun _ _ z => z
  obtain ⟨r, H', rfl, I', q'⟩ := z
  exact ⟨.bl r, H', I', rfl, q'⟩
end
theorem clsIn_of {K : PySem.W.Frag} {C : Addr} (e : PySem.W.makesIn K C = true) : (PySem.W.clsIn K C).isSome = true := by
  unfold PySem.W.makesIn at e
  unfold PySem.W.clsIn
  split at e
  · rename_i ho
    rw [ho]
    rfl
  · cases e
/-- a value that is no such instance -/
theorem kitOne_not {K : PySem.W.Frag} {C : Addr} {T : String} (m : PySem.W.makesIn K C = true) (ty : PySem.W.typeIn K (.ref C) = some (.type "type")) (h : PySem.W.subIn K (.type T) (.ref C) = some false) : PySem.W.kitOne K (.type T) (.ref C) = some false := by
  unfold PySem.W.kitOne PySem.W.kitCls
  rw [if_neg (by simp)]
  simp only [clsIn_of m, ty]
  exact h
end Sd

namespace Sd
open PySem PySem.Spec PyProof.Rows L2
/-! ### zip(*xs): any number of iterators -/
abbrev IsTupA (h : Heap) (T : Addr) (vs : Array Value) : Prop := h.get? T = some { cls := .type "tuple", data := .seq vs }
abbrev IsZipB (h : Heap) (z TI TO : Addr) (f0 b : Value) : Prop :=
  h.get? z = some { cls := .type "zip", dict := none, data := .fields #[f0, b, .bool false, .ref TI, .ref TO], slots := #[] }
/-- a zip that goes on: its tuple is handed out or not -/
def ZOk (h : Heap) (z TI TO : Addr) : Prop := ∃ f0 b, IsZipB h z TI TO f0 b ∧ (f0 = .none ∨ ∃ T : Nat, f0 = rawInt (T : Int))
def refsN (it : Nat → Addr) (N : Nat) : List Value := (List.range N).map fun k => .ref (it k)
structure ZipSepN (z TI TO : Addr) (N : Nat) (it : Nat → Addr) (fp : Nat → List Addr) : Prop where
  TIz : TI ≠ z
  TOz : TO ≠ z
  TITO : TI ≠ TO
  TIi : ∀ k, k < N → TI ≠ it k
  mem : ∀ k, k < N → it k ∈ fp k
  zf : ∀ k, k < N → z ∉ fp k
  Tf : ∀ k, k < N → TO ∉ fp k
  sep : ∀ k l, k < N → l < N → k ≠ l → it k ∉ fp l
section
variable {prog : Program} {w : World} {A : Around} {E : Value → Shared → Prop} {s : Shared} {z TI TO : Addr} {N n i : Nat} {it : Nat → Addr} {fp : Nat → List Addr} {P : Nat → Nat → Value → Prop} {St : Nat → Nat → Heap → Prop} {vals : Array Value}
theorem ZipSepN.zi (D : ZipSepN z TI TO N it fp) {k : Nat} (h : k < N) : z ≠ it k := fun e => D.zf k h (by rw [e]; exact D.mem k h)
theorem ZipSepN.Ti (D : ZipSepN z TI TO N it fp) {k : Nat} (h : k < N) : TO ≠ it k := fun e => D.Tf k h (by rw [e]; exact D.mem k h)
theorem updateSeq_A {T : Addr} {x : Value} {k : Nat} {Q : Unit → Shared → Prop} (hT : IsTupA s.heap T vals) (hs : vals.size ≤ sizeLine)
    (h : ∀ h', IsTupA h' T (vals.setIfInBounds k x) → Heap.SameBut T s.heap h' → Q () { s with heap := h' }) :
    wpAny (model prog w) A (updateSeq T (·.setIfInBounds k x)) Q E s := by
  refine wpAny_updateSeq (xs := vals) hT rfl (h _ ?_ (Heap.SameBut.update ..)) hs (by rw [Array.size_setIfInBounds]; exact Nat.le_succ_of_le hs)
  rw [IsTupA, Heap.get?_update_self _ hT rfl]
  simp [Obj.mapSeq]
theorem alive_any {a : Addr} {Q : Option Obj → Shared → Prop} (h : Q (s.heap.get? a) s) : wpAny (model prog w) A (loadIfAlive a) Q E s := fun _ _ _ => h
theorem same_refl (x : Addr) (h : Heap) : Heap.SameBut x h h := ⟨rfl, fun _ _ => rfl⟩
/-- behind k draws -/
structure MidN (P : Nat → Nat → Value → Prop) (St : Nat → Nat → Heap → Prop) (z TI TO : Addr) (N i : Nat) (it : Nat → Addr) (h0 : Heap) (k : Nat) (s : Shared) (g : Array GenState) (d : Drawn) (os : OsState) : Prop where
  gens : s.gens = g
  drawn : s.drawn = d
  os' : s.os = os
  zip : ∃ b, IsZipB s.heap z TI TO .ellipsis b
  to : ∃ vs : Array Value, IsTupA s.heap TO vs ∧ vs.size = N ∧ ∀ j, j < k → ∃ x, vs[j]? = some x ∧ P j i x
  done : ∀ j, j < k → St j (i + 1) s.heap
  rest : ∀ j, k ≤ j → j < N → St j i s.heap
  keep : ∀ c o, c ≠ z → c ≠ TO → (∀ j, j < N → c ≠ it j) → h0.get? c = some o → s.heap.get? c = some o
  size : s.heap.objs.size = h0.objs.size
theorem zip_free {f0 bb : Value} {hp : Heap} {g : Array GenState} {d : Drawn} {tk0 : Nat} {os : OsState} (hz : IsZipB hp z TI TO f0 bb) (hf0 : f0 = .none ∨ ∃ T : Nat, f0 = rawInt (T : Int)) :
    wpAny (model prog w) A (Builtin.SmallTypes.ownedTupleIsFree (.ref z)) (fun r s' => ∃ h' b', s' = ⟨h', g, d, tk0, os⟩ ∧ IsZipB h' z TI TO f0 b' ∧ Heap.SameBut z hp h') E ⟨hp, g, d, tk0, os⟩ := by
  unfold Builtin.SmallTypes.ownedTupleIsFree
  refine wpAny_bind (wpAny_field hz rfl (x := f0) rfl ?_)
  rcases hf0 with rfl | ⟨T, rfl⟩
  · exact wpAny_pure ⟨hp, bb, rfl, hz, same_refl z hp⟩
  · show wpAny _ _ (loadIfAlive ((T : Int).toNat) >>= _) _ _ _
    refine wpAny_bind (alive_any ?_)
    split
    · exact wpAny_pure ⟨hp, bb, rfl, hz, same_refl z hp⟩
    · refine wpAny_bind (wpAny_field hz rfl (x := bb) rfl ?_)
      split
      · refine wpAny_bind (wpAny_setField_rec hz (by simp) fun h2 hz2 hs2 => wpAny_pure ⟨h2, _, rfl, hz2, hs2⟩)
      · exact wpAny_pure ⟨hp, bb, rfl, hz, same_refl z hp⟩
theorem zipN_next_item {Q : Value → Shared → Prop} (hN : 0 < N) (S : ZipSepN z TI TO N it fp) (D : ∀ k, k < N → Draws prog w A (it k) (fp k) n (P k) (St k))
    (hz : ZOk s.heap z TI TO) (hTI : IsTupA s.heap TI (refsN it N).toArray) (hTO : IsTupA s.heap TO vals) (hv : vals.size = N) (hs : N ≤ sizeLine) (st : ∀ k, k < N → St k i s.heap) (hlt : i < n)
    (hQ : ∀ (vs : Array Value) h' tk, vs.size = N → (∀ j, j < N → ∃ x, vs[j]? = some x ∧ P j i x) → ZOk h' z TI TO → (∃ vt, IsTupA h' TO vt ∧ vt.size = N) → (∀ j, j < N → St j (i + 1) h') → IsTupA h' s.heap.objs.size vs → h'.objs.size = s.heap.objs.size + 1 →
      (∀ c o, c ≠ z → c ≠ TO → (∀ j, j < N → c ≠ it j) → s.heap.get? c = some o → h'.get? c = some o) → Q (.ref s.heap.objs.size) { s with heap := h', toks := tk }) :
    wpAny (model prog w) A (Builtin.«zip.__next__» ⟨[.ref z], []⟩) (fun fin s' => ∃ v, fin = .done (.ret v) ∧ Q v s') E s := by
  obtain ⟨hp, g, d, tk0, os⟩ := s
  obtain ⟨f0, bb, hz, hf0⟩ := hz
  show wpAny _ _ (field (.ref z) 2 >>= _) _ _ _
  refine wpAny_bind (wpAny_field hz rfl (x := .bool false) rfl ?_)
  show wpAny _ _ (field (.ref z) 3 >>= _) _ _ _
  refine wpAny_bind (wpAny_field hz rfl (x := .ref TI) rfl ?_)
  refine wpAny_bind (wpAny_seqItems hTI rfl ?_)
  have hne : (refsN it N).toArray.isEmpty = false := by
    unfold refsN
    cases N with
    | zero => omega
    | succ N => simp [List.range_succ]
  simp only [hne, Bool.false_eq_true, if_false]
  refine wpAny_bind (wpAny_mono (zip_free hz hf0) (fun r s' hr => ?_) fun _ _ q => q)
  obtain ⟨hp', b', rfl, hz', hsz'⟩ := hr
  have hlist : ∀ k, k ≤ N → ∃ rest, ((refsN it N).toArray.toList.zipIdx.drop k) = rest ∧ (k < N → rest = (.ref (it k), k) :: (refsN it N).toArray.toList.zipIdx.drop (k + 1)) := fun k hk => by
    refine ⟨_, rfl, fun h => ?_⟩
    have hl : k < (refsN it N).toArray.toList.zipIdx.length := by
      unfold refsN
      simp
      exact h
    rw [List.drop_eq_getElem_cons hl]
    congr 1
    rw [List.getElem_zipIdx]
    unfold refsN
    simp
  cases r with
  | true =>
      simp only [if_true]
      refine wpAny_bind (wpAny_rule ?_)
      refine wpAny_bind (wpAny_field hz' rfl (x := .ref TO) rfl ?_)
      refine wpAny_bind (wpAny_setField_rec hz' (by simp) fun g0 hz0 hs0 => ?_)
      replace hz0 : IsZipB g0 z TI TO .ellipsis b' := hz0
      replace hs0 : Heap.SameBut z hp g0 := ⟨(show g0.objs.size = hp'.objs.size from hs0.1).trans hsz'.1, fun c hc => (hs0.2 c hc).trans (hsz'.2 c hc)⟩
      refine wpAny_bind ?_
      refine wpAny_forIn_list _ (fun rest b s' => b.1 = none ∧ ∃ k, k ≤ N ∧ rest = (refsN it N).toArray.toList.zipIdx.drop k ∧ MidN P St z TI TO N i it hp k s' g d os) _ ?_ ?_ _ _ ?_
      · rintro ⟨x, k'⟩ rest ⟨b1, b2⟩ s1 ⟨hb, k, hk, hr, M⟩
        have hkN : k < N := by
          rcases Nat.lt_or_ge k N with q | q
          · exact q
          · rw [List.drop_of_length_le (by unfold refsN; simp; exact q)] at hr
            cases hr
        obtain ⟨_, rfl, hcons⟩ := hlist k hk
        rw [hcons hkN] at hr
        injection hr with h1 h2
        injection h1 with h1 h3
        subst h1 h3 h2
        refine wpAny_bind (wpAny_onRaise ?_)
        obtain ⟨p1, g1, d1, tk1, os1⟩ := s1
        obtain ⟨e1, e2, e3, M1, ⟨vs, hvs, hvn, hvx⟩, M3, M4, M5, M6⟩ := M
        dsimp only at e1 e2 e3
        subst e1 e2 e3
        show wpAny _ _ (Builtin.SmallTypes.nextOf (.ref (it k')) >>= _) _ _ ⟨p1, g1, d1, tk1, os1⟩
        refine wpAny_bind ((D k' hkN).item i _ _ _ hlt (M4 k' (Nat.le_refl _) hkN) fun x p2 tk2 hx sn hp2 => wpAny_pure ?_)
        replace hp2 : Heap.SameBut (it k') p1 p2 := hp2
        have hU : IsTupA p2 TO vs := hp2.extBut _ _ (S.Ti hkN) hvs
        refine wpAny_bind (wpAny_seqItems (s := ⟨p2, g1, d1, tk2, os1⟩) hU rfl ?_)
        refine wpAny_bind (updateSeq_A (s := ⟨p2, g1, d1, tk2, os1⟩) hU (by rw [hvn]; exact hs) fun p3 hT hs3 => ?_)
        replace hs3 : Heap.SameBut TO p2 p3 := hs3
        refine wpAny_bind (wpAny_letGo (wpAny_pure ?_))
        refine ⟨rfl, k' + 1, hkN, rfl, rfl, rfl, rfl, ?_, ⟨vs.setIfInBounds k' x, hT, by rw [Array.size_setIfInBounds]; exact hvn, fun j hj => ?_⟩, fun j hj => ?_, fun j hj hjN => ?_, fun c o cz cT ci e => ?_, ?_⟩
        · obtain ⟨bz, M1⟩ := M1
          exact ⟨bz, hs3.extBut _ _ S.TOz.symm (hp2.extBut _ _ (S.zi hkN) M1)⟩
        · by_cases q : j = k'
          · subst q
            exact ⟨x, by rw [Array.getElem?_setIfInBounds_self_of_lt (by omega)], hx⟩
          · obtain ⟨y, hy, py⟩ := hvx j (by omega)
            exact ⟨y, by rw [Array.getElem?_setIfInBounds_ne (Ne.symm q)]; exact hy, py⟩
        · by_cases q : j = k'
          · subst q
            exact (D j hkN).over sn hs3 (S.Tf j hkN)
          · exact (D j (by omega)).over ((D j (by omega)).over (M3 j (by omega)) hp2 (S.sep k' j hkN (by omega) (Ne.symm q))) hs3 (S.Tf j (by omega))
        · exact (D j hjN).over ((D j hjN).over (M4 j (by omega) hjN) hp2 (S.sep k' j hkN hjN (by omega))) hs3 (S.Tf j hjN)
        · exact hs3.extBut _ _ cT (hp2.extBut _ _ (ci k' hkN) (M5 c o cz cT ci e))
        · show p3.objs.size = _
          rw [hs3.1, hp2.1]
          exact M6
      · rintro ⟨b1, b2⟩ s1 ⟨hb, k, hk, hr, M⟩
        have hkN : k = N := by
          rcases Nat.lt_or_ge k N with q | q
          · obtain ⟨_, rfl, hcons⟩ := hlist k hk
            rw [hcons q] at hr
            cases hr
          · omega
        subst hkN
        dsimp only at hb
        subst hb
        obtain ⟨p1, g1, d1, tk1, os1⟩ := s1
        obtain ⟨e1, e2, e3, M1, ⟨vs, hvs, hvn, hvx⟩, M3, M4, M5, M6⟩ := M
        dsimp only at e1 e2 e3
        subst e1 e2 e3
        refine wpAny_bind (wpAny_seqItems (s := ⟨p1, g1, d1, tk1, os1⟩) hvs rfl ?_)
        refine wpAny_bind (wpAny_newTuple (hsz := by rw [Array.length_toList, hvn]; exact hs) ?_)
        obtain ⟨bz, M1⟩ := M1
        have hzlt : z < p1.objs.size := Heap.lt_size M1
        show wpAny _ _ (Builtin.SmallTypes.ownedTupleHandOut (.ref z) (.ref p1.objs.size) >>= _) _ _ ⟨p1.push { cls := .type "tuple", data := .seq vs.toList.toArray }, g1, d1, tk1, os1⟩
        rw [Array.toArray_toList]
        refine wpAny_bind ?_
        unfold Builtin.SmallTypes.ownedTupleHandOut
        have hz₆ : IsZipB (p1.push { cls := .type "tuple", data := .seq vs }) z TI TO .ellipsis bz := Heap.get?_push_of_some _ M1
        refine wpAny_bind (wpAny_setField_rec hz₆ (by simp) fun h₇ hz₇ hs₇ => ?_)
        replace hz₇ : IsZipB h₇ z TI TO (rawInt p1.objs.size) bz := hz₇
        refine wpAny_setField_rec hz₇ (by simp) fun h₈ hz₈ hs₈ => ?_
        replace hz₈ : IsZipB h₈ z TI TO (rawInt p1.objs.size) (.bool false) := hz₈
        replace hs₇ : Heap.SameBut z (p1.push { cls := .type "tuple", data := .seq vs }) h₇ := hs₇
        replace hs₈ : Heap.SameBut z h₇ h₈ := hs₈
        have up : ∀ c o, c ≠ z → p1.get? c = some o → h₈.get? c = some o := fun c o c1 e => hs₈.extBut _ _ c1 (hs₇.extBut _ _ c1 (Heap.get?_push_of_some _ e))
        have hT₈ : IsTupA h₈ p1.objs.size vs := hs₈.extBut _ _ (Nat.ne_of_gt hzlt) (hs₇.extBut _ _ (Nat.ne_of_gt hzlt) (Heap.get?_push_size _ rfl))
        have hz8 : h₈.objs.size = p1.objs.size + 1 := by rw [hs₈.1, hs₇.1, Heap.size_push]
        have hsz : p1.objs.size = hp.objs.size := M6
        rw [hsz] at hz₈ hT₈ hz8
        refine wpAny_pure ⟨_, rfl, ?_⟩
        show Q (.ref p1.objs.size) ⟨h₈, g1, d1, tk1, os1⟩
        rw [hsz]
        exact hQ vs h₈ tk1 hvn hvx ⟨_, _, hz₈, .inr ⟨_, rfl⟩⟩ ⟨vs, up _ _ S.TOz hvs, hvn⟩ (fun j hj => (D j hj).frame _ _ _ (M3 j hj) fun b hb o e => up b o (fun q => S.zf j hj (q ▸ hb)) e) hT₈ hz8 fun c o cz cT ci e => up c o cz (M5 c o cz cT ci e)
      · refine ⟨rfl, 0, Nat.zero_le _, rfl, rfl, rfl, rfl, ⟨_, hz0⟩, ⟨vals, hs0.extBut _ _ S.TOz hTO, hv, fun j hj => absurd hj (Nat.not_lt_zero _)⟩, fun j hj => absurd hj (Nat.not_lt_zero _), fun j _ hj => (D j hj).over (st j hj) hs0 (S.zf j hj), fun c o cz _ _ e => hs0.extBut _ _ cz e, hs0.1⟩
  | false =>
    simp only [Bool.false_eq_true, if_false]
    rw [List.forIn_toArray]
    have hl2 : ∀ k, k < N → (refsN it N).drop k = .ref (it k) :: (refsN it N).drop (k + 1) := fun k h => by
      have hl : k < (refsN it N).length := by
        unfold refsN
        simp
        exact h
      have e : (refsN it N)[k] = .ref (it k) := by simp only [refsN, List.getElem_map, List.getElem_range]
      rw [List.drop_eq_getElem_cons hl, e]
    refine wpAny_bind ?_
    refine wpAny_forIn_list _ (fun rest b s' => b.1 = none ∧ ∃ k, k ≤ N ∧ rest = (refsN it N).drop k ∧ b.2.size = k ∧ (∀ j, j < k → ∃ x, b.2[j]? = some x ∧ P j i x) ∧ ∃ h' tk, s' = ⟨h', g, d, tk, os⟩ ∧ IsZipB h' z TI TO f0 b' ∧ IsTupA h' TO vals ∧
      (∀ j, j < k → St j (i + 1) h') ∧ (∀ j, k ≤ j → j < N → St j i h') ∧ (∀ c o, c ≠ z → c ≠ TO → (∀ j, j < N → c ≠ it j) → hp.get? c = some o → h'.get? c = some o) ∧ h'.objs.size = hp.objs.size) _ ?_ ?_ _ _ ?_
    · rintro x rest ⟨b1, b2⟩ s1 ⟨hb, k, hk, hr, hbk, hbx, h', tk, rfl, M1, M2, M3, M4, M5, M6⟩
      have hkN : k < N := by
        rcases Nat.lt_or_ge k N with q | q
        · exact q
        · rw [List.drop_of_length_le (by unfold refsN; simp; exact q)] at hr
          cases hr
      rw [hl2 k hkN] at hr
      injection hr with h1 h2
      subst h1 h2
      dsimp only at hb hbk hbx
      subst hb hbk
      refine wpAny_bind (wpAny_holding ?_)
      show wpAny _ _ (Builtin.SmallTypes.nextOf (.ref (it b2.size)) >>= _) _ _ ⟨h', g, d, tk, os⟩
      refine wpAny_bind ((D b2.size hkN).item i _ _ _ hlt (M4 b2.size (Nat.le_refl _) hkN) fun x p2 tk2 hx sn hp2 => wpAny_pure (wpAny_pure ?_))
      replace hp2 : Heap.SameBut (it b2.size) h' p2 := hp2
      refine ⟨rfl, b2.size + 1, hkN, rfl, Array.size_push _, fun j hj => ?_, p2, tk2, rfl, hp2.extBut _ _ (S.zi hkN) M1, hp2.extBut _ _ (S.Ti hkN) M2, fun j hj => ?_, fun j hj hjN => ?_, fun c o cz cT ci e => hp2.extBut _ _ (ci b2.size hkN) (M5 c o cz cT ci e), hp2.1.trans M6⟩
      · have hj : j < b2.size + 1 := hj
        by_cases q : j = b2.size
        · rw [q]
          exact ⟨x, Array.getElem?_push_size, by rw [← q] at hx ⊢; exact hx⟩
        · have hj2 : j < b2.size := by omega
          obtain ⟨y, hy, py⟩ := hbx j hj2
          have hy : b2[j]? = some y := hy
          exact ⟨y, by show (b2.push x)[j]? = some y; rw [Array.getElem?_push_lt hj2]; rw [Array.getElem?_eq_getElem hj2] at hy; exact hy, py⟩
      · by_cases q : j = b2.size
        · rw [q]
          exact sn
        · have hj2 : j < b2.size := by
            have hj : j < b2.size + 1 := hj
            omega
          exact (D j (Nat.lt_trans hj2 hkN)).over (M3 j hj2) hp2 (S.sep b2.size j hkN (Nat.lt_trans hj2 hkN) (Ne.symm q))
      · exact (D j hjN).over (M4 j (by omega) hjN) hp2 (S.sep b2.size j hkN hjN (by omega))
    · rintro ⟨b1, b2⟩ s1 ⟨hb, k, hk, hr, hbk, hbx, h', tk, rfl, M1, M2, M3, M4, M5, M6⟩
      have hkN : k = N := by
        rcases Nat.lt_or_ge k N with q | q
        · rw [hl2 k q] at hr
          cases hr
        · omega
      subst hkN
      dsimp only at hb hbk hbx
      subst hb
      show wpAny _ _ (newTuple b2.toList >>= _) _ _ _
      refine wpAny_bind (wpAny_newTuple (hsz := by rw [Array.length_toList, hbk]; exact hs) ?_)
      refine wpAny_pure ⟨_, rfl, ?_⟩
      rw [Array.toArray_toList]
      show Q (.ref h'.objs.size) ⟨h'.push { cls := .type "tuple", data := .seq b2 }, g, d, tk, os⟩
      have up : ∀ c o, h'.get? c = some o → (h'.push { cls := .type "tuple", data := .seq b2 }).get? c = some o := fun c o e => Heap.get?_push_of_some _ e
      have hT : IsTupA (h'.push { cls := .type "tuple", data := .seq b2 }) h'.objs.size b2 := Heap.get?_push_size _ rfl
      have hz8 : (h'.push { cls := .type "tuple", data := .seq b2 }).objs.size = h'.objs.size + 1 := Heap.size_push ..
      rw [M6] at hT hz8 ⊢
      exact hQ b2 _ tk hbk hbx ⟨_, _, up _ _ M1, hf0⟩ ⟨vals, up _ _ M2, hv⟩ (fun j hj => (D j hj).frame _ _ _ (M3 j hj) fun b hb o e => up b o e) hT hz8 fun c o cz cT ci e => up c o (M5 c o cz cT ci e)
    · exact ⟨rfl, 0, Nat.zero_le _, rfl, rfl, fun j hj => absurd hj (Nat.not_lt_zero _), hp', tk0, rfl, hz', hsz'.extBut _ _ S.TOz hTO, fun j hj => absurd hj (Nat.not_lt_zero _), fun j _ hj => (D j hj).over (st j hj) hsz' (S.zf j hj), fun c o cz _ _ e => hsz'.extBut _ _ cz e, hsz'.1⟩
theorem zipN_next_end {Q : PySem.Fin → Shared → Prop} (hN : 0 < N) (S : ZipSepN z TI TO N it fp) (D : ∀ k, k < N → Draws prog w A (it k) (fp k) n (P k) (St k))
    (hz : ZOk s.heap z TI TO) (hTI : IsTupA s.heap TI (refsN it N).toArray) (st : St 0 n s.heap)
    (hE : ∀ h' tk e, (∀ c o, c ≠ z → c ≠ TO → (∀ j, j < N → c ≠ it j) → s.heap.get? c = some o → h'.get? c = some o) → (∃ o, h'.get? e = some o ∧ o.cls = .type "StopIteration") → E (.ref e) { s with heap := h', toks := tk }) :
    wpAny (model prog w) A (Builtin.«zip.__next__» ⟨[.ref z], []⟩) Q E s := by
  obtain ⟨hp, g, d, tk0, os⟩ := s
  obtain ⟨f0, bb, hz, hf0⟩ := hz
  show wpAny _ _ (field (.ref z) 2 >>= _) _ _ _
  refine wpAny_bind (wpAny_field hz rfl (x := .bool false) rfl ?_)
  show wpAny _ _ (field (.ref z) 3 >>= _) _ _ _
  refine wpAny_bind (wpAny_field hz rfl (x := .ref TI) rfl ?_)
  refine wpAny_bind (wpAny_seqItems hTI rfl ?_)
  have hne : (refsN it N).toArray.isEmpty = false := by
    unfold refsN
    cases N with
    | zero => omega
    | succ N => simp [List.range_succ]
  simp only [hne, Bool.false_eq_true, if_false]
  refine wpAny_bind (wpAny_mono (zip_free hz hf0) (fun r s' hr => ?_) fun _ _ q => q)
  obtain ⟨hp', b', rfl, hz', hsz'⟩ := hr
  cases r with
  | true =>
    simp only [if_true]
    refine wpAny_bind (wpAny_rule ?_)
    refine wpAny_bind (wpAny_field hz' rfl (x := .ref TO) rfl ?_)
    refine wpAny_bind (wpAny_setField_rec hz' (by simp) fun g0 hz0 hs0 => ?_)
    replace hz0 : IsZipB g0 z TI TO .ellipsis b' := hz0
    replace hs0 : Heap.SameBut z hp g0 := ⟨(show g0.objs.size = hp'.objs.size from hs0.1).trans hsz'.1, fun c hc => (hs0.2 c hc).trans (hsz'.2 c hc)⟩
    refine wpAny_bind ?_
    obtain ⟨rest, hcons⟩ : ∃ rest, (refsN it N).toArray.toList.zipIdx = (.ref (it 0), 0) :: rest := by
      have hl : 0 < (refsN it N).toArray.toList.zipIdx.length := by
        unfold refsN
        simp
        exact hN
      have h := List.drop_eq_getElem_cons hl
      rw [List.drop_zero] at h
      refine ⟨(refsN it N).toArray.toList.zipIdx.drop (0 + 1), h.trans ?_⟩
      congr 1
      rw [List.getElem_zipIdx]
      unfold refsN
      simp
    rw [hcons, List.forIn_cons]
    refine wpAny_bind (wpAny_bind (wpAny_onRaise ?_))
    show wpAny _ _ (Builtin.SmallTypes.nextOf (.ref (it 0)) >>= _) _ _ ⟨g0, g, d, tk0, os⟩
    refine wpAny_bind ((D 0 hN).done ⟨g0, g, d, tk0, os⟩ _ _ ((D 0 hN).over st hs0 (S.zf 0 hN)) fun q e hq he => ?_)
    replace hq : Heap.ExtBut (it 0) g0 q := hq
    obtain ⟨oe, hoe, hce⟩ := he
    replace hoe : q.get? e = some oe := hoe
    have hzq : IsZipB q z TI TO .ellipsis b' := hq _ _ (S.zi hN) hz0
    have hez : e ≠ z := fun x => by subst x; rw [hzq] at hoe; cases hoe; simp at hce
    refine wpAny_setField_rec (s := ⟨q, g, d, tk0, os⟩) hzq (by simp) fun q' _ hq' => ?_
    replace hq' : Heap.SameBut z q q' := hq'
    exact hE q' tk0 e (fun c o cz cT ci x => hq'.extBut _ _ cz (hq _ _ (ci 0 hN) (hs0.extBut _ _ cz x))) ⟨oe, hq'.extBut _ _ hez hoe, hce⟩
  | false =>
    simp only [Bool.false_eq_true, if_false]
    rw [List.forIn_toArray]
    obtain ⟨rest, hcons⟩ : ∃ rest, refsN it N = .ref (it 0) :: rest := by
      have hl : 0 < (refsN it N).length := by
        unfold refsN
        simp
        exact hN
      have h := List.drop_eq_getElem_cons hl
      rw [List.drop_zero] at h
      have e : (refsN it N)[0] = .ref (it 0) := by simp only [refsN, List.getElem_map, List.getElem_range]
      rw [e] at h
      exact ⟨_, h⟩
    rw [hcons, List.forIn_cons]
    refine wpAny_bind (wpAny_bind (wpAny_bind (wpAny_holding ?_)))
    show wpAny _ _ (Builtin.SmallTypes.nextOf (.ref (it 0)) >>= _) _ _ ⟨hp', g, d, tk0, os⟩
    refine wpAny_bind ((D 0 hN).done ⟨hp', g, d, tk0, os⟩ _ _ ((D 0 hN).over st hsz' (S.zf 0 hN)) fun q e hq he => ?_)
    replace hq : Heap.ExtBut (it 0) hp' q := hq
    exact hE q tk0 e (fun c o cz cT ci x => hq _ _ (ci 0 hN) (hsz'.extBut _ _ cz x)) he
end
section
variable {prog : Program} {w : World} {A : Around} {E : Value → Shared → Prop} {s : Shared} {z TI TO : Addr} {N n i : Nat} {it : Nat → Addr} {fp : Nat → List Addr} {P : Nat → Nat → Value → Prop} {St : Nat → Nat → Heap → Prop} {vals : Array Value}
theorem pyNext_zipN_item {Q : Option Value → Shared → Prop} (hN : 0 < N) (S : ZipSepN z TI TO N it fp) (D : ∀ k, k < N → Draws prog w A.in1 (it k) (fp k) n (P k) (St k))
    (hz : ZOk s.heap z TI TO) (hTI : IsTupA s.heap TI (refsN it N).toArray) (hTO : IsTupA s.heap TO vals) (hv : vals.size = N) (hs : N ≤ sizeLine) (st : ∀ k, k < N → St k i s.heap) (hlt : i < n)
    (hQ : ∀ (vs : Array Value) h' tk, vs.size = N → (∀ j, j < N → ∃ x, vs[j]? = some x ∧ P j i x) → ZOk h' z TI TO → (∃ vt, IsTupA h' TO vt ∧ vt.size = N) → (∀ j, j < N → St j (i + 1) h') → IsTupA h' s.heap.objs.size vs → h'.objs.size = s.heap.objs.size + 1 →
      (∀ c o, c ≠ z → c ≠ TO → (∀ j, j < N → c ≠ it j) → s.heap.get? c = some o → h'.get? c = some o) → Q (some (.ref s.heap.objs.size)) { s with heap := h', toks := tk }) :
    wpAny (model prog w) A (pyNext (.ref z)) Q E s := by
  have hT : s.TypeIs (.ref z) "zip" := let ⟨_, _, q, _⟩ := hz; ⟨_, q, rfl⟩
  unfold pyNext
  exact wpAny_bind (wpAny_attempt (wpAny_callSpecial?_slot (name := Str.ofString "__next__") hT F.slot_zip_next
    (wpAny_call_entry F.slot_zip_next hT F.entry_zip_next
      (zipN_next_item hN S D hz hTI hTO hv hs st hlt fun vs h' tk y1 y2 y3 y4 y5 y6 y7 y8 => wpAny_pure (hQ vs h' tk y1 y2 y3 y4 y5 y6 y7 y8)) (F.args_zip_next_1 _))))
theorem pyNext_zipN_end {Q : Option Value → Shared → Prop} (hN : 0 < N) (S : ZipSepN z TI TO N it fp) (D : ∀ k, k < N → Draws prog w A.in1 (it k) (fp k) n (P k) (St k))
    (hz : ZOk s.heap z TI TO) (hTI : IsTupA s.heap TI (refsN it N).toArray) (st : St 0 n s.heap)
    (hQ : ∀ h' tk, (∀ c o, c ≠ z → c ≠ TO → (∀ j, j < N → c ≠ it j) → s.heap.get? c = some o → h'.get? c = some o) → Q none { s with heap := h', toks := tk }) : wpAny (model prog w) A (pyNext (.ref z)) Q E s := by
  have hT : s.TypeIs (.ref z) "zip" := let ⟨_, _, q, _⟩ := hz; ⟨_, q, rfl⟩
  unfold pyNext
  refine wpAny_bind (wpAny_attempt (wpAny_callSpecial?_slot (name := Str.ofString "__next__") hT F.slot_zip_next
    (wpAny_call_entry F.slot_zip_next hT F.entry_zip_next (zipN_next_end hN S D hz hTI st fun h' tk e hk he => ?_) (F.args_zip_next_1 _))))
  obtain ⟨o, ho, hc⟩ := he
  refine wpAny_bind (wpAny_isInstance (T := "StopIteration") (b := true) ⟨o, ho, hc⟩ isSubtype_stop ?_)
  exact wpAny_pure (hQ _ _ hk)
theorem nextOf_zipN_item {Q : Value → Shared → Prop} (hN : 0 < N) (S : ZipSepN z TI TO N it fp) (D : ∀ k, k < N → Draws prog w A.in1 (it k) (fp k) n (P k) (St k))
    (hz : ZOk s.heap z TI TO) (hTI : IsTupA s.heap TI (refsN it N).toArray) (hTO : ∃ vt, IsTupA s.heap TO vt ∧ vt.size = N) (hs : N ≤ sizeLine) (st : ∀ k, k < N → St k i s.heap) (hlt : i < n)
    (hQ : ∀ (vs : Array Value) h' tk, vs.size = N → (∀ j, j < N → ∃ x, vs[j]? = some x ∧ P j i x) → ZOk h' z TI TO → (∃ vt, IsTupA h' TO vt ∧ vt.size = N) → (∀ j, j < N → St j (i + 1) h') → IsTupA h' s.heap.objs.size vs → h'.objs.size = s.heap.objs.size + 1 →
      (∀ c o, c ≠ z → c ≠ TO → (∀ j, j < N → c ≠ it j) → s.heap.get? c = some o → h'.get? c = some o) → Q (.ref s.heap.objs.size) { s with heap := h', toks := tk }) :
    wpAny (model prog w) A (Builtin.SmallTypes.nextOf (.ref z)) Q E s := by
  have hT : s.TypeIs (.ref z) "zip" := let ⟨_, _, q, _⟩ := hz; ⟨_, q, rfl⟩
  obtain ⟨vt, hTO, hv⟩ := hTO
  unfold Builtin.SmallTypes.nextOf
  exact wpAny_bind (wpAny_callSpecial?_slot (name := Str.ofString "__next__") hT F.slot_zip_next
    (wpAny_call_entry F.slot_zip_next hT F.entry_zip_next
      (zipN_next_item hN S D hz hTI hTO hv hs st hlt fun vs h' tk y1 y2 y3 y4 y5 y6 y7 y8 => wpAny_pure (hQ vs h' tk y1 y2 y3 y4 y5 y6 y7 y8)) (F.args_zip_next_1 _)))
theorem nextOf_zipN_end {Q : Value → Shared → Prop} (hN : 0 < N) (S : ZipSepN z TI TO N it fp) (D : ∀ k, k < N → Draws prog w A.in1 (it k) (fp k) n (P k) (St k))
    (hz : ZOk s.heap z TI TO) (hTI : IsTupA s.heap TI (refsN it N).toArray) (st : St 0 n s.heap)
    (hE : ∀ h' tk e, (∀ c o, c ≠ z → c ≠ TO → (∀ j, j < N → c ≠ it j) → s.heap.get? c = some o → h'.get? c = some o) → (∃ o, h'.get? e = some o ∧ o.cls = .type "StopIteration") → E (.ref e) { s with heap := h', toks := tk }) :
    wpAny (model prog w) A (Builtin.SmallTypes.nextOf (.ref z)) Q E s := by
  have hT : s.TypeIs (.ref z) "zip" := let ⟨_, _, q, _⟩ := hz; ⟨_, q, rfl⟩
  unfold Builtin.SmallTypes.nextOf
  exact wpAny_bind (wpAny_callSpecial?_slot (name := Str.ofString "__next__") hT F.slot_zip_next
    (wpAny_call_entry F.slot_zip_next hT F.entry_zip_next (zipN_next_end hN S D hz hTI st hE) (F.args_zip_next_1 _)))
/-- enumerate over such a zip -/
theorem enumZ_next_item {e : Addr} {c : Int} {old : Value} {Q : Value → Shared → Prop} (hN : 0 < N) (S : ZipSepN z TI TO N it fp) (D : ∀ k, k < N → Draws prog w A.in1 (it k) (fp k) n (P k) (St k))
    (he : IsEnum s.heap e z c old) (hz : ZOk s.heap z TI TO) (hTI : IsTupA s.heap TI (refsN it N).toArray) (hTO : ∃ vt, IsTupA s.heap TO vt ∧ vt.size = N) (hs : N ≤ sizeLine) (st : ∀ k, k < N → St k i s.heap) (hlt : i < n)
    (nez : e ≠ z) (neT : e ≠ TO) (nei : ∀ j, j < N → e ≠ it j) (nef : ∀ j, j < N → e ∉ fp j)
    (hQ : ∀ (vs : Array Value) h' tk, vs.size = N → (∀ j, j < N → ∃ x, vs[j]? = some x ∧ P j i x) → IsEnumOut h' e z (c + 1) (.ref s.heap.objs.size) (s.heap.objs.size + 1) → ZOk h' z TI TO → (∃ vt, IsTupA h' TO vt ∧ vt.size = N) → (∀ j, j < N → St j (i + 1) h') →
      IsTupA h' s.heap.objs.size vs → h'.get? (s.heap.objs.size + 1) = some { cls := .type "tuple", data := .seq #[.int c tk, .ref s.heap.objs.size] } → h'.objs.size = s.heap.objs.size + 2 →
      (∀ b o, b ≠ e → b ≠ z → b ≠ TO → (∀ j, j < N → b ≠ it j) → s.heap.get? b = some o → h'.get? b = some o) → Q (.ref (s.heap.objs.size + 1)) { s with heap := h', toks := tk + 1 }) :
    wpAny (model prog w) A (Builtin.«enumerate.__next__» ⟨[.ref e], []⟩) (fun fin s' => ∃ v, fin = .done (.ret v) ∧ Q v s') E s := by
  obtain ⟨hp, g, d, tk₀, os⟩ := s
  show wpAny _ _ (field (.ref e) 2 >>= _) _ _ _
  refine wpAny_bind (wpAny_field he rfl (x := .ref z) rfl ?_)
  refine wpAny_bind (nextOf_zipN_item hN S D hz hTI hTO hs st hlt fun vs h₁ tk hvn hvx hz₁ hTO₁ hst₁ hT₁ hsz₁ hk₁ => ?_)
  replace hT₁ : IsTupA h₁ hp.objs.size vs := hT₁
  replace hsz₁ : h₁.objs.size = hp.objs.size + 1 := hsz₁
  have he₁ : IsEnum h₁ e z c old := hk₁ _ _ nez neT nei he
  show wpAny _ _ (field (.ref e) 3 >>= _) _ _ ⟨h₁, g, d, tk, os⟩
  refine wpAny_bind (wpAny_field he₁ rfl (x := rawInt c) rfl ?_)
  show wpAny _ _ (field (.ref e) 4 >>= _) _ _ ⟨h₁, g, d, tk, os⟩
  refine wpAny_bind (wpAny_field he₁ rfl (x := .none) rfl ?_)
  show wpAny _ _ (mkInt c >>= _) _ _ ⟨h₁, g, d, tk, os⟩
  refine wpAny_bind (wpAny_mkInt ?_)
  show wpAny _ _ (setField (.ref e) 3 (rawInt (c + 1)) >>= _) _ _ ⟨h₁, g, d, tk + 1, os⟩
  refine wpAny_bind (wpAny_setField_rec he₁ (by simp) fun h₂ he₂ hs₂ => ?_)
  replace hs₂ : Heap.SameBut e h₁ h₂ := hs₂
  replace he₂ : IsEnum h₂ e z (c + 1) old := he₂
  show wpAny _ _ (setField (.ref e) 4 .none >>= _) _ _ ⟨h₂, g, d, tk + 1, os⟩
  refine wpAny_bind (wpAny_setField_rec he₂ (by simp) fun h₃ he₃ hs₃ => ?_)
  replace hs₃ : Heap.SameBut e h₂ h₃ := hs₃
  replace he₃ : IsEnum h₃ e z (c + 1) old := he₃
  show wpAny _ _ (newTuple [.int c tk, .ref hp.objs.size] >>= _) _ _ ⟨h₃, g, d, tk + 1, os⟩
  refine wpAny_bind (wpAny_newTuple ?_)
  have hsz : h₃.objs.size = hp.objs.size + 1 := by rw [hs₃.1, hs₂.1, hsz₁]
  have hel : e < hp.objs.size := Heap.lt_size he
  have up₃ : ∀ b o, b ≠ e → h₁.get? b = some o → (h₃.push { cls := .type "tuple", data := .seq #[.int c tk, .ref hp.objs.size] }).get? b = some o := fun b o hb q => Heap.get?_push_of_some _ (hs₃.extBut b o hb (hs₂.extBut b o hb q))
  have he₄ : IsEnum (h₃.push { cls := .type "tuple", data := .seq #[.int c tk, .ref hp.objs.size] }) e z (c + 1) old := Heap.get?_push_of_some _ he₃
  have ht₄ : (h₃.push { cls := .type "tuple", data := .seq #[.int c tk, .ref hp.objs.size] }).get? (hp.objs.size + 1) = some { cls := .type "tuple", data := .seq #[.int c tk, .ref hp.objs.size] } := by rw [← hsz]; exact Heap.get?_push_size _ rfl
  have hz₄ : (h₃.push { cls := .type "tuple", data := .seq #[.int c tk, .ref hp.objs.size] }).objs.size = hp.objs.size + 2 := by rw [Heap.size_push, hsz]
  generalize hh₄ : h₃.push { cls := .type "tuple", data := .seq #[.int c tk, .ref hp.objs.size] } = h₄ at he₄ ht₄ hz₄ up₃
  show wpAny _ _ (Builtin.SmallTypes.ownedTupleIsFree (.ref e) >>= _) _ _ ⟨h₄, g, d, tk + 1, os⟩
  refine wpAny_bind ?_
  unfold Builtin.SmallTypes.ownedTupleIsFree
  refine wpAny_bind (wpAny_field he₄ rfl (x := .none) rfl (wpAny_pure ?_))
  simp only [if_true]
  refine wpAny_bind (wpAny_rule ?_)
  refine wpAny_bind (wpAny_field he₄ rfl (x := old) rfl ?_)
  refine wpAny_bind (wpAny_setField_rec he₄ (by simp) fun h₅ he₅ hs₅ => ?_)
  replace hs₅ : Heap.SameBut e h₄ h₅ := hs₅
  replace he₅ : IsEnum h₅ e z (c + 1) (.ref hp.objs.size) := he₅
  show wpAny _ _ (Builtin.SmallTypes.ownedTupleHandOut (.ref e) (.ref h₃.objs.size) >>= _) _ _ ⟨h₅, g, d, tk + 1, os⟩
  rw [hsz]
  refine wpAny_bind ?_
  unfold Builtin.SmallTypes.ownedTupleHandOut
  refine wpAny_bind (wpAny_setField_rec he₅ (by simp) fun h₆ he₆ hs₆ => ?_)
  replace hs₆ : Heap.SameBut e h₅ h₆ := hs₆
  replace he₆ : IsEnumOut h₆ e z (c + 1) (.ref hp.objs.size) (hp.objs.size + 1) := he₆
  refine wpAny_setField_rec he₆ (by simp) fun h₇ he₇ hs₇ => ?_
  replace hs₇ : Heap.SameBut e h₆ h₇ := hs₇
  replace he₇ : IsEnumOut h₇ e z (c + 1) (.ref hp.objs.size) (hp.objs.size + 1) := he₇
  have up₇ : ∀ b o, b ≠ e → h₄.get? b = some o → h₇.get? b = some o := fun b o hb q => hs₇.extBut b o hb (hs₆.extBut b o hb (hs₅.extBut b o hb q))
  have up : ∀ b o, b ≠ e → h₁.get? b = some o → h₇.get? b = some o := fun b o hb q => up₇ b o hb (up₃ b o hb q)
  obtain ⟨f0, bb, hz1, hf0⟩ := hz₁
  obtain ⟨vt, hvt, hvn2⟩ := hTO₁
  refine wpAny_bind (wpAny_letGo (wpAny_pure ⟨_, rfl, ?_⟩))
  show Q (.ref (hp.objs.size + 1)) ⟨h₇, g, d, tk + 1, os⟩
  exact hQ vs h₇ tk hvn hvx he₇ ⟨f0, bb, up _ _ nez.symm hz1, hf0⟩ ⟨vt, up _ _ neT.symm hvt, hvn2⟩ (fun j hj => (D j hj).frame _ _ _ (hst₁ j hj) fun b hb o q => up b o (fun w => nef j hj (w ▸ hb)) q) (up _ _ (Nat.ne_of_gt hel) hT₁) (up₇ _ _ (Nat.ne_of_gt (Nat.lt_succ_of_lt hel)) ht₄) (by rw [hs₇.1, hs₆.1, hs₅.1, hz₄]) fun b o be bz bT bi q => up b o be (hk₁ b o bz bT bi q)
theorem enumZ_next_end {e : Addr} {c : Int} {old : Value} {Q : PySem.Fin → Shared → Prop} (hN : 0 < N) (S : ZipSepN z TI TO N it fp) (D : ∀ k, k < N → Draws prog w A.in1 (it k) (fp k) n (P k) (St k))
    (he : IsEnum s.heap e z c old) (hz : ZOk s.heap z TI TO) (hTI : IsTupA s.heap TI (refsN it N).toArray) (st : St 0 n s.heap)
    (hE : ∀ h' tk x, (∀ c o, c ≠ z → c ≠ TO → (∀ j, j < N → c ≠ it j) → s.heap.get? c = some o → h'.get? c = some o) → (∃ o, h'.get? x = some o ∧ o.cls = .type "StopIteration") → E (.ref x) { s with heap := h', toks := tk }) :
    wpAny (model prog w) A (Builtin.«enumerate.__next__» ⟨[.ref e], []⟩) Q E s := by
  obtain ⟨hp, g, d, tk₀, os⟩ := s
  show wpAny _ _ (field (.ref e) 2 >>= _) _ _ _
  refine wpAny_bind (wpAny_field he rfl (x := .ref z) rfl ?_)
  exact wpAny_bind (nextOf_zipN_end hN S D hz hTI st hE)
theorem pyNext_enumZ_item {e : Addr} {c : Int} {old : Value} {Q : Option Value → Shared → Prop} (hN : 0 < N) (S : ZipSepN z TI TO N it fp) (D : ∀ k, k < N → Draws prog w A.in1.in1 (it k) (fp k) n (P k) (St k))
    (he : IsEnum s.heap e z c old) (hz : ZOk s.heap z TI TO) (hTI : IsTupA s.heap TI (refsN it N).toArray) (hTO : ∃ vt, IsTupA s.heap TO vt ∧ vt.size = N) (hs : N ≤ sizeLine) (st : ∀ k, k < N → St k i s.heap) (hlt : i < n)
    (nez : e ≠ z) (neT : e ≠ TO) (nei : ∀ j, j < N → e ≠ it j) (nef : ∀ j, j < N → e ∉ fp j)
    (hQ : ∀ (vs : Array Value) h' tk, vs.size = N → (∀ j, j < N → ∃ x, vs[j]? = some x ∧ P j i x) → IsEnumOut h' e z (c + 1) (.ref s.heap.objs.size) (s.heap.objs.size + 1) → ZOk h' z TI TO → (∃ vt, IsTupA h' TO vt ∧ vt.size = N) → (∀ j, j < N → St j (i + 1) h') →
      IsTupA h' s.heap.objs.size vs → h'.get? (s.heap.objs.size + 1) = some { cls := .type "tuple", data := .seq #[.int c tk, .ref s.heap.objs.size] } → h'.objs.size = s.heap.objs.size + 2 →
      (∀ b o, b ≠ e → b ≠ z → b ≠ TO → (∀ j, j < N → b ≠ it j) → s.heap.get? b = some o → h'.get? b = some o) → Q (some (.ref (s.heap.objs.size + 1))) { s with heap := h', toks := tk + 1 }) :
    wpAny (model prog w) A (pyNext (.ref e)) Q E s := by
  have hT : s.TypeIs (.ref e) "enumerate" := ⟨_, he, rfl⟩
  unfold pyNext
  exact wpAny_bind (wpAny_attempt (wpAny_callSpecial?_slot (name := Str.ofString "__next__") hT F.slot_enumerate_next
    (wpAny_call_entry F.slot_enumerate_next hT F.entry_enumerate_next
      (enumZ_next_item hN S D he hz hTI hTO hs st hlt nez neT nei nef fun vs h' tk y1 y2 y3 y4 y5 y6 y7 y8 y9 y10 => wpAny_pure (hQ vs h' tk y1 y2 y3 y4 y5 y6 y7 y8 y9 y10)) (F.args_enumerate_next_1 _))))
theorem pyNext_enumZ_end {e : Addr} {c : Int} {old : Value} {Q : Option Value → Shared → Prop} (hN : 0 < N) (S : ZipSepN z TI TO N it fp) (D : ∀ k, k < N → Draws prog w A.in1.in1 (it k) (fp k) n (P k) (St k))
    (he : IsEnum s.heap e z c old) (hz : ZOk s.heap z TI TO) (hTI : IsTupA s.heap TI (refsN it N).toArray) (st : St 0 n s.heap)
    (hQ : ∀ h' tk, (∀ c o, c ≠ z → c ≠ TO → (∀ j, j < N → c ≠ it j) → s.heap.get? c = some o → h'.get? c = some o) → Q none { s with heap := h', toks := tk }) : wpAny (model prog w) A (pyNext (.ref e)) Q E s := by
  have hT : s.TypeIs (.ref e) "enumerate" := ⟨_, he, rfl⟩
  unfold pyNext
  refine wpAny_bind (wpAny_attempt (wpAny_callSpecial?_slot (name := Str.ofString "__next__") hT F.slot_enumerate_next
    (wpAny_call_entry F.slot_enumerate_next hT F.entry_enumerate_next (enumZ_next_end hN S D he hz hTI st fun h' tk x hk hx => ?_) (F.args_enumerate_next_1 _))))
  obtain ⟨o, ho, hc⟩ := hx
  refine wpAny_bind (wpAny_isInstance (T := "StopIteration") (b := true) ⟨o, ho, hc⟩ isSubtype_stop ?_)
  exact wpAny_pure (hQ _ _ hk)
end
/-- the iterators go on, and two new objects are laid -/
theorem turnedNew2 {X : Cx} {pins : List (Addr × Obj)} {σ : L2.St} {H : Hp} {s : Shared} {h' : Heap} {t' : Nat} {ch : List Addr} {T1 T2 : Addr} {o1 o2 : HO} (I : Inv X pins σ H s) (k : ∀ b o, b ∉ ch → s.heap.get? b = some o → h'.get? b = some o) (hf : ∀ b ∈ ch, FpOk X pins H b)
    (h1 : s.heap.objs.size ≤ T1) (h2 : s.heap.objs.size ≤ T2) (h12 : T1 ≠ T2) (new1 : ObjOk X.prog X.w (upd (upd H T1 o1) T2 o2) h' T1 o1) (new2 : ObjOk X.prog X.w (upd (upd H T1 o1) T2 o2) h' T2 o2) : Inv X pins σ (upd (upd H T1 o1) T2 o2) { s with heap := h', toks := t' } := by
  have n1 : H T1 = none := I.hok.fresh h1
  have n2 : H T2 = none := I.hok.fresh h2
  have up : ∀ {b u}, H b = some u → (upd (upd H T1 o1) T2 o2) b = some u := fun {b u} e => by rw [upd_ne (ne_of_none e n2), upd_ne (ne_of_none e n1)]; exact e
  have nit : ∀ b u, H b = some u → b ∉ ch := fun b u e z => by
    have q := (hf b z).1
    rw [q] at e; cases e
  refine I.step (g' := s.gens) (d' := s.drawn) (ch := ch) (fun b hb => ⟨(hf b hb).2.2.2.1, (hf b hb).2.1, (hf b hb).2.2.2.2.1, (hf b hb).2.2.2.2.2⟩) (fun b o _ _ hc e _ => k b o hc e) (fun b o _ _ hc e _ => ⟨o.slots, k b o hc e⟩)
    (fun b o _ e n => ?_) (fun b o hc e => ⟨o, k b o hc e⟩) (fun b xs e => up e) (fun b o u e => up e) (fun b ps e => ⟨#[], ?_⟩) (fun m hm => ?_) (fun b u e => ?_) I.bare
  · rw [upd_ne (Nat.ne_of_lt (Nat.lt_of_lt_of_le (Heap.lt_size e) h2)), upd_ne (Nat.ne_of_lt (Nat.lt_of_lt_of_le (Heap.lt_size e) h1))]; exact n
  · rw [up e]; simp
  · obtain ⟨o, es, ep, ho, r⟩ := hm
    exact ⟨o, es, ep, k _ o (fun z => (hf _ z).2.1 rfl) ho, r⟩
  · by_cases hb : b = T2
    · subst hb
      rw [upd_same] at e
      cases e
      exact new2
    · rw [upd_ne hb] at e
      by_cases hb1 : b = T1
      · subst hb1
        rw [upd_same] at e
        cases e
        exact new1
      · rw [upd_ne hb1] at e
        refine (I.hok b u e).stay (fun c v hc q => k c v ?_ q) (fun c q => up q) fun c xs q => up q
        rcases hc with z | z
        · rw [z]; exact nit b u e
        · exact nit c _ z
theorem paired_of {α β : Type} {R : α → β → Prop} : ∀ {xs : List α} {us : List β}, xs.length = us.length → (∀ (i : Nat) (x : α) (u : β), xs[i]? = some x → us[i]? = some u → R x u) → Paired R xs us
  | [], [], _, _ => .nil
  | x :: xs, u :: us, hl, h => .cons (h 0 x u rfl rfl) (paired_of (Nat.succ.inj hl) fun i y v e1 e2 => h (i + 1) y v e1 e2)
  | [], _ :: _, hl, _ => nomatch hl
  | _ :: _, [], hl, _ => nomatch hl
/-- N lists of n items, the i-th ones in a tuple, with i in a pair -/
def Iez (K : PySem.W.Frag) (N n : Nat) (a : Nat → Addr) : It :=
  ⟨fun i H => i < n ∧ ∀ k, k < N → ∃ xs, SqL K H (a k) xs ∧ xs.length = n,
   fun i H v H' => ∃ T1 T2 ys, v = .ref T2 ∧ H T1 = none ∧ H T2 = none ∧ T1 ≠ T2 ∧ H' = upd (upd H T1 (.tup ys)) T2 (.tup [.int (i : Nat), .ref T1]) ∧ ys.length = N ∧ ∀ k, k < N → ∀ xs, SqL K H (a k) xs → ys[k]? = xs[i]?,
   fun i H => i = n ∧ ∀ k, k < N → ∃ xs, SqL K H (a k) xs ∧ xs.length = n⟩
structure ZState (z TI TO e : Addr) (N : Nat) (it a : Nat → Addr) (i : Nat) (h : Heap) : Prop where
  en : ∃ old, IsEnum h e z ((i : Nat) : Int) old
  zo : ZOk h z TI TO
  ti : IsTupA h TI (refsN it N).toArray
  to : ∃ vt, IsTupA h TO vt ∧ vt.size = N
  its : ∀ k, k < N → h.IsListIter (it k) (a k) i
/-- the lists of such a zip -/
theorem lists_of {X : Cx} {pins : List (Addr × Obj)} {σ : L2.St} {H : Hp} {s : Shared} {N n : Nat} {a : Nat → Addr} (I : Inv X pins σ H s) (h : ∀ k, k < N → ∃ xs, SqL X.K H (a k) xs ∧ xs.length = n) :
    ∃ (items : Nat → Array Value) (xss : Nat → List V), ∀ k, k < N → SqL X.K H (a k) (xss k) ∧ (xss k).length = n ∧ Vals (xss k) (items k).toList ∧ s.heap.IsList (a k) (items k) ∧ (items k).size = n := by
  have h1 : ∀ k, ∃ (p : Array Value × List V), k < N → SqL X.K H (a k) p.2 ∧ p.2.length = n ∧ Vals p.2 p.1.toList ∧ s.heap.IsList (a k) p.1 ∧ p.1.size = n := fun k => by
    by_cases hk : k < N
    · obtain ⟨xs, hx, hn⟩ := h k hk
      obtain ⟨its, r, pl, hz⟩ := I.list hx
      refine ⟨(its.toArray, xs), fun _ => ⟨hx, hn, by simpa using r, pl.isList, ?_⟩⟩
      have := r.length
      simp only [List.size_toArray]
      omega
    · exact ⟨(#[], []), fun q => absurd q hk⟩
  exact ⟨fun k => (Classical.choose (h1 k)).1, fun k => (Classical.choose (h1 k)).2, fun k hk => Classical.choose_spec (h1 k) hk⟩
theorem turn_enumZ {P : Program} {w : World} {K : PySem.W.Frag} {elts : List Expr} {kk : Nat} {tpos : Pos} {z TI TO e : Addr} {N n : Nat} {it a : Nat → Addr} (hN : 0 < N) (hs : N ≤ sizeLine) (S : ZipSepN z TI TO N it fun k => [it k, a k])
    (nez : e ≠ z) (neT : e ≠ TO) (neI : e ≠ TI) (nei : ∀ j, j < N → e ≠ it j) (nea : ∀ j, j < N → e ≠ a j) (nai : ∀ j, j < N → a j ≠ it j) :
    Turn P w K (.Tuple elts kk tpos) (Iez K N n a) (e :: z :: TO :: TI :: (List.range N).map it) e (fun i h => ZState z TI TO e N it a i h) where
  mem := by simp
  obj := fun i h st b hb => by
    obtain ⟨⟨old, he⟩, ⟨f0, bb, hz, _⟩, hti, ⟨vt, hto, _⟩, hit⟩ := st
    rcases List.mem_cons.mp hb with rfl | hb
    · exact ⟨_, he, fun v q => nomatch q⟩
    · rcases List.mem_cons.mp hb with rfl | hb
      · exact ⟨_, hz, fun v q => nomatch q⟩
      · rcases List.mem_cons.mp hb with rfl | hb
        · exact ⟨_, hto, fun v q => nomatch q⟩
        · rcases List.mem_cons.mp hb with rfl | hb
          · exact ⟨_, hti, fun v q => nomatch q⟩
          · obtain ⟨k, hk, rfl⟩ := List.mem_map.mp hb
            obtain ⟨o, ho, hc, hd⟩ := hit k (List.mem_range.mp hk)
            exact ⟨o, ho, fun v q => by rw [hd] at q; cases q⟩
  keep := fun i h h' st k => by
    obtain ⟨⟨old, he⟩, ⟨f0, bb, hz, hf0⟩, hti, ⟨vt, hto, hv⟩, hit⟩ := st
    exact ⟨⟨old, k e (by simp) _ he⟩, ⟨f0, bb, k z (by simp) _ hz, hf0⟩, k TI (by simp) _ hti, ⟨vt, k TO (by simp) _ hto, hv⟩, fun j hj => (hit j hj).at fun o q => k (it j) (by simp [hj]; exact .inr (.inr (.inr (.inr ⟨j, hj, rfl⟩)))) o q⟩
  item := by
    intro X hP hw hK hc i pins s σ H E I hf st hg
    subst hP hw hK
    obtain ⟨hlt, hls⟩ := hg
    obtain ⟨items, xss, hL⟩ := lists_of I hls
    obtain ⟨⟨old, he⟩, hz, hti, hto, hit⟩ := st
    have D : ∀ k, k < N → Draws X.prog X.w X.A.in1.in1 (it k) [it k, a k] n (fun i v => (items k)[i]? = some v) (fun i h => h.IsListIter (it k) (a k) i ∧ h.IsList (a k) (items k)) := fun k hk => by
      have q := Draws.list (prog := X.prog) (w := X.w) (A := X.A.in1.in1) (by simp [I.ok.hd hc]) (it k) (a k) (nai k hk) (items k)
      rw [(hL k hk).2.2.2.2] at q
      exact q
    have hel : e < s.heap.objs.size := Heap.lt_size he
    refine pyNext_enumZ_item hN S D he hz hti hto hs (fun k hk => ⟨hit k hk, (hL k hk).2.2.2.1⟩) hlt nez neT nei (fun j hj q => ?_) fun vs h' tk hvn hvx ho hz' hto' hst' hT1 hT2 hsz hk => ?_
    · rcases List.mem_cons.mp q with q | q
      · exact nei j hj q
      · exact nea j hj (List.mem_singleton.mp q)
    refine ⟨_, rfl, wpAny_letOwnedTupleGo_enum (s := { s with heap := h', toks := tk + 1 }) ho fun h'' he' sb => ?_⟩
    have hlive : ∀ b ∈ e :: z :: TO :: TI :: (List.range N).map it, b < s.heap.objs.size := fun b hb => by
      rcases List.mem_cons.mp hb with rfl | hb
      · exact hel
      · rcases List.mem_cons.mp hb with rfl | hb
        · obtain ⟨_, _, q, _⟩ := hz
          exact Heap.lt_size q
        · rcases List.mem_cons.mp hb with rfl | hb
          · obtain ⟨_, q, _⟩ := hto
            exact Heap.lt_size q
          · rcases List.mem_cons.mp hb with rfl | hb
            · exact Heap.lt_size hti
            · obtain ⟨k, hk, rfl⟩ := List.mem_map.mp hb
              obtain ⟨o, q, _⟩ := hit k (List.mem_range.mp hk)
              exact Heap.lt_size q
    have sb2 : ∀ c, c ≠ e → h''.get? c = h'.get? c := fun c hc => sb.2 c hc
    have hT1' : IsTupA h'' s.heap.objs.size vs := (sb2 _ (Nat.ne_of_gt hel)).trans hT1
    have hT2' : h''.get? (s.heap.objs.size + 1) = some { cls := .type "tuple", data := .seq #[.int i tk, .ref s.heap.objs.size] } := (sb2 _ (Nat.ne_of_gt (Nat.lt_succ_of_lt hel))).trans hT2
    obtain ⟨ys, hys⟩ : ∃ ys : List V, ys = (List.range N).map fun k => (xss k).getD i .non := ⟨_, rfl⟩
    have hyl : ys.length = N := by rw [hys, List.length_map, List.length_range]
    have hyk : ∀ k, k < N → ys[k]? = (xss k)[i]? := fun k hk => by
      rw [hys, List.getElem?_map, List.getElem?_range hk]
      have hl : i < (xss k).length := by rw [(hL k hk).2.1]; exact hlt
      show some ((xss k).getD i .non) = _
      rw [List.getD_eq_getElem?_getD, List.getElem?_eq_getElem hl]
      rfl
    have hvals : Vals ys vs.toList := paired_of (by rw [hyl, Array.length_toList, hvn]) fun k y u e1 e2 => by
      have hkN : k < N := by
        rw [← hyl]
        exact (List.getElem?_eq_some_iff.mp e1).1
      rw [hyk k hkN] at e1
      obtain ⟨u', hu', ru⟩ := Vals.get (hL k hkN).2.2.1 e1
      obtain ⟨x, hx, hxi⟩ := hvx k hkN
      rw [Array.getElem?_toList] at e2 hu'
      rw [hx] at e2
      rw [hxi] at hu'
      rw [← Option.some.inj e2, Option.some.inj hu']
      exact ru
    have new1 : ObjOk X.prog X.w (upd (upd H s.heap.objs.size (.tup ys)) (s.heap.objs.size + 1) (.tup [.int (i : Nat), .ref s.heap.objs.size])) h'' s.heap.objs.size (.tup ys) :=
      ⟨by rw [hyl]; exact hs, vs.toList, hvals, ⟨_, hT1', rfl, _, rfl⟩⟩
    have new2 : ObjOk X.prog X.w (upd (upd H s.heap.objs.size (.tup ys)) (s.heap.objs.size + 1) (.tup [.int (i : Nat), .ref s.heap.objs.size])) h'' (s.heap.objs.size + 1) (.tup [.int (i : Nat), .ref s.heap.objs.size]) :=
      ⟨by show 2 ≤ sizeLine; decide, [.int i tk, .ref s.heap.objs.size], .cons ⟨_, rfl⟩ (.cons rfl .nil), ⟨_, hT2', rfl, _, rfl⟩⟩
    have I1 : Inv X pins σ (upd (upd H s.heap.objs.size (.tup ys)) (s.heap.objs.size + 1) (.tup [.int (i : Nat), .ref s.heap.objs.size])) { s with heap := h'', toks := tk + 1 } :=
      turnedNew2 I (ch := e :: z :: TO :: TI :: (List.range N).map it) (fun b o hb q => by
        simp only [List.mem_cons, List.mem_map, List.mem_range, not_or, not_exists, not_and] at hb
        exact (sb2 b hb.1).trans (hk b o hb.1 hb.2.1 hb.2.2.1 (fun j hj w => hb.2.2.2.2 j hj w.symm) q)) hf (Nat.le_refl _) (Nat.le_succ _) (Nat.ne_of_lt (Nat.lt_succ_self _)) new1 new2
    refine ⟨.ref (s.heap.objs.size + 1), _, I1, rfl, ⟨s.heap.objs.size, s.heap.objs.size + 1, ys, rfl, I.hok.fresh (Nat.le_refl _), I.hok.fresh (Nat.le_succ _), Nat.ne_of_lt (Nat.lt_succ_self _), rfl, hyl, fun k hk xs hx => ?_⟩, ⟨⟨.ref s.heap.objs.size, ?_⟩, ?_, ?_, ?_, fun j hj => ?_⟩, fun b hb => ?_⟩
    · rw [hyk k hk, I.list_inj (hL k hk).1 hx]
    · rw [show ((i + 1 : Nat) : Int) = (i : Int) + 1 by omega]
      exact he'
    · obtain ⟨f0, bb, q, hf0⟩ := hz'
      exact ⟨f0, bb, (sb2 _ nez.symm).trans q, hf0⟩
    · exact (sb2 _ neI.symm).trans (hk _ _ neI.symm S.TIz S.TITO S.TIi hti)
    · obtain ⟨vt, q, hv⟩ := hto'
      exact ⟨vt, (sb2 _ neT.symm).trans q, hv⟩
    · exact (hst' j hj).1.at fun o q => (sb2 _ (Ne.symm (nei j hj))).trans q
    · have hb' := hlive b hb
      rw [upd_ne (Nat.ne_of_lt (Nat.lt_succ_of_lt hb')), upd_ne (Nat.ne_of_lt hb')]
      exact (hf b hb).1
  done := by
    intro X hP hw hK hc i pins s σ H E I hf st hg
    subst hP hw hK
    obtain ⟨rfl, hls⟩ := hg
    obtain ⟨items, xss, hL⟩ := lists_of I hls
    obtain ⟨⟨old, he⟩, hz, hti, hto, hit⟩ := st
    have D : ∀ k, k < N → Draws X.prog X.w X.A.in1.in1 (it k) [it k, a k] i (fun i v => (items k)[i]? = some v) (fun i h => h.IsListIter (it k) (a k) i ∧ h.IsList (a k) (items k)) := fun k hk => by
      have q := Draws.list (prog := X.prog) (w := X.w) (A := X.A.in1.in1) (by simp [I.ok.hd hc]) (it k) (a k) (nai k hk) (items k)
      rw [(hL k hk).2.2.2.2] at q
      exact q
    refine pyNext_enumZ_end hN S D he hz hti ⟨hit 0 hN, (hL 0 hN).2.2.2.1⟩ fun h' tk hk => ⟨rfl, I.turnedL (ch := e :: z :: TO :: TI :: (List.range N).map it) (fun b o hb q => ?_) hf⟩
    simp only [List.mem_cons, List.mem_map, List.mem_range, not_or, not_exists, not_and] at hb
    exact hk b o hb.2.1 hb.2.2.1 (fun j hj q => hb.2.2.2.2 j hj q.symm) q
  self := fun A i s Q E h0 h => let ⟨_, he⟩ := ZState.en h0; wpAny_pyIter_enum he h
end Sd

namespace Sd
open PySem PySem.Spec PyProof.Rows L2
/-! ### zip(*lists) begins -/
theorem newClass_zip (xs : List Value) : Builtin.SmallTypes.newClass "zip" ⟨.type "zip" :: xs, []⟩ = pure (.type "zip", xs) := by
  have h := sub_zip
  unfold Builtin.SmallTypes.newClass
  simp only [isType, h, pure_bind, Bool.not_true, Bool.false_eq_true, if_false]
theorem newCall_zipN (x : Value) (xs : List Value) : checkBuiltinCall "zip.__new__" ⟨.type "zip" :: x :: xs, []⟩ = pure () := by
  have h2 := F.newCall_zip_2 .none .none
  unfold checkBuiltinCall at h2 ⊢
  exact h2
section
variable {prog : Program} {w : World} {A : Around} {E : Value → Shared → Prop}
def itersAt (b N : Nat) : List Value := (List.range N).map fun j => .ref (b + j)
theorem iter_loop : ∀ (l : List Addr) (acc : Array Value) (s : Shared) (Q : Array Value → Shared → Prop), (∀ a ∈ l, ∃ items, s.heap.IsList a items) →
    (∀ h', h'.objs.size = s.heap.objs.size + l.length → (∀ (j : Nat) a, l[j]? = some a → h'.get? (s.heap.objs.size + j) = some { cls := .type "list_iterator", data := .fields #[.ref a, .int 0 0] }) →
      (∀ c o, s.heap.get? c = some o → h'.get? c = some o) → Q (acc ++ (itersAt s.heap.objs.size l.length).toArray) { s with heap := h' }) →
    wpAny (model prog w) A (forIn (l.map Value.ref) acc fun x its => do
      let v ← holding its.toList (pyIter x)
      pure (ForInStep.yield (its.push v))) Q E s
  | [], acc, s, Q, hl, hQ => by
    have h := hQ s.heap rfl (fun j a e => by simp at e) fun c o e => e
    simp only [List.map_nil, List.forIn_nil]
    refine wpAny_pure ?_
    simpa [itersAt] using h
  | a :: l, acc, s, Q, hl, hQ => by
    simp only [List.map_cons, List.forIn_cons]
    obtain ⟨items, ha⟩ := hl a (by simp)
    refine wpAny_bind (wpAny_bind (wpAny_holding (wpAny_pyIter_list ha ?_)))
    refine wpAny_pure ?_
    refine iter_loop l _ _ Q (fun b hb => ?_) fun h' hz hg hk => ?_
    · obtain ⟨it, hx⟩ := hl b (by simp [hb])
      exact ⟨it, hx.at fun o e => Heap.get?_push_of_some _ e⟩
    · have z1 : (s.heap.push { cls := .type "list_iterator", data := .fields #[.ref a, .int 0 0] }).objs.size = s.heap.objs.size + 1 := by rw [Heap.size_push]
      have h := hQ h' (by rw [hz]; show (s.heap.push _).objs.size + _ = _; rw [z1, List.length_cons]; omega) (fun j b e => ?_) fun c o e => hk c o (Heap.get?_push_of_some _ e)
      · have e : (acc.push (Value.ref s.heap.objs.size)) ++ (itersAt (s.heap.push { cls := .type "list_iterator", data := .fields #[.ref a, .int 0 0] }).objs.size l.length).toArray = acc ++ (itersAt s.heap.objs.size (a :: l).length).toArray := by
          apply Array.ext'
          rw [z1, itersAt, itersAt, List.length_cons, List.range_succ_eq_map]
          simp only [List.map_cons, List.map_map, Array.toList_append, Array.toList_push, List.append_assoc, List.singleton_append, Nat.add_zero, List.cons.injEq, List.append_cancel_left_eq, true_and]
          apply List.map_congr_left
          intro x _
          show Value.ref _ = Value.ref _
          rw [show s.heap.objs.size + 1 + x = s.heap.objs.size + x.succ by omega]
        have h2 := h
        rw [← e] at h2
        exact h2
      · rcases j with _ | j
        · have e' : a = b := by simpa using e
          subst e'
          exact hk _ _ (Heap.get?_push_size _ rfl)
        · have := hg j b (by simpa using e)
          have e2 : (s.heap.push { cls := .type "list_iterator", data := .fields #[.ref a, .int 0 0] }).objs.size + j = s.heap.objs.size + (j + 1) := by rw [z1]; omega
          rw [← e2]
          exact this
theorem iterAll_lists {l : List Addr} {s : Shared} {Q : List Value → Shared → Prop} (hl : ∀ a ∈ l, ∃ items, s.heap.IsList a items)
    (hQ : ∀ h', h'.objs.size = s.heap.objs.size + l.length → (∀ (j : Nat) a, l[j]? = some a → h'.get? (s.heap.objs.size + j) = some { cls := .type "list_iterator", data := .fields #[.ref a, .int 0 0] }) →
      (∀ c o, s.heap.get? c = some o → h'.get? c = some o) → Q (itersAt s.heap.objs.size l.length) { s with heap := h' }) :
    wpAny (model prog w) A (Builtin.SmallTypes.iterAll (l.map Value.ref)) Q E s := by
  unfold Builtin.SmallTypes.iterAll
  refine wpAny_bind (iter_loop l #[] s _ hl fun h' a b c => wpAny_pure ?_)
  simpa using hQ h' a b c
abbrev itO (a : Addr) : Obj := { cls := .type "list_iterator", data := .fields #[.ref a, .int 0 0] }
theorem meets_zipN {a0 : Addr} {l : List Addr} (hsz : (a0 :: l).length ≤ sizeLine) :
    Meets (Builtin.«zip.__new__» ⟨.type "zip" :: Value.ref a0 :: l.map Value.ref, []⟩) (fun _ R s => (∀ a ∈ a0 :: l, ∃ items, s.heap.IsList a items) ∧
      ∀ h', h'.objs.size = s.heap.objs.size + (a0 :: l).length + 3 → (∀ (j : Nat) a, (a0 :: l)[j]? = some a → h'.get? (s.heap.objs.size + j) = some (itO a)) →
        IsTupA h' (s.heap.objs.size + (a0 :: l).length) (itersAt s.heap.objs.size (a0 :: l).length).toArray → (∃ vt, IsTupA h' (s.heap.objs.size + (a0 :: l).length + 1) vt ∧ vt.size = (a0 :: l).length) →
        IsZipB h' (s.heap.objs.size + (a0 :: l).length + 2) (s.heap.objs.size + (a0 :: l).length) (s.heap.objs.size + (a0 :: l).length + 1) .none (.bool false) →
        (∀ c o, s.heap.get? c = some o → h'.get? c = some o) →
        R (.ok (.ret (.ref (s.heap.objs.size + (a0 :: l).length + 2)))) { s with heap := h' }) :=
  .of_wp fun prog w A R s h => by
    obtain ⟨hl, h⟩ := h
    unfold Builtin.«zip.__new__»
    refine wpAny_bind (wpAny_of_eq (newClass_zip _) ?_)
    try dsimp only
    show wpAny _ _ (Builtin.SmallTypes.iterAll ((a0 :: l).map Value.ref) >>= _) _ _ _
    refine wpAny_bind (iterAll_lists hl fun h1 z1 g1 k1 => ?_)
    have hlen : (itersAt s.heap.objs.size (a0 :: l).length).length = (a0 :: l).length := by simp [itersAt]
    refine wpAny_bind (wpAny_newTuple ?_ (by rw [hlen]; exact hsz))
    refine wpAny_bind (wpAny_newTuple ?_ (by rw [List.length_map, hlen]; exact hsz))
    show wpAny _ _ (newObj (.type "zip") (.fields #[.none, .bool false, .bool false, .ref _, .ref _]) >>= _) _ _ _
    refine wpAny_bind (wpAny_newObj_type ?_)
    refine wpAny_pure ⟨_, rfl, ?_⟩
    have w1 := Heap.size_push h1 { cls := .type "tuple", data := .seq (itersAt s.heap.objs.size (a0 :: l).length).toArray }
    have w2 := Heap.size_push (h1.push { cls := .type "tuple", data := .seq (itersAt s.heap.objs.size (a0 :: l).length).toArray }) { cls := .type "tuple", data := .seq ((itersAt s.heap.objs.size (a0 :: l).length).map fun _ => Value.none).toArray }
    rw [w1] at w2
    have w3 : ((h1.push { cls := .type "tuple", data := .seq (itersAt s.heap.objs.size (a0 :: l).length).toArray }).push { cls := .type "tuple", data := .seq ((itersAt s.heap.objs.size (a0 :: l).length).map fun _ => Value.none).toArray }).objs.size = h1.objs.size + 2 := w2
    have h := h (((h1.push { cls := .type "tuple", data := .seq (itersAt s.heap.objs.size (a0 :: l).length).toArray }).push { cls := .type "tuple", data := .seq ((itersAt s.heap.objs.size (a0 :: l).length).map fun _ => Value.none).toArray }).push
      { cls := .type "zip", data := .fields #[.none, .bool false, .bool false, .ref h1.objs.size, .ref (h1.push { cls := .type "tuple", data := .seq (itersAt s.heap.objs.size (a0 :: l).length).toArray }).objs.size] })
      (by rw [Heap.size_push, w3, z1]) (fun j a e => Heap.get?_push_of_some _ (Heap.get?_push_of_some _ (Heap.get?_push_of_some _ (g1 j a e)))) (by rw [← z1]; exact Heap.get?_push_of_some _ (Heap.get?_push_of_some _ (Heap.get?_push_size _ rfl)))
      ⟨((itersAt s.heap.objs.size (a0 :: l).length).map fun _ => Value.none).toArray, by rw [← z1, ← w1]; exact Heap.get?_push_of_some _ (Heap.get?_push_size _ rfl), by rw [List.size_toArray, List.length_map, hlen]⟩
      (by rw [← z1, ← w3, ← w1]; exact Heap.get?_push_size _ rfl)
      (fun c o e => Heap.get?_push_of_some _ (Heap.get?_push_of_some _ (Heap.get?_push_of_some _ (k1 c o e))))
    rw [← z1, ← w3] at h
    exact h
/-- zip(*lists), one or more -/
theorem zipN_begins {l : List Addr} {s : Shared} {Q : Value → Shared → Prop} (h0 : 0 < l.length) (hsz : l.length ≤ sizeLine) (hl : ∀ a ∈ l, ∃ items, s.heap.IsList a items)
    (hQ : ∀ h', h'.objs.size = s.heap.objs.size + l.length + 3 → (∀ (j : Nat) a, l[j]? = some a → h'.get? (s.heap.objs.size + j) = some (itO a)) →
        IsTupA h' (s.heap.objs.size + l.length) (itersAt s.heap.objs.size l.length).toArray → (∃ vt, IsTupA h' (s.heap.objs.size + l.length + 1) vt ∧ vt.size = l.length) →
        IsZipB h' (s.heap.objs.size + l.length + 2) (s.heap.objs.size + l.length) (s.heap.objs.size + l.length + 1) .none (.bool false) →
        (∀ c o, s.heap.get? c = some o → h'.get? c = some o) → Q (.ref (s.heap.objs.size + l.length + 2)) { s with heap := h' }) :
    wpAny (model prog w) A (call (.type "zip") (l.map Value.ref)) Q E s := by
  cases l with
  | nil => exact absurd h0 (Nat.lt_irrefl 0)
  | cons a0 l =>
    refine callType_new F.called_zip (by decide) (by kernel_rfl) (newCall_zipN _ _) (fun obj => by kernel_rfl) F.entry_zip_new (meets_zipN hsz) ⟨hl, fun h' z g t o zz k => ?_⟩
    exact ⟨⟨_, zz, rfl⟩, hQ h' z g t o zz k⟩
end
end Sd

namespace Sd
open PySem PySem.Spec PyProof.Rows L2
/-! ### enumerate(zip(*lists)) begins -/
theorem meets_enumZ {z TI TO : Addr} {f0 b : Value} :
    Meets (Builtin.«enumerate.__new__» ⟨[.type "enumerate", .ref z], []⟩) (fun _ R s => IsZipB s.heap z TI TO f0 b ∧
      R (.ok (.ret (.ref s.heap.objs.size))) { s with heap := s.heap.push { cls := .type "enumerate", data := .fields #[.none, .bool false, .ref z, rawInt 0, .none, .none] } }) :=
  .of_wp fun prog w A R s h => by
    obtain ⟨hp, g, d, tk, os⟩ := s; obtain ⟨h1, h⟩ := h
    have hsub := sub_enumerate
    have go : ∀ {A' : Around} {E : Value → Shared → Prop} {Q : Value → Shared → Prop}, Q (.ref z) ⟨hp, g, d, tk, os⟩ → wpAny (model prog w) A' (pyIter (.ref z)) Q E ⟨hp, g, d, tk, os⟩ :=
      fun q => wpAny_pyIter_slot (s := ⟨hp, g, d, tk, os⟩) ⟨_, h1, rfl⟩ F.slot_zip_iter (wpAny_call_entry F.slot_zip_iter ⟨_, h1, rfl⟩ F.entry_zip_iter (by
        show wpAny _ _ (ret (.ref z)) _ _ _
        exact wpAny_pure ⟨_, rfl, "zip", _, ⟨_, h1, rfl⟩, F.slot_zip_next.lookup, q⟩) (F.args_zip_iter_1 _))
    wp_walk using go
    refine wpAny_stack_any fun st => wpAny_pure ?_
    split
    · rename_i c _ _ _ _ _
      cases (c == Value.type "enumerate") <;>
      · wp_walk using go
        exact ⟨_, rfl, h⟩
    · wp_walk using go
      exact ⟨_, rfl, h⟩
section
variable {P : Program} {w : World} {A : Around} {E : Value → Shared → Prop} {s : Shared}
theorem enumZ_begins {z TI TO : Addr} {f0 b : Value} {Q : Value → Shared → Prop} (hz : IsZipB s.heap z TI TO f0 b)
    (h : ∀ h', IsEnum h' s.heap.objs.size z 0 .none → (∀ b u, s.heap.get? b = some u → h'.get? b = some u) → Q (.ref s.heap.objs.size) { s with heap := h' }) :
    wpAny (model P w) A (call (.type "enumerate") [.ref z]) Q E s := by
  refine callType_new F.called_enumerate (by decide) (F.typeCall_enumerate_1 _) (F.newCall_enumerate_1 _) (fun obj => F.args_object_init_2 obj _) F.entry_enumerate_new meets_enumZ ⟨hz, ?_⟩
  have he : IsEnum (s.heap.push { cls := .type "enumerate", data := .fields #[.none, .bool false, .ref z, rawInt 0, .none, .none] }) s.heap.objs.size z 0 .none := Heap.get?_push_size s.heap rfl
  exact ⟨⟨_, he, rfl⟩, h _ he fun b u x => Heap.get?_push_of_some _ x⟩
end
section
variable {M : Model} {A : Around} {E : Value → Shared → Prop} {s : Shared} {env : Env} {pos p : Pos} {e : Expr} {T : String} {Q : Value → Shared → Prop}
/-- T(*e), T a type of the machine -/
theorem callWith_typeS (h : wpAny M A (eval e env) (fun v s₁ => PySem.W.StarOf M A E v (fun vs s₂ => wpAny M A (call (.type T) vs) Q E s₂) s₁) E s)
    (he : starEach [.Starred e p] env = [(true, eval e env)] := by rfl) :
    wpAny M A (callWith pos (.type T) [] (backTo pos (starEach [.Starred e p] env)) []) Q E s := by
  rw [he]
  unfold callWith
  refine wpAny_bind (wpAny_holding (wpAny_mono (PySem.W.ks_lone (Q := fun a s₂ => wpAny M A (call (.type T) a.pos a.kw) Q E s₂) h) (fun a s₁ h₁ => wpAny_bind (wpAny_standAt ?_)) fun _ _ x => x))
  refine wpAny_bind (wpAny_pure ?_)
  exact wpAny_bind (wpAny_mono (wpAny_operate' h₁) (fun r s₂ hr => wpAny_bind (wpAny_holding (wpAny_point (wpAny_pure hr)))) fun _ _ x => x)
end
end Sd

namespace Sd
open PySem PySem.Spec PyProof.Rows L2
theorem vals_refs : ∀ {l : List Addr} {us : List Value}, Vals (l.map V.ref) us → us = l.map Value.ref
  | [], _, .nil => rfl
  | a :: l, _, .cons (b := u) r h => by
    obtain rfl : u = Value.ref a := r
    rw [vals_refs h]
    rfl
theorem nne {a b : Nat} (h : a < b ∨ b < a) : a ≠ b := by omega
/-- a list L of lists, one or more, each of n items -/
def ListsOf (K : PySem.W.Frag) (H : Hp) (L : Addr) (as : List Addr) (n : Nat) : Prop :=
  SqL K H L (as.map V.ref) ∧ 0 < as.length ∧ ∀ a ∈ as, ∃ xs, SqL K H a xs ∧ xs.length = n
def iEnumZ (K : PySem.W.Frag) (te : TE) : TI := fun σ H R => te σ H fun x H1 => ∃ L n as, x = .ref L ∧ ListsOf K H1 L as n ∧ R (Iez K as.length n fun k => as.getD k 0) H1
theorem pi_enumZ {X : Cx} {e : Expr} {te : TE} {p p2 sp pos pos2 tpos : Pos} {elts : List Expr} {kk : Nat} (hg : Gl X "enumerate") (hm : X.mg "enumerate" = none) (hg2 : Gl X "zip") (hm2 : X.mg "zip" = none) (he : PE X e te)
    (hs : starEach [.Call (.Name "zip" p2) [.Starred e sp] [] pos2] X.env = [(false, eval (.Call (.Name "zip" p2) [.Starred e sp] [] pos2) X.env)] := by rfl) (hst : starEach [.Starred e sp] X.env = [(true, eval e X.env)] := by rfl) :
    PI X (.Tuple elts kk tpos) (.Call (.Name "enumerate" p) [.Call (.Name "zip" p2) [.Starred e sp] [] pos2] [] pos) (iEnumZ X.K te) := by
  refine ⟨fun pins s σ H R I h => ?_⟩
  refine Call_ (ld_blt I hg hm boot_enumerate (PyProof.Rows.callWith_type1 (PyProof.Rows.args_cons ?_ hs) hs rfl))
  refine Call_ (ld_blt I hg2 hm2 PyProof.Rows.boot_zip (callWith_typeS (thn (he.run pins s σ H _ I h) fun v s1 ⟨y, H1, I1, ry, L, n, as, ey, ⟨hL, h0, hls⟩, q⟩ => ?_) hst))
  subst ey
  obtain rfl : v = Value.ref L := ry
  obtain ⟨itsL, rL, _, hzL⟩ := I1.list hL
  rw [List.length_map] at hzL
  refine StX.star_lst I1 hL fun us s2 I2 rv => ?_
  rw [vals_refs rv]
  have hal : ∀ a ∈ as, ∃ items, s2.heap.IsList a items := fun a ha => by
    obtain ⟨xs, hx, _⟩ := hls a ha
    obtain ⟨its, _, pl, _⟩ := I2.list hx
    exact ⟨_, pl.isList⟩
  have hlt : ∀ k, k < as.length → @LT.lt Nat instLTNat (as.getD k 0) s2.heap.objs.size := fun k hk => by
    obtain ⟨items, o, ho, _⟩ := hal (as.getD k 0) (by rw [List.getD_eq_getElem?_getD, List.getElem?_eq_getElem hk]; exact List.getElem_mem hk)
    exact Heap.lt_size ho
  refine zipN_begins h0 hzL hal fun h' hz hits hTI hTO hzz hk => ?_
  refine PyProof.Rows.args_nil (enumZ_begins hzz fun h'' hen hk2 => ?_)
  rw [show ({ s2 with heap := h' } : Shared).heap.objs.size = s2.heap.objs.size + as.length + 3 from hz] at hen ⊢
  refine wpAny_pyIter_enum hen ?_
  have I3 : Inv X pins σ H1 { s2 with heap := h'' } := I2.kept (t' := s2.toks) fun b u x => hk2 b u (hk b u x)
  have S : ZipSepN (s2.heap.objs.size + as.length + 2) (s2.heap.objs.size + as.length) (s2.heap.objs.size + as.length + 1) as.length (fun k => s2.heap.objs.size + k) (fun k => [s2.heap.objs.size + k, as.getD k 0]) := by
    refine ⟨nne (by omega), nne (by omega), nne (by omega), fun k hk => nne (by omega), fun k hk => by simp, fun k hk => ?_, fun k hk => ?_, fun k l hk hl hne => ?_⟩
    · have := hlt k hk
      simp only [List.mem_cons, List.not_mem_nil, or_false, not_or]
      exact ⟨nne (by omega), nne (by omega)⟩
    · have := hlt k hk
      simp only [List.mem_cons, List.not_mem_nil, or_false, not_or]
      exact ⟨nne (by omega), nne (by omega)⟩
    · have := hlt l hl
      simp only [List.mem_cons, List.not_mem_nil, or_false, not_or]
      exact ⟨nne (by omega), nne (by omega)⟩
  refine ⟨s2.heap.objs.size + as.length + 3, _, _, _, H1, rfl, I3, turn_enumZ (n := n) (e := s2.heap.objs.size + as.length + 3) h0 hzL S (nne (by omega)) (nne (by omega)) (nne (by omega)) (fun j hj => nne (by omega)) (fun j hj => ?_) (fun j hj => ?_), ?_, fun b hb => ?_, q⟩
  · have := hlt j hj
    exact nne (by omega)
  · have := hlt j hj
    exact nne (by omega)
  · refine ⟨⟨.none, hen⟩, ⟨.none, .bool false, hk2 _ _ hzz, .inl rfl⟩, hk2 _ _ hTI, ?_, fun k hk' => ?_⟩
    · obtain ⟨vt, h1, h2⟩ := hTO
      exact ⟨vt, hk2 _ _ h1, h2⟩
    · exact ⟨_, hk2 _ _ (hits k _ (by rw [List.getD_eq_getElem?_getD, List.getElem?_eq_getElem hk']; rfl)), rfl, rfl⟩
  · have hle : s2.heap.objs.size ≤ b := by
      simp only [List.mem_cons, List.mem_map, List.mem_range] at hb
      rcases hb with rfl | rfl | rfl | rfl | ⟨k, hk', rfl⟩ <;> omega
    exact I2.fpOk hle (I2.hok.fresh hle)
theorem enumZ {X : Cx} {K : PySem.W.Frag} {e : Expr} {te : TE} {p p2 sp pos pos2 tpos : Pos} {elts : List Expr} {kk : Nat} (hK : X.K = K) (hg : Gl X "enumerate") (hm : X.mg "enumerate" = none) (hg2 : Gl X "zip") (hm2 : X.mg "zip" = none) (he : PE X e te)
    (hs : starEach [.Call (.Name "zip" p2) [.Starred e sp] [] pos2] X.env = [(false, eval (.Call (.Name "zip" p2) [.Starred e sp] [] pos2) X.env)] := by rfl) (hst : starEach [.Starred e sp] X.env = [(true, eval e X.env)] := by rfl) :
    PI X (.Tuple elts kk tpos) (.Call (.Name "enumerate" p) [.Call (.Name "zip" p2) [.Starred e sp] [] pos2] [] pos) (iEnumZ K te) := hK ▸ pi_enumZ hg hm hg2 hm2 he hs hst
/-- a new tuple of the i-th items, in a new pair with i -/
def YEz (K : PySem.W.Frag) (N : Nat) (a : Nat → Addr) : Nat → Hp → V → Hp → Prop := fun i H v H' =>
  ∃ T1 T2 ys, v = .ref T2 ∧ H T1 = none ∧ H T2 = none ∧ T1 ≠ T2 ∧ H' = upd (upd H T1 (.tup ys)) T2 (.tup [.int (i : Nat), .ref T1]) ∧ ys.length = N ∧ ∀ k, k < N → ∀ xs, SqL K H (a k) xs → ys[k]? = xs[i]?
theorem walk_enumZ {K : PySem.W.Frag} {N n : Nat} {a : Nat → Addr} : Walk (Iez K N n a) n (fun H => ∀ k, k < N → ∃ xs, SqL K H (a k) xs ∧ xs.length = n) (YEz K N a) :=
  ⟨fun i _ hi q => ⟨hi, q⟩, fun _ q => ⟨rfl, q⟩, fun _ _ _ _ _ _ y => y⟩
/-- the lists that were told stand as lists by number -/
theorem ListsOf.at {K : PySem.W.Frag} {H : Hp} {L : Addr} {as : List Addr} {n : Nat} (h : ListsOf K H L as n) : ∀ k, k < as.length → ∃ xs, SqL K H (as.getD k 0) xs ∧ xs.length = n := fun k hk => by
  refine h.2.2 _ ?_
  rw [List.getD_eq_getElem?_getD, List.getElem?_eq_getElem hk]
  exact List.getElem_mem hk
end Sd

namespace Sd
open PySem PySem.Spec PyProof.Rows L2
/-! ### min and max of a tuple of ints -/
theorem reads_ints {h : Heap} : ∀ {ns : List Int} {us : List Value}, Vals (ns.map V.int) us → PySem.ReadsAll h us (ns.map PyData.int) []
  | [], _, .nil => .nil
  | n :: ns, _, .cons r rs => by
    obtain ⟨t, rfl⟩ := r
    exact .cons (.int n t) (reads_ints rs)
theorem depth_ints : ∀ ns : List Int, PyData.depthAll (ns.map PyData.int) = 0
  | [] => by simp [PyData.depthAll]
  | n :: ns => by
    have := depth_ints ns
    simp [PyData.depthAll, PyData.depth, this]
theorem alikeInts (ns : List Int) : PySem.W.AlikeAll (ns.map PyData.int) := by
  refine ⟨fun x hx y hy => ?_, fun x hx => ?_⟩
  · obtain ⟨i, _, rfl⟩ := List.mem_map.mp hx
    obtain ⟨j, _, rfl⟩ := List.mem_map.mp hy
    rfl
  · obtain ⟨i, _, rfl⟩ := List.mem_map.mp hx
    exact fun e => nomatch e
theorem foldl_min (n : Int) (ns : List Int) : ns.foldl min n ∈ n :: ns ∧ ∀ y ∈ n :: ns, ns.foldl min n ≤ y := by
  induction ns generalizing n with
  | nil => exact ⟨by simp, fun y hy => by simp at hy; subst hy; exact Int.le_refl _⟩
  | cons a ns ih =>
    obtain ⟨h1, h2⟩ := ih (min n a)
    refine ⟨?_, fun y hy => ?_⟩
    · show ns.foldl min (min n a) ∈ _
      rcases List.mem_cons.mp h1 with e | e
      · rw [e]
        by_cases h : n ≤ a
        · rw [Int.min_eq_left h]; simp
        · rw [Int.min_eq_right (by omega)]; simp
      · simp [e]
    · show ns.foldl min (min n a) ≤ y
      have h3 := h2 (min n a) (by simp)
      rcases List.mem_cons.mp hy with rfl | hy
      · omega
      · rcases List.mem_cons.mp hy with rfl | hy
        · omega
        · exact h2 y (by simp [hy])
theorem foldl_max (n : Int) (ns : List Int) : ns.foldl max n ∈ n :: ns ∧ ∀ y ∈ n :: ns, y ≤ ns.foldl max n := by
  induction ns generalizing n with
  | nil => exact ⟨by simp, fun y hy => by simp at hy; subst hy; exact Int.le_refl _⟩
  | cons a ns ih =>
    obtain ⟨h1, h2⟩ := ih (max n a)
    refine ⟨?_, fun y hy => ?_⟩
    · show ns.foldl max (max n a) ∈ _
      rcases List.mem_cons.mp h1 with e | e
      · rw [e]
        by_cases h : n ≤ a
        · rw [Int.max_eq_right h]; simp
        · rw [Int.max_eq_left (by omega)]; simp
      · simp [e]
    · show y ≤ ns.foldl max (max n a)
      have h3 := h2 (max n a) (by simp)
      rcases List.mem_cons.mp hy with rfl | hy
      · omega
      · rcases List.mem_cons.mp hy with rfl | hy
        · omega
        · exact h2 y (by simp [hy])
def rMinT (K : PySem.W.Frag) : List V → Hp → VK → Prop := fun vs H Q => ∃ (a : Addr) (ns : List Int), vs = [V.ref a] ∧ SqT K H a (ns.map V.int) ∧ 0 < ns.length ∧ ∀ m, m ∈ ns → (∀ y, y ∈ ns → m ≤ y) → Q (.int m) H
def rMaxT (K : PySem.W.Frag) : List V → Hp → VK → Prop := fun vs H Q => ∃ (a : Addr) (ns : List Int), vs = [V.ref a] ∧ SqT K H a (ns.map V.int) ∧ 0 < ns.length ∧ ∀ m, m ∈ ns → (∀ y, y ∈ ns → y ≤ m) → Q (.int m) H
theorem cr_minT {X : Cx} {K : PySem.W.Frag} (hK : X.K = K) (hc : X.calm = true) {k : Nat} (hr : Room k X.A) : CallR X (.builtin "min") (rMinT K) := by
  subst hK
  intro pins s σ H vs us Q I r h
  obtain ⟨a, ns, rfl, hs, hne, q⟩ := h
  obtain ⟨its, rv, hl, _⟩ := I.tuple hs
  rw [Vals.ref1 r]
  cases ns with
  | nil => exact absurd hne (Nat.lt_irrefl 0)
  | cons n ns =>
    have hu := hr.units
    have hd := depth_ints (n :: ns)
    refine PySem.W.min_tuple_data (vs := its.toArray) (x := .int n) (xs := ns.map .int) (as := []) (I.ok.hd hc) hl (by simpa using reads_ints rv) (alikeInts (n :: ns)) ?_ fun i v h' tk bs hv hR kp => ?_
    · have e : PyData.depthAll (PyData.int n :: ns.map PyData.int) = 0 := hd
      omega
    · rw [PySem.W.minD_ints] at hR
      obtain ⟨h1, h2⟩ := foldl_min n ns
      cases hR with
      | int _ t => exact ⟨.int _, H, I.kept kp, ⟨t, rfl⟩, q _ h1 h2⟩
theorem cr_maxT {X : Cx} {K : PySem.W.Frag} (hK : X.K = K) (hc : X.calm = true) {k : Nat} (hr : Room k X.A) : CallR X (.builtin "max") (rMaxT K) := by
  subst hK
  intro pins s σ H vs us Q I r h
  obtain ⟨a, ns, rfl, hs, hne, q⟩ := h
  obtain ⟨its, rv, hl, _⟩ := I.tuple hs
  rw [Vals.ref1 r]
  cases ns with
  | nil => exact absurd hne (Nat.lt_irrefl 0)
  | cons n ns =>
    have hu := hr.units
    have hd := depth_ints (n :: ns)
    refine PySem.W.max_tuple_data (vs := its.toArray) (x := .int n) (xs := ns.map .int) (as := []) (I.ok.hd hc) hl (by simpa using reads_ints rv) (alikeInts (n :: ns)) ?_ fun i v h' tk bs hv hR kp => ?_
    · have e : PyData.depthAll (PyData.int n :: ns.map PyData.int) = 0 := hd
      omega
    · rw [PySem.W.maxD_ints] at hR
      obtain ⟨h1, h2⟩ := foldl_max n ns
      cases hR with
      | int _ t => exact ⟨.int _, H, I.kept kp, ⟨t, rfl⟩, q _ h1 h2⟩
end Sd

namespace Sd
open PySem PySem.Spec PyProof.Rows L2
def topS (i : Nat) : Stmt := PySem.Challenge.pw_slitdiscs_k35_sure_slots_and_clashes.main.body.getD i (.Pass ⟨0, 0, 0, 0⟩)
abbrev s_turned_list : Stmt := topS 1
theorem sc_turned_list : FnScope ["items", "turn", "size", "slot"] ["items", "turn"] (defScope s_turned_list) := ⟨rfl, rfl, rfl, by decide +kernel, rfl, by decide +kernel, by decide +kernel⟩
abbrev s_is_integer : Stmt := topS 11
theorem sc_is_integer : FnScope ["value"] ["value"] (defScope s_is_integer) := ⟨rfl, rfl, rfl, by decide +kernel, rfl, by decide +kernel, by decide +kernel⟩
abbrev s_has_slots : Stmt := topS 12
theorem sc_has_slots : FnScope ["value"] ["value"] (defScope s_has_slots) := ⟨rfl, rfl, rfl, by decide +kernel, rfl, by decide +kernel, by decide +kernel⟩
abbrev s_wrong_integer : Stmt := topS 13
theorem sc_wrong_integer : FnScope ["items", "index", "item"] ["items"] (defScope s_wrong_integer) := ⟨rfl, rfl, rfl, by decide +kernel, rfl, by decide +kernel, by decide +kernel⟩
abbrev s_wrong_light : Stmt := topS 14
theorem sc_wrong_light : FnScope ["items", "most", "index", "item"] ["items", "most"] (defScope s_wrong_light) := ⟨rfl, rfl, rfl, by decide +kernel, rfl, by decide +kernel, by decide +kernel⟩
abbrev s_wrong_slot : Stmt := topS 15
theorem sc_wrong_slot : FnScope ["items"] ["items"] (defScope s_wrong_slot) := ⟨rfl, rfl, rfl, by decide +kernel, rfl, by decide +kernel, by decide +kernel⟩
abbrev s_is_look : Stmt := topS 16
theorem sc_is_look : FnScope ["value"] ["value"] (defScope s_is_look) := ⟨rfl, rfl, rfl, by decide +kernel, rfl, by decide +kernel, by decide +kernel⟩
abbrev s_check_disc : Stmt := topS 17
theorem sc_check_disc : FnScope ["disc", "index"] ["disc"] (defScope s_check_disc) := ⟨rfl, rfl, rfl, by decide +kernel, rfl, by decide +kernel, by decide +kernel⟩
abbrev s_check_slots_at_most : Stmt := topS 18
theorem sc_check_slots_at_most : FnScope ["disc", "most"] ["disc", "most"] (defScope s_check_slots_at_most) := ⟨rfl, rfl, rfl, by decide +kernel, rfl, by decide +kernel, by decide +kernel⟩
abbrev s_check_looks : Stmt := topS 19
theorem sc_check_looks : FnScope ["looks", "index", "look"] ["looks"] (defScope s_check_looks) := ⟨rfl, rfl, rfl, by decide +kernel, rfl, by decide +kernel, by decide +kernel⟩
abbrev s_sure_slots : Stmt := topS 22
theorem sc_sure_slots : FnScope ["disc", "looks", "discs", "number", "slot", "items"] ["disc", "looks"] (defScope s_sure_slots) := ⟨rfl, rfl, rfl, by decide +kernel, rfl, by decide +kernel, by decide +kernel⟩
abbrev s_clash_index : Stmt := topS 23
theorem sc_clash_index : FnScope ["disc", "looks", "fits", "index", "look"] ["disc", "looks"] (defScope s_clash_index) := ⟨rfl, rfl, rfl, by decide +kernel, rfl, by decide +kernel, by decide +kernel⟩
abbrev s_check_seen : Stmt := topS 24
theorem sc_check_seen : FnScope ["disc", "looks", "most"] ["disc", "looks", "most"] (defScope s_check_seen) := ⟨rfl, rfl, rfl, by decide +kernel, rfl, by decide +kernel, by decide +kernel⟩
abbrev s_all_numbers : Stmt := topS 25
theorem sc_all_numbers : FnScope ["disc"] ["disc"] (defScope s_all_numbers) := ⟨rfl, rfl, rfl, by decide +kernel, rfl, by decide +kernel, by decide +kernel⟩
abbrev s_fits : Stmt := topS 26
theorem sc_fits : FnScope ["disc", "looks", "fits", "look"] ["disc", "looks"] (defScope s_fits) := ⟨rfl, rfl, rfl, by decide +kernel, rfl, by decide +kernel, by decide +kernel⟩
abbrev s_some_fits : Stmt := topS 27
theorem sc_some_fits : FnScope ["disc", "looks", "fits"] ["disc", "looks"] (defScope s_some_fits) := ⟨rfl, rfl, rfl, by decide +kernel, rfl, by decide +kernel, by decide +kernel⟩
abbrev s_still_fitting : Stmt := topS 28
theorem sc_still_fitting : FnScope ["fits", "disc", "look", "turn", "light", "lights", "number"] ["fits", "disc", "look"] (defScope s_still_fitting) := ⟨rfl, rfl, rfl, by decide +kernel, rfl, by decide +kernel, by decide +kernel⟩
abbrev s_numbered_lights : Stmt := topS 29
theorem sc_numbered_lights : FnScope ["disc", "turn", "lights", "item", "light"] ["disc", "turn"] (defScope s_numbered_lights) := ⟨rfl, rfl, rfl, by decide +kernel, rfl, by decide +kernel, by decide +kernel⟩
abbrev s_numbered_disc : Stmt := topS 30
theorem sc_numbered_disc : FnScope ["number", "slots", "place"] ["number", "slots"] (defScope s_numbered_disc) := ⟨rfl, rfl, rfl, by decide +kernel, rfl, by decide +kernel, by decide +kernel⟩
abbrev s_law_stock : Stmt := topS 32
theorem sc_law_stock : FnScope ["script", "digits", "mixed", "cell", "grown"] ["script"] (defScope s_law_stock) := ⟨rfl, rfl, rfl, by decide +kernel, rfl, by decide +kernel, by decide +kernel⟩
abbrev s_law_draw : Stmt := topS 33
theorem sc_law_draw : FnScope ["stock", "wide", "found", "grown"] ["stock", "wide"] (defScope s_law_draw) := ⟨rfl, rfl, rfl, by decide +kernel, rfl, by decide +kernel, by decide +kernel⟩
abbrev s_law_size : Stmt := topS 34
theorem sc_law_size : FnScope ["stock", "bound", "some", "one"] ["stock", "bound"] (defScope s_law_size) := ⟨rfl, rfl, rfl, by decide +kernel, rfl, by decide +kernel, by decide +kernel⟩
abbrev s_law_slots : Stmt := topS 35
theorem sc_law_slots : FnScope ["stock", "size", "far", "way_here", "found", "slot"] ["stock", "size", "far"] (defScope s_law_slots) := ⟨rfl, rfl, rfl, by decide +kernel, rfl, by decide +kernel, by decide +kernel⟩
abbrev s_law_seen : Stmt := topS 36
theorem sc_law_seen : FnScope ["rows", "others", "spin", "size", "slot"] ["rows", "others", "spin"] (defScope s_law_seen) := ⟨rfl, rfl, rfl, by decide +kernel, rfl, by decide +kernel, by decide +kernel⟩
abbrev s_law_all : Stmt := topS 37
theorem sc_law_all : FnScope ["size", "found", "bits", "slot"] ["size"] (defScope s_law_all) := ⟨rfl, rfl, rfl, by decide +kernel, rfl, by decide +kernel, by decide +kernel⟩
abbrev s_law_fits : Stmt := topS 38
theorem sc_law_fits : FnScope ["rows", "notes", "found", "spin", "shine", "some"] ["rows", "notes"] (defScope s_law_fits) := ⟨rfl, rfl, rfl, by decide +kernel, rfl, by decide +kernel, by decide +kernel⟩
abbrev s_law_notes : Stmt := topS 39
theorem sc_law_notes : FnScope ["stock", "rows", "often", "size", "found", "others", "slot", "turn", "spin", "spot", "bent"] ["stock", "rows", "often"] (defScope s_law_notes) := ⟨rfl, rfl, rfl, by decide +kernel, rfl, by decide +kernel, by decide +kernel⟩
abbrev s_law_clash : Stmt := topS 40
theorem sc_law_clash : FnScope ["rows", "notes", "found", "spot", "spin", "shine", "some"] ["rows", "notes"] (defScope s_law_clash) := ⟨rfl, rfl, rfl, by decide +kernel, rfl, by decide +kernel, by decide +kernel⟩
abbrev s_law_is_none : Stmt := topS 41
theorem sc_law_is_none : FnScope ["rows", "notes", "found"] ["rows", "notes"] (defScope s_law_is_none) := ⟨rfl, rfl, rfl, by decide +kernel, rfl, by decide +kernel, by decide +kernel⟩
abbrev s_law_right : Stmt := topS 42
theorem sc_law_right : FnScope ["stock", "size", "often", "rows", "notes", "kept", "clash", "some", "due", "slot", "one", "found"] ["stock", "size", "often"] (defScope s_law_right) := ⟨rfl, rfl, rfl, by decide +kernel, rfl, by decide +kernel, by decide +kernel⟩
abbrev s_law : Stmt := topS 43
theorem sc_law : FnScope ["script", "stock", "turn", "often", "rows", "told", "notes"] ["script"] (defScope s_law) := ⟨rfl, rfl, rfl, by decide +kernel, rfl, by decide +kernel, by decide +kernel⟩
/-- what the top has written -/
structure Txt (K : PySem.W.Frag) (mg : Str → Option Value) where
  a_turned_list : Addr
  d_turned_list : FuncData
  F_turned_list : Fun K "turned_list" "turned_list" s_turned_list a_turned_list d_turned_list
  b_turned_list : Binds K d_turned_list ["items", "turn"] []
  g_turned_list : mg "turned_list" = some (.ref a_turned_list)
  a_is_integer : Addr
  d_is_integer : FuncData
  F_is_integer : Fun K "is_integer" "is_integer" s_is_integer a_is_integer d_is_integer
  b_is_integer : Binds K d_is_integer ["value"] []
  g_is_integer : mg "is_integer" = some (.ref a_is_integer)
  a_has_slots : Addr
  d_has_slots : FuncData
  F_has_slots : Fun K "has_slots" "has_slots" s_has_slots a_has_slots d_has_slots
  b_has_slots : Binds K d_has_slots ["value"] []
  g_has_slots : mg "has_slots" = some (.ref a_has_slots)
  a_wrong_integer : Addr
  d_wrong_integer : FuncData
  F_wrong_integer : Fun K "wrong_integer" "wrong_integer" s_wrong_integer a_wrong_integer d_wrong_integer
  b_wrong_integer : Binds K d_wrong_integer ["items"] []
  g_wrong_integer : mg "wrong_integer" = some (.ref a_wrong_integer)
  a_wrong_light : Addr
  d_wrong_light : FuncData
  F_wrong_light : Fun K "wrong_light" "wrong_light" s_wrong_light a_wrong_light d_wrong_light
  b_wrong_light : Binds K d_wrong_light ["items", "most"] []
  g_wrong_light : mg "wrong_light" = some (.ref a_wrong_light)
  a_wrong_slot : Addr
  d_wrong_slot : FuncData
  F_wrong_slot : Fun K "wrong_slot" "wrong_slot" s_wrong_slot a_wrong_slot d_wrong_slot
  b_wrong_slot : Binds K d_wrong_slot ["items"] []
  g_wrong_slot : mg "wrong_slot" = some (.ref a_wrong_slot)
  a_is_look : Addr
  d_is_look : FuncData
  F_is_look : Fun K "is_look" "is_look" s_is_look a_is_look d_is_look
  b_is_look : Binds K d_is_look ["value"] []
  g_is_look : mg "is_look" = some (.ref a_is_look)
  a_check_disc : Addr
  d_check_disc : FuncData
  F_check_disc : Fun K "check_disc" "check_disc" s_check_disc a_check_disc d_check_disc
  b_check_disc : Binds K d_check_disc ["disc"] []
  g_check_disc : mg "check_disc" = some (.ref a_check_disc)
  a_check_slots_at_most : Addr
  d_check_slots_at_most : FuncData
  F_check_slots_at_most : Fun K "check_slots_at_most" "check_slots_at_most" s_check_slots_at_most a_check_slots_at_most d_check_slots_at_most
  b_check_slots_at_most : Binds K d_check_slots_at_most ["disc", "most"] []
  g_check_slots_at_most : mg "check_slots_at_most" = some (.ref a_check_slots_at_most)
  a_check_looks : Addr
  d_check_looks : FuncData
  F_check_looks : Fun K "check_looks" "check_looks" s_check_looks a_check_looks d_check_looks
  b_check_looks : Binds K d_check_looks ["looks"] []
  g_check_looks : mg "check_looks" = some (.ref a_check_looks)
  a_sure_slots : Addr
  d_sure_slots : FuncData
  F_sure_slots : Fun K "sure_slots" "sure_slots" s_sure_slots a_sure_slots d_sure_slots
  b_sure_slots : Binds K d_sure_slots ["disc", "looks"] []
  g_sure_slots : mg "sure_slots" = some (.ref a_sure_slots)
  a_clash_index : Addr
  d_clash_index : FuncData
  F_clash_index : Fun K "clash_index" "clash_index" s_clash_index a_clash_index d_clash_index
  b_clash_index : Binds K d_clash_index ["disc", "looks"] []
  g_clash_index : mg "clash_index" = some (.ref a_clash_index)
  a_check_seen : Addr
  d_check_seen : FuncData
  F_check_seen : Fun K "_check_seen" "_check_seen" s_check_seen a_check_seen d_check_seen
  b_check_seen : Binds K d_check_seen ["disc", "looks", "most"] []
  g_check_seen : mg "_check_seen" = some (.ref a_check_seen)
  a_all_numbers : Addr
  d_all_numbers : FuncData
  F_all_numbers : Fun K "_all_numbers" "_all_numbers" s_all_numbers a_all_numbers d_all_numbers
  b_all_numbers : Binds K d_all_numbers ["disc"] []
  g_all_numbers : mg "_all_numbers" = some (.ref a_all_numbers)
  a_fits : Addr
  d_fits : FuncData
  F_fits : Fun K "_fits" "_fits" s_fits a_fits d_fits
  b_fits : Binds K d_fits ["disc", "looks"] []
  g_fits : mg "_fits" = some (.ref a_fits)
  a_some_fits : Addr
  d_some_fits : FuncData
  F_some_fits : Fun K "_some_fits" "_some_fits" s_some_fits a_some_fits d_some_fits
  b_some_fits : Binds K d_some_fits ["disc", "looks"] []
  g_some_fits : mg "_some_fits" = some (.ref a_some_fits)
  a_still_fitting : Addr
  d_still_fitting : FuncData
  F_still_fitting : Fun K "_still_fitting" "_still_fitting" s_still_fitting a_still_fitting d_still_fitting
  b_still_fitting : Binds K d_still_fitting ["fits", "disc", "look"] []
  g_still_fitting : mg "_still_fitting" = some (.ref a_still_fitting)
  a_numbered_lights : Addr
  d_numbered_lights : FuncData
  F_numbered_lights : Fun K "_numbered_lights" "_numbered_lights" s_numbered_lights a_numbered_lights d_numbered_lights
  b_numbered_lights : Binds K d_numbered_lights ["disc", "turn"] []
  g_numbered_lights : mg "_numbered_lights" = some (.ref a_numbered_lights)
  a_numbered_disc : Addr
  d_numbered_disc : FuncData
  F_numbered_disc : Fun K "_numbered_disc" "_numbered_disc" s_numbered_disc a_numbered_disc d_numbered_disc
  b_numbered_disc : Binds K d_numbered_disc ["number", "slots"] []
  g_numbered_disc : mg "_numbered_disc" = some (.ref a_numbered_disc)
  a_law_stock : Addr
  d_law_stock : FuncData
  F_law_stock : Fun K "_law_stock" "_law_stock" s_law_stock a_law_stock d_law_stock
  b_law_stock : Binds K d_law_stock ["script"] []
  g_law_stock : mg "_law_stock" = some (.ref a_law_stock)
  a_law_draw : Addr
  d_law_draw : FuncData
  F_law_draw : Fun K "_law_draw" "_law_draw" s_law_draw a_law_draw d_law_draw
  b_law_draw : Binds K d_law_draw ["stock", "wide"] []
  g_law_draw : mg "_law_draw" = some (.ref a_law_draw)
  a_law_size : Addr
  d_law_size : FuncData
  F_law_size : Fun K "_law_size" "_law_size" s_law_size a_law_size d_law_size
  b_law_size : Binds K d_law_size ["stock", "bound"] []
  g_law_size : mg "_law_size" = some (.ref a_law_size)
  a_law_slots : Addr
  d_law_slots : FuncData
  F_law_slots : Fun K "_law_slots" "_law_slots" s_law_slots a_law_slots d_law_slots
  b_law_slots : Binds K d_law_slots ["stock", "size", "far"] []
  g_law_slots : mg "_law_slots" = some (.ref a_law_slots)
  a_law_seen : Addr
  d_law_seen : FuncData
  F_law_seen : Fun K "_law_seen" "_law_seen" s_law_seen a_law_seen d_law_seen
  b_law_seen : Binds K d_law_seen ["rows", "others", "spin"] []
  g_law_seen : mg "_law_seen" = some (.ref a_law_seen)
  a_law_all : Addr
  d_law_all : FuncData
  F_law_all : Fun K "_law_all" "_law_all" s_law_all a_law_all d_law_all
  b_law_all : Binds K d_law_all ["size"] []
  g_law_all : mg "_law_all" = some (.ref a_law_all)
  a_law_fits : Addr
  d_law_fits : FuncData
  F_law_fits : Fun K "_law_fits" "_law_fits" s_law_fits a_law_fits d_law_fits
  b_law_fits : Binds K d_law_fits ["rows", "notes"] []
  g_law_fits : mg "_law_fits" = some (.ref a_law_fits)
  a_law_notes : Addr
  d_law_notes : FuncData
  F_law_notes : Fun K "_law_notes" "_law_notes" s_law_notes a_law_notes d_law_notes
  b_law_notes : Binds K d_law_notes ["stock", "rows", "often"] []
  g_law_notes : mg "_law_notes" = some (.ref a_law_notes)
  a_law_clash : Addr
  d_law_clash : FuncData
  F_law_clash : Fun K "_law_clash" "_law_clash" s_law_clash a_law_clash d_law_clash
  b_law_clash : Binds K d_law_clash ["rows", "notes"] []
  g_law_clash : mg "_law_clash" = some (.ref a_law_clash)
  a_law_is_none : Addr
  d_law_is_none : FuncData
  F_law_is_none : Fun K "_law_is_none" "_law_is_none" s_law_is_none a_law_is_none d_law_is_none
  b_law_is_none : Binds K d_law_is_none ["rows", "notes"] []
  g_law_is_none : mg "_law_is_none" = some (.ref a_law_is_none)
  a_law_right : Addr
  d_law_right : FuncData
  F_law_right : Fun K "_law_right" "_law_right" s_law_right a_law_right d_law_right
  b_law_right : Binds K d_law_right ["stock", "size", "often"] []
  g_law_right : mg "_law_right" = some (.ref a_law_right)
  a_law : Addr
  d_law : FuncData
  F_law : Fun K "law" "law" s_law a_law d_law
  g_law : mg "law" = some (.ref a_law)
  t_MOST_SLOTS : Tok
  g_MOST_SLOTS : mg "MOST_SLOTS" = some (.int (40) t_MOST_SLOTS)
  t_MOST_LIGHT : Tok
  g_MOST_LIGHT : mg "MOST_LIGHT" = some (.int (1000000000000000000000000000000) t_MOST_LIGHT)
  t_MOST_LOOKS : Tok
  g_MOST_LOOKS : mg "MOST_LOOKS" = some (.int (40) t_MOST_LOOKS)
  t_MOST_SEEN : Tok
  g_MOST_SEEN : mg "MOST_SEEN" = some (.int (12) t_MOST_SEEN)
  n_abs : mg "abs" = none
  n_bool : mg "bool" = none
  n_enumerate : mg "enumerate" = none
  n_int : mg "int" = none
  n_isinstance : mg "isinstance" = none
  n_len : mg "len" = none
  n_list : mg "list" = none
  n_max : mg "max" = none
  n_min : mg "min" = none
  n_range : mg "range" = none
  n_repr : mg "repr" = none
  n_sum : mg "sum" = none
  n_tuple : mg "tuple" = none
  n_zip : mg "zip" = none
def kp_sure_slots_looks_disc {α : Type} : List α → List α → List α
  | [], [x0, x1] => [x1, x0]
  | _, _ => []
theorem kb_sure_slots_looks_disc {K : PySem.W.Frag} {mg : Str → Option Value} (T : Txt K mg) : KBinds K T.d_sure_slots ["disc", "looks"] ["looks", "disc"] kp_sure_slots_looks_disc kp_sure_slots_looks_disc := by
  obtain ⟨_, _, _, _, _, _, _, _, _, e, _, _⟩ := T.F_sure_slots.ex
  rw [e]
  refine ⟨fun s us ws _ hl => ?_, fun r1 r2 => ?_⟩
  · match us, ws, hl with
    | [], [x0, x1], _ => exact .of_eq rfl
  · cases r1 with
    | cons _ _ => exact .nil
    | nil =>
      cases r2 with
      | nil => exact .nil
      | cons h0 r2 =>
        cases r2 with
        | nil => exact .nil
        | cons h1 r2 =>
          cases r2 with
          | cons _ _ => exact .nil
          | nil => exact .cons h1 (.cons h0 .nil)
def kp_clash_index_looks_disc {α : Type} : List α → List α → List α
  | [], [x0, x1] => [x1, x0]
  | _, _ => []
theorem kb_clash_index_looks_disc {K : PySem.W.Frag} {mg : Str → Option Value} (T : Txt K mg) : KBinds K T.d_clash_index ["disc", "looks"] ["looks", "disc"] kp_clash_index_looks_disc kp_clash_index_looks_disc := by
  obtain ⟨_, _, _, _, _, _, _, _, _, e, _, _⟩ := T.F_clash_index.ex
  rw [e]
  refine ⟨fun s us ws _ hl => ?_, fun r1 r2 => ?_⟩
  · match us, ws, hl with
    | [], [x0, x1], _ => exact .of_eq rfl
  · cases r1 with
    | cons _ _ => exact .nil
    | nil =>
      cases r2 with
      | nil => exact .nil
      | cons h0 r2 =>
        cases r2 with
        | nil => exact .nil
        | cons h1 r2 =>
          cases r2 with
          | cons _ _ => exact .nil
          | nil => exact .cons h1 (.cons h0 .nil)
section
variable {P : Program} {w : World} {K : PySem.W.Frag} {mg : Str → Option Value} {base : Heap}
/-! ### _law_stock, _law_draw -/
def spStock (K : PySem.W.Frag) : Sp := fun vs H Q _ => ∃ (a : Addr) (ns : List Int), vs = [.ref a] ∧ SqL K H a (ns.map V.int) ∧ ns.length ≤ 63 ∧
  ∀ (t : Addr) (H' : Hp), Same H H' → H t = none → Stk H' t 0 → Q (.ref t) H'
theorem ok_law_stock (T : Txt K mg) : FnOk P w K mg base CX0 1 T.a_law_stock T.d_law_stock ["script"] (spStock K) := by
  refine T.F_law_stock.ok sc_law_stock (fun vs H Q E h => ?_) (fun cdv A outer s H vs Q E hr h => ?_)
  · obtain ⟨_, _, rfl, _⟩ := h
    rfl
  · obtain ⟨a, ns, rfl, hS, hl, q⟩ := h
    refine ⟨_, (pss_cons (ps_asg (pe_tup (pa_cons pe_int (pa_cons pe_int pa_nil))) (pg_tupL (K := K) (n := 2) rfl rfl (pgs_cons (pg_name (i := 1) sc_law_stock.nd rfl (.inl rfl)) (pgs_cons (pg_name (i := 2) sc_law_stock.nd rfl (.inl rfl)) pgs_nil))))
      (pss_cons (ps_for PassesOwn.never rfl (pi_listL (K := K) rfl (pe_slice (slL (K := K) rfl) (pv 0) po_none (po_some pe_int))) (pg_name (i := 3) sc_law_stock.nd rfl (.inl rfl)) (pss_mid (ps_if (pt_cmpR op_ge (pe_callB call_abs (by rfl) T.n_abs (by decide +kernel) (pa_cons (pv 3) pa_nil)) (pe_op op_pow pe_int pe_int) (nomark _)) (pss_one (ps_set (i := 1) sc_law_stock.nd rfl (.inl rfl) (pe_op op_add (pe_op op_mulW (pv 1) (pe_op op_pow pe_int pe_int)) (pe_op op_mod (pe_callTy call_int1 (by rfl) T.n_int (by decide +kernel) (pa_cons (pe_callB call_abs (by rfl) T.n_abs (by decide +kernel) (pa_cons (pv 3) pa_nil)) pa_nil)) (pe_op op_pow pe_int pe_int))))) pss_nil)
      (pss_cons (ps_set (i := 4) sc_law_stock.nd rfl (.inl rfl) (pe_op op_add (pe_op op_add (pe_op op_mul (pv 2) pe_int) (pe_op op_mod (pe_callTy call_int1 (by rfl) T.n_int (by decide +kernel) (pa_cons (pv 3) pa_nil)) pe_int)) pe_int))
      (pss_one (ps_set (i := 2) sc_law_stock.nd rfl (.inl rfl) (pe_op op_mod (pe_callTy call_int1 (by rfl) T.n_int (by decide +kernel) (pa_cons (pv 4) pa_nil)) pe_int))))))
      (pss_one (ps_ret (pe_lst (pa_cons (pv 1) (pa_cons (pv 2) (pa_cons pe_int pa_nil)))))))), ?_⟩
    refine ⟨(by show 2 ≤ sizeLine; decide), fun p0 hp0 => ⟨p0, _, rfl, SqT.of upd_same, rfl, _, _, rfl, _, _, rfl, rfl, ?_⟩⟩
    have s0 := new_same (o := .tup [.int 0, .int 27644437]) hp0
    generalize upd H p0 (.tup [.int 0, .int 27644437]) = H0 at s0 ⊢
    refine ⟨.ref a, rfl, 63, rfl, a, _, rfl, s0.seq hS, fun p hp => ?_⟩
    have s1 := s0.trans (new_same (o := .lst (cutV (ns.map V.int) none (some 63))) hp)
    have g1 : (upd H0 p (.lst (cutV (ns.map V.int) none (some 63)))) p = some (.lst (ns.map V.int)) := by rw [upd_same, cut_take ns 63 (by decide), List.take_of_length_le (by show ns.length ≤ 63; exact hl)]
    generalize upd H0 p (.lst (cutV (ns.map V.int) none (some 63))) = H1 at s1 g1 ⊢
    refine ⟨p, rfl, ⟨_, SqL.of g1⟩, for_list (K := K) (a := p) (xs := ns.map V.int)
      (fun i σ H' => ∃ (d m : Int) (y3 y4 : Option V), σ = [some (.ref a), some (.int d), some (.int m), y3, y4] ∧ 0 ≤ d ∧ d.natAbs < 2 ^ (200 * i + 1) ∧ 0 ≤ m ∧ m < 170141183460469231731687303715884105727 ∧ H' = H1)
      ⟨0, 27644437, none, none, rfl, by decide, by decide, by decide, by decide, rfl⟩ (fun i σ H' _ ⟨_, _, _, _, _, _, _, _, _, e⟩ => by rw [e]; exact SqL.of g1) (fun i x σ H2 hx hP => ?_) (fun σ H2 hP => ?_)⟩
    · obtain ⟨d, m, y3, y4, rfl, d0, d1, m0, m1, rfl⟩ := hP
      obtain ⟨c, hc, rfl⟩ := int_at hx
      have hi : i < ns.length := (List.getElem?_eq_some_iff.mp hc).1
      have e60 : (10 : Int) ^ (60 : Int).toNat = 1000000000000000000000000000000000000000000000000000000000000 := by decide +kernel
      refine ⟨fun σ' H' => ∃ d' : Int, σ' = [some (.ref a), some (.int d'), some (.int m), some (.int c), y4] ∧ 0 ≤ d' ∧ d'.natAbs < 2 ^ (200 * (i + 1) + 1) ∧ H' = H2,
        ⟨.int c, rfl, c, rfl, 10, 18, rfl, rfl, ⟨by decide, by decide, by decide⟩, _, _, rfl, rfl, _, rfl, ite2 (fun _ => ?_) (fun _ => ?_)⟩, fun σ' H' hM => ?_⟩
      · refine ⟨.int d, rfl, 10, 60, rfl, rfl, ⟨by decide, by decide, by decide⟩, d, _, rfl, rfl, wide_mul (a := 200 * i + 1) (b := 200) d1 (by decide +kernel) (by omega) (by decide) (by omega), ?_⟩
        refine ⟨.int c, rfl, c, rfl, .inl ⟨_, rfl, 10, 60, rfl, rfl, ⟨by decide, by decide, by decide⟩, _, _, rfl, rfl, (by show (0 : Int) < 10 ^ (60 : Int).toNat; decide +kernel), _, _, rfl, rfl, ?_⟩⟩
        refine ⟨_, rfl, ?_, ?_, rfl⟩
        · rw [e60]
          have := Int.emod_nonneg (if c < 0 then -c else c) (show (1000000000000000000000000000000000000000000000000000000000000 : Int) ≠ 0 by decide)
          have := Int.mul_nonneg d0 (show (0 : Int) ≤ 1000000000000000000000000000000000000000000000000000000000000 by decide)
          omega
        · rw [e60]
          have b0 := Int.emod_nonneg (if c < 0 then -c else c) (show (1000000000000000000000000000000000000000000000000000000000000 : Int) ≠ 0 by decide)
          have b1 := Int.emod_lt_of_pos (if c < 0 then -c else c) (show (0 : Int) < 1000000000000000000000000000000000000000000000000000000000000 by decide)
          have eP : 2 ^ (200 * (i + 1) + 1) = 2 ^ (200 * i + 1) * 1606938044258990275541962092341162602522202993782792835301376 := by
            rw [show 200 * (i + 1) + 1 = (200 * i + 1) + 200 by omega, Nat.pow_add]
          rw [eP]
          generalize 2 ^ (200 * i + 1) = B at d1
          generalize (if c < 0 then -c else c) % 1000000000000000000000000000000000000000000000000000000000000 = z at b0 b1
          omega
      · exact ⟨d, rfl, d0, Nat.lt_of_lt_of_le d1 (Nat.pow_le_pow_right (by decide) (by omega)), rfl⟩
      · obtain ⟨d', rfl, z0, z1, rfl⟩ := hM
        refine ⟨.int m, rfl, m, 48271, rfl, rfl, .inr ⟨by decide, by decide⟩, .int c, rfl, .inl ⟨c, rfl, c, 2305843009213693951, rfl, rfl, (by show (0 : Int) < 2305843009213693951; decide), _, _, rfl, rfl, _, 101, rfl, rfl, ?_⟩⟩
        refine ⟨_, rfl, .inl ⟨_, rfl, _, 170141183460469231731687303715884105727, rfl, rfl, (by show (0 : Int) < 170141183460469231731687303715884105727; decide), ?_⟩⟩
        exact ⟨d', _, _, _, rfl, z0, z1, Int.emod_nonneg _ (by decide), Int.emod_lt_of_pos _ (by decide), rfl⟩
    · obtain ⟨d, m, y3, y4, rfl, d0, d1, m0, m1, rfl⟩ := hP
      refine ⟨.int d, rfl, .int m, rfl, (by show 3 ≤ sizeLine; decide), fun t ht => ?_⟩
      exact q t _ (s1.trans (new_same ht)) (none_back s1 ht) ⟨d, m, 0, upd_same, d0, m0, m1, by omega, by omega⟩
def spDraw : Sp := fun vs H Q _ => ∃ (T : Addr) (m c : Int), vs = [.ref T, .int m] ∧ 0 < m ∧ m < 2 ^ 200 ∧ Stk H T c ∧ c < 2 ^ 40 ∧
  ∀ (r : Int) (H' : Hp), 0 ≤ r → r < m → Stk H' T (c + 1) → But T H H' → Q (.int r) H'
theorem ok_law_draw (T : Txt K mg) : FnOk P w K mg base CX0 1 T.a_law_draw T.d_law_draw ["stock", "wide"] spDraw := by
  refine T.F_law_draw.ok sc_law_draw (fun vs H Q E h => ?_) (fun cdv A outer s H vs Q E hr h => ?_)
  · obtain ⟨_, _, _, rfl, _⟩ := h
    rfl
  · obtain ⟨t, m, c, rfl, hm0, hm, ⟨x, y, z, hT, hx, hy0, hy, hz0, hz⟩, hc, q⟩ := h
    refine ⟨_, (pss_cons (ps_if (pt_cmpR op_gt (pe_ix (ixL (K := K) rfl) (pv 0) pe_int (fun _ _ => rfl)) pe_int (nomark _)) (pss_cons (ps_set (i := 2) sc_law_draw.nd rfl (.inl rfl) (pe_op op_mod (pe_callTy call_int1 (by rfl) T.n_int (by decide +kernel) (pa_cons (pe_ix (ixL (K := K) rfl) (pv 0) pe_int (fun _ _ => rfl)) pa_nil)) (pv 1)))
      (pss_cons (ps_asg (pe_op op_fdivW (pe_ix (ixL (K := K) rfl) (pv 0) pe_int (fun _ _ => rfl)) (pv 1)) (pg_sub (pv 0) pe_int set_list))
      (pss_one (ps_ret (pv 2))))) pss_nil)
      (pss_cons (ps_asg (pe_op op_add (pe_ix (ixL (K := K) rfl) (pv 0) pe_int (fun _ _ => rfl)) pe_int) (pg_sub (pv 0) pe_int set_list))
      (pss_cons (ps_set (i := 3) sc_law_draw.nd rfl (.inl rfl) (pe_op op_add (pe_ix (ixL (K := K) rfl) (pv 0) pe_int (fun _ _ => rfl)) (pe_op op_mul pe_int (pe_ix (ixL (K := K) rfl) (pv 0) pe_int (fun _ _ => rfl)))))
      (pss_cons (ps_set (i := 3) sc_law_draw.nd rfl (.inl rfl) (pe_op op_add (pe_op op_mod (pe_callTy call_int1 (by rfl) T.n_int (by decide +kernel) (pa_cons (pe_op op_pow2 (pv 3) pe_int) pa_nil)) pe_int) (pe_op op_mul pe_int (pe_ix (ixL (K := K) rfl) (pv 0) pe_int (fun _ _ => rfl)))))
      (pss_cons (ps_set (i := 3) sc_law_draw.nd rfl (.inl rfl) (pe_op op_mod (pe_callTy call_int1 (by rfl) T.n_int (by decide +kernel) (pa_cons (pe_op op_pow3 (pv 3) pe_int) pa_nil)) pe_int))
      (pss_one (ps_ret (pe_op op_mod (pe_callTy call_int1 (by rfl) T.n_int (by decide +kernel) (pa_cons (pe_op op_fdivW (pv 3) pe_int) pa_nil)) (pv 1))))))))), ?_⟩
    refine ⟨.ref t, rfl, t, _, 0, .int x, rfl, rfl, SqL.of hT, rfl, x, 0, rfl, rfl, _, rfl, ite2 (fun h => ?_) (fun h => ?_)⟩
    · have hx1 : 0 < x := of_decide_eq_true h
      refine ⟨.ref t, rfl, t, _, 0, .int x, rfl, rfl, SqL.of hT, rfl, .inl ⟨x, rfl, .int m, rfl, x, m, rfl, rfl, hm0, ?_⟩⟩
      refine ⟨.ref t, rfl, t, _, 0, .int x, rfl, rfl, SqL.of hT, rfl, .int m, rfl, x, m, rfl, rfl, wide_div (b := 200) hm0 (by omega) (by decide) (by decide), ?_⟩
      refine ⟨.ref t, rfl, t, _, 0, 0, rfl, rfl, hT, rfl, ?_⟩
      refine ⟨.int (x % m), rfl, q _ _ (Int.emod_nonneg _ (by omega)) (Int.emod_lt_of_pos _ hm0) ⟨x / m, y, z, upd_same, Int.ediv_nonneg hx (by omega), hy0, hy, hz0, by omega⟩ upd_but⟩
    · refine ⟨.ref t, rfl, t, _, 2, .int z, rfl, rfl, SqL.of hT, rfl, z, 1, rfl, rfl, ?_⟩
      refine ⟨.ref t, rfl, t, _, 2, 2, rfl, rfl, hT, rfl, ?_⟩
      have hT2 : (upd H t (.lst [.int x, .int y, .int (z + 1)])) t = some (.lst [.int x, .int y, .int (z + 1)]) := upd_same
      refine ⟨.ref t, rfl, t, _, 1, .int y, rfl, rfl, SqL.of hT2, rfl, .ref t, rfl, t, _, 2, .int (z + 1), rfl, rfl, SqL.of hT2, rfl, 1000000000000000003, z + 1, rfl, rfl, .inl ⟨by decide, by decide⟩, _, _, rfl, rfl, ?_⟩
      obtain ⟨g, hg⟩ : ∃ g, g = y + 1000000000000000003 * (z + 1) := ⟨_, rfl⟩
      show gName 3 (V.int (y + 1000000000000000003 * (z + 1))) _ _ _
      rw [← hg]
      refine ⟨.int g, rfl, g, 2, rfl, rfl, ⟨rfl, by omega, by omega⟩, .inl ⟨_, rfl, _, 170141183460469231731687303715884105727, rfl, rfl, (by show (0 : Int) < 170141183460469231731687303715884105727; decide), ?_⟩⟩
      have a0 := Int.emod_nonneg (g ^ (2 : Int).toNat) (show (170141183460469231731687303715884105727 : Int) ≠ 0 by decide)
      have a1 := Int.emod_lt_of_pos (g ^ (2 : Int).toNat) (show (0 : Int) < 170141183460469231731687303715884105727 by decide)
      refine ⟨.ref t, rfl, t, _, 2, .int (z + 1), rfl, rfl, SqL.of hT2, rfl, 999999000001, z + 1, rfl, rfl, .inl ⟨by decide, by decide⟩, _, _, rfl, rfl, ?_⟩
      obtain ⟨f, hf⟩ : ∃ f, f = g ^ (2 : Int).toNat % 170141183460469231731687303715884105727 + 999999000001 * (z + 1) := ⟨_, rfl⟩
      show gName 3 (V.int (g ^ (2 : Int).toNat % 170141183460469231731687303715884105727 + 999999000001 * (z + 1))) _ _ _
      rw [← hf]
      refine ⟨.int f, rfl, f, 3, rfl, rfl, ⟨rfl, by omega, by omega⟩, .inl ⟨_, rfl, _, 170141183460469231731687303715884105727, rfl, rfl, (by show (0 : Int) < 170141183460469231731687303715884105727; decide), ?_⟩⟩
      refine ⟨_, rfl, _, 1048576, rfl, rfl, wide_div (b := 30) (by decide) (by decide) (by decide) (by decide), .inl ⟨_, rfl, .int m, rfl, _, m, rfl, rfl, hm0, ?_⟩⟩
      exact q _ _ (Int.emod_nonneg _ (by omega)) (Int.emod_lt_of_pos _ hm0) ⟨x, y, z + 1, upd_same, hx, hy0, hy, by omega, by omega⟩ upd_but

/-! ### _law_size, _law_slots -/
def spSize : Sp := fun vs H Q _ => ∃ (T : Addr) (m c : Int), vs = [.ref T, .int m] ∧ 1 ≤ m ∧ m ≤ 40 ∧ Stk H T c ∧ 0 ≤ c ∧ c < 2 ^ 39 ∧
  ∀ (r : Int) (H' : Hp), 1 ≤ r → r ≤ m → Stk H' T (c + 3) → But T H H' → Q (.int r) H'
theorem ok_law_size (T : Txt K mg) : FnOk P w K mg base CX0 2 T.a_law_size T.d_law_size ["stock", "bound"] spSize := by
  have G_law_draw := ok_law_draw (P := P) (w := w) (base := base) T
  refine T.F_law_size.ok sc_law_size (fun vs H Q E h => ?_) (fun cdv A outer s H vs Q E hr h => ?_)
  · obtain ⟨_, _, _, rfl, _⟩ := h
    rfl
  · obtain ⟨t, m, c, rfl, hm1, hm, hT, hc0, hc, q⟩ := h
    refine ⟨_, (pss_cons (ps_setLc (i := 2) (own := [("one", 3)]) (g := gName 3) (by rfl) sc_law_size.nd rfl rfl (sw_true rfl rfl rfl (by decide +kernel)) (pi_tupL (K := K) rfl (pe_tup (pa_cons pe_int (pa_cons pe_int (pa_cons pe_int (pa_cons pe_int (pa_cons pe_int (pa_cons pe_int (pa_cons pe_int (pa_cons pe_int (pa_cons pe_int (pa_cons pe_int (pa_cons pe_int (pa_cons pe_int pa_nil)))))))))))))) (blkOk_by (own := [("one", 3)]) (N := ["stock", "bound", "some", "one"]) (sc := defScope s_law_size) (by decide +kernel))
        (fun _ _ _ _ _ => (pg_name (i := 3) sc_law_size.nd rfl (Or.inl rfl))) (fun _ _ _ _ _ => (pts_one (pt_cmpR op_le (pv 3) (pv 1) (nomark _)))) (fun _ _ _ _ _ => (pv 3)))
      (pss_one (ps_ret (pe_ix (ixL (K := K) rfl) (pe_lst (pa_cons (pe_ix (ixL (K := K) rfl) (pv 2) (pe_call G_law_draw hr (by rfl) T.g_law_draw T.F_law_draw.kp T.b_law_draw .nil pass0 (pa_cons (pv 0) (pa_cons (pe_callB (lenL (K := K) rfl) (by rfl) T.n_len (by decide +kernel) (pa_cons (pv 2) pa_nil)) pa_nil))) (fun _ _ => rfl)) (pa_cons (pe_op op_add pe_int (pe_call G_law_draw hr (by rfl) T.g_law_draw T.F_law_draw.kp T.b_law_draw .nil pass0 (pa_cons (pv 0) (pa_cons (pv 1) pa_nil)))) (pa_cons (pv 1) pa_nil)))) (pe_call G_law_draw hr (by rfl) T.g_law_draw T.F_law_draw.kp T.b_law_draw .nil pass0 (pa_cons (pv 0) (pa_cons pe_int pa_nil))) (fun _ _ => rfl))))), ?_⟩
    refine ⟨(by show 12 ≤ sizeLine; decide), fun p hp => ⟨p, rfl, ⟨_, SqT.of upd_same⟩, fun D hD => ?_⟩⟩
    have s1 := new_same (o := .tup (([1, 2, 3, 4, 6, 7, 8, 12, 13, 30, 36, 40] : List Int).map V.int)) hp
    have g1 : (upd H p (.tup (([1, 2, 3, 4, 6, 7, 8, 12, 13, 30, 36, 40] : List Int).map V.int))) p = some (.tup (([1, 2, 3, 4, 6, 7, 8, 12, 13, 30, 36, 40] : List Int).map V.int)) := upd_same
    have hD : (upd H p (.tup (([1, 2, 3, 4, 6, 7, 8, 12, 13, 30, 36, 40] : List Int).map V.int))) D = none := hD
    show ∃ W : Nat → Nat → Hp → Prop, (∃ m, W 0 m (upd (upd H p (.tup (([1, 2, 3, 4, 6, 7, 8, 12, 13, 30, 36, 40] : List Int).map V.int))) D (.lst []))) ∧ _
    generalize upd H p (.tup (([1, 2, 3, 4, 6, 7, 8, 12, 13, 30, 36, 40] : List Int).map V.int)) = H1 at s1 g1 hD ⊢
    refine lc_tup (K := K) (a := p) (xs := ([1, 2, 3, 4, 6, 7, 8, 12, 13, 30, 36, 40] : List Int).map V.int) (fun i H' => Same H1 H' ∧ ∃ ss : List Int, H' D = some (.lst (ss.map V.int)) ∧ ss.length ≤ i ∧ (0 < i → 0 < ss.length) ∧ ∀ x ∈ ss, 1 ≤ x ∧ x ≤ m)
      ⟨new_same hD, [], upd_same, Nat.le_refl _, fun h => absurd h (Nat.lt_irrefl _), fun x hx => (List.not_mem_nil hx).elim⟩ (fun i H' _ hP => SqT.of (hP.1 _ _ g1)) (fun i x H2 hx hP => ⟨rfl, ?_⟩) (fun H2 hP => ?_)
    · obtain ⟨s2, ss, g2, l2, p2, a2⟩ := hP
      obtain ⟨n, hn, rfl⟩ := int_at hx
      have hi : i < 12 := (List.getElem?_eq_some_iff.mp hn).1
      have hn1 : 1 ≤ n := by
        have := List.mem_of_getElem? hn
        simp only [List.mem_cons, List.not_mem_nil, or_false] at this
        omega
      refine ⟨.int n, rfl, .int m, rfl, n, m, rfl, rfl, _, rfl, ite2 (fun h => ?_) (fun h => ?_)⟩
      · have hnm : n ≤ m := of_decide_eq_true h
        refine ⟨.int n, rfl, _, g2, by rw [List.length_map]; exact sz40 (by omega), same_over s2 hD, ss ++ [n], ?_, ?_, fun _ => ?_, fun x hx => ?_⟩
        · rw [upd_same, List.map_append]
          rfl
        · rw [List.length_append]
          show ss.length + 1 ≤ i + 1
          omega
        · rw [List.length_append]
          show 0 < ss.length + 1
          omega
        · rcases List.mem_append.mp hx with h | h
          · exact a2 x h
          · rw [List.mem_singleton.mp h]
            exact ⟨hn1, hnm⟩
      · refine ⟨s2, ss, g2, by omega, fun _ => ?_, a2⟩
        cases i with
        | zero =>
          have : n = 1 := (Option.some.inj hn).symm
          exact absurd (decide_eq_true (show n ≤ m by omega)) h
        | succ i => exact p2 (Nat.succ_pos _)
    · obtain ⟨s2, ss, g2, l2, p2, a2⟩ := hP
      have sp : 0 < ss.length := p2 (by decide)
      have sl : ss.length ≤ 12 := l2
      simp only [List.set_cons_zero, List.set_cons_succ]
      have kT := (hT.same s1).same s2
      have nD : D ≠ t := (hT.same s1).ne hD
      refine ⟨.ref D, rfl, .ref t, rfl, .ref D, rfl, D, _, rfl, .inl (SqL.of g2), t, _, c, rfl, by rw [List.length_map]; omega, by rw [List.length_map]; omega, kT, by omega, fun r1 H3 a3 b3 k3 u3 => ?_⟩
      rw [List.length_map] at b3
      obtain ⟨v, hv, hat⟩ := at_in (ns := ss) a3 b3
      have hv1 := a2 v (List.mem_of_getElem? hv)
      refine ⟨D, _, r1, .int v, rfl, rfl, SqL.of (u3 _ _ g2 nD), hat, ?_⟩
      refine ⟨.ref t, rfl, .int m, rfl, t, m, c + 1, rfl, by omega, by omega, k3, by omega, fun r2 H4 a4 b4 k4 u4 => ?_⟩
      refine ⟨1, r2, rfl, rfl, .int m, rfl, (by show 3 ≤ sizeLine; decide), fun l hl => ?_⟩
      refine ⟨.ref t, rfl, t, 3, c + 1 + 1, rfl, by omega, by omega, k4.up hl, by omega, fun r3 H5 a5 b5 k5 u5 => ?_⟩
      have g5 : H5 l = some (.lst (([v, 1 + r2, m] : List Int).map V.int)) := u5 _ _ upd_same (k4.ne hl)
      obtain ⟨z, hz, hat5⟩ := at_in (ns := [v, 1 + r2, m]) a5 (by show r3 < 3; omega)
      have hz1 : 1 ≤ z ∧ z ≤ m := by
        have := List.mem_of_getElem? hz
        simp only [List.mem_cons, List.not_mem_nil, or_false] at this
        omega
      refine ⟨l, _, r3, .int z, rfl, rfl, SqL.of g5, hat5, q z H5 hz1.1 hz1.2 (k5.mono (by omega)) ?_⟩
      exact ((((But.of s1).trans (But.of s2)).trans u3).trans u4).trans ((But.of (new_same hl)).trans u5)
def spSlots : Sp := fun vs H Q _ => ∃ (T : Addr) (n f c : Int), vs = [.ref T, .int n, .int f] ∧ 1 ≤ n ∧ n ≤ 40 ∧ 1 ≤ f ∧ f ≤ 1000000000000000000000000000000 ∧ Stk H T c ∧ 0 ≤ c ∧ c < 2 ^ 38 ∧
  ∀ (l : Addr) (ns : List Int) (H' : Hp), Rim ns → (ns.length : Int) = n → But T H H' → H l = none → H' l = some (.lst (ns.map V.int)) → Stk H' T (c + 300) → Q (.ref l) H'
def MidSl (t : Addr) (H : Hp) (n f k e : Int) : L2.St → Hp → Prop := fun σ' H' => ∃ (D : Addr) (ns : List Int) (y5 : Option V),
  σ' = [some (.ref t), some (.int n), some (.int f), some (.int k), some (.ref D), y5] ∧ Rim ns ∧ (ns.length : Int) = n ∧ H D = none ∧ H' D = some (.lst (ns.map V.int)) ∧ But t H H' ∧ Stk H' t e
theorem free_butS {t D : Addr} {c : Int} {H H1 : Hp} (u : But t H H1) (hT : Stk H t c) (n : H1 D = none) (ne : D ≠ t) : H D = none := by
  cases e : H D with
  | none => rfl
  | some o =>
    have := u _ _ e ne
    rw [n] at this
    cases this
theorem but_over {t D : Addr} {H H1 : Hp} {o : HO} (u : But t H H1) (n : H D = none) : But t H (upd H1 D o) := fun b x e ne => by
  rw [upd_ne (ne_of_none e n)]
  exact u b x e ne
theorem ok_law_slots (T : Txt K mg) : FnOk P w K mg base CX0 2 T.a_law_slots T.d_law_slots ["stock", "size", "far"] spSlots := by
  have G_law_draw := ok_law_draw (P := P) (w := w) (base := base) T
  refine T.F_law_slots.ok sc_law_slots (fun vs H Q E h => ?_) (fun cdv A outer s H vs Q E hr h => ?_)
  · obtain ⟨_, _, _, _, rfl, _⟩ := h
    rfl
  · obtain ⟨t, n, f, c, rfl, hn1, hn, hf1, hf, hT, hc0, hc, q⟩ := h
    refine ⟨_, (pss_cons (ps_par (i := 3) (j := 4) (by rfl) sc_law_slots.nd rfl rfl (by decide) rfl rfl (pa_cons (pe_call G_law_draw hr (by rfl) T.g_law_draw T.F_law_draw.kp T.b_law_draw .nil pass0 (pa_cons (pv 0) (pa_cons pe_int pa_nil))) (pa_cons (pe_lst pa_nil) pa_nil)) (by rfl))
      (pss_cons (ps_for PassesOwn.never rfl (pi_range1 (by rfl) T.n_range (pa_cons (pv 1) pa_nil)) (pg_name (i := 5) sc_law_slots.nd rfl (.inl rfl)) (pss_one (ps_expr (pe_bm PySem.F.plainAttrs_list PySem.F.slot_list_append PySem.F.type_list_append mt_append (pv 4) (pa_cons (pe_ix (ixL (K := K) rfl) (pe_lst (pa_cons (pe_call G_law_draw hr (by rfl) T.g_law_draw T.F_law_draw.kp T.b_law_draw .nil pass0 (pa_cons (pv 0) (pa_cons pe_int pa_nil))) (pa_cons (pe_callTy call_int1 (by rfl) T.n_int (by decide +kernel) (pa_cons (pe_cmpR op_eq (pv 5) pe_int (nomark _)) pa_nil)) (pa_cons pe_int (pa_cons (pe_callTy call_int1 (by rfl) T.n_int (by decide +kernel) (pa_cons (pe_cmpR op_eq (pe_op op_mod (pe_callTy call_int1 (by rfl) T.n_int (by decide +kernel) (pa_cons (pv 5) pa_nil)) pe_int) pe_int (nomark _)) pa_nil)) (pa_cons pe_int pa_nil)))))) (pe_callB (call_min2 rfl) (by rfl) T.n_min (by decide +kernel) (pa_cons (pv 3) (pa_cons pe_int pa_nil))) (fun _ _ => rfl)) pa_nil)))))
      (pss_mid (ps_if (pt_cmpR op_eq (pv 3) pe_int (nomark _)) (pss_one (ps_setLc (i := 4) (own := [("slot", 5)]) (g := gName 5) (tt := tYes) (by rfl) sc_law_slots.nd rfl rfl (sw_true rfl rfl rfl (by decide +kernel)) (pi_range1 (by rfl) T.n_range (pa_cons (pv 1) pa_nil)) (blkOk_by (own := [("slot", 5)]) (N := ["stock", "size", "far", "way_here", "found", "slot"]) (sc := defScope s_law_slots) (by decide +kernel))
        (fun _ _ _ _ _ => (pg_name (i := 5) sc_law_slots.nd rfl (Or.inl rfl))) (fun _ _ _ _ _ => pts_nil) (fun _ _ _ _ _ => (pe_call G_law_draw hr (by rfl) T.g_law_draw T.F_law_draw.kp T.b_law_draw .nil pass0 (pa_cons (pv 0) (pa_cons (pe_ix (ixL (K := K) rfl) (pe_lst (pa_cons pe_int (pa_cons (pe_op op_add (pv 2) pe_int) pa_nil))) (pe_call G_law_draw hr (by rfl) T.g_law_draw T.F_law_draw.kp T.b_law_draw .nil pass0 (pa_cons (pv 0) (pa_cons pe_int pa_nil))) (fun _ _ => rfl)) pa_nil)))))) pss_nil)
      (pss_mid (ps_if (pt_cmpR op_eq (pv 3) pe_int (nomark _)) (pss_one (ps_setLc (i := 4) (own := [("slot", 5)]) (g := gName 5) (tt := tYes) (by rfl) sc_law_slots.nd rfl rfl (sw_true rfl rfl rfl (by decide +kernel)) (pi_range1 (by rfl) T.n_range (pa_cons (pv 1) pa_nil)) (blkOk_by (own := [("slot", 5)]) (N := ["stock", "size", "far", "way_here", "found", "slot"]) (sc := defScope s_law_slots) (by decide +kernel))
        (fun _ _ _ _ _ => (pg_name (i := 5) sc_law_slots.nd rfl (Or.inl rfl))) (fun _ _ _ _ _ => pts_nil) (fun _ _ _ _ _ => (pe_ix (ixL (K := K) rfl) (pe_lst (pa_cons pe_int (pa_cons (pv 2) (pa_cons (pe_call G_law_draw hr (by rfl) T.g_law_draw T.F_law_draw.kp T.b_law_draw .nil pass0 (pa_cons (pv 0) (pa_cons (pe_op op_add (pv 2) pe_int) pa_nil))) pa_nil)))) (pe_call G_law_draw hr (by rfl) T.g_law_draw T.F_law_draw.kp T.b_law_draw .nil pass0 (pa_cons (pv 0) (pa_cons pe_int pa_nil))) (fun _ _ => rfl))))) pss_nil)
      (pss_one (ps_ret (pv 4))))))), ?_⟩
    refine ⟨.ref t, rfl, t, 6, c, rfl, by omega, by omega, hT, by omega, fun k H1 k0 k6 k1 u1 => ?_⟩
    refine ⟨(by show 0 ≤ sizeLine; decide), fun D hD => ⟨_, _, rfl, ?_⟩⟩
    have nD : D ≠ t := k1.ne hD
    have hHD := free_butS u1 hT hD nD
    have u2 := u1.trans (But.of (new_same (o := .lst []) hD))
    have k2 := k1.up (o := .lst []) hD
    have g2 : (upd H1 D (.lst [])) D = some (.lst (([] : List Int).map V.int)) := upd_same
    generalize upd H1 D (.lst []) = H2 at u2 k2 g2 ⊢
    refine ⟨.int n, rfl, n, rfl, by omega, by omega, for_range (lo := 0) (n := n.toNat)
      (fun i σ H' => ∃ (y5 : Option V) (ms : List Int), σ = [some (.ref t), some (.int n), some (.int f), some (.int k), some (.ref D), y5] ∧ But t H H' ∧ Stk H' t (c + 1 + i) ∧ H' D = some (.lst (ms.map V.int)) ∧ ms.length = i ∧ ∀ m ∈ ms, 0 ≤ m ∧ m ≤ 1000000000000000000000000000000)
      ⟨none, [], rfl, u2, k2.mono (by omega), g2, rfl, fun m hm => (List.not_mem_nil hm).elim⟩ (fun i σ H3 hi hP => ?_) (fun σ H3 hP => ?_)⟩
    · obtain ⟨y5, ms, rfl, u3, k3, g3, hlen, hall⟩ := hP
      refine ⟨.ref D, rfl, .inl ⟨rfl, _, SqL.of g3⟩, .ref t, rfl, t, 2, c + 1 + i, rfl, by omega, by omega, k3, by omega, fun v H4 v0 v1 k4 u4 => ?_⟩
      refine ⟨.int (0 + i), rfl, rfl, .inr ⟨decide (V.int (0 + (i : Int)) = V.int 0), rfl, .int (0 + i), rfl, .inl ⟨0 + i, rfl, 0 + i, 3, rfl, rfl, (by show (0 : Int) < 3; decide), rfl, .inr ⟨decide (V.int ((0 + (i : Int)) % 3) = V.int 1), rfl, (by show 5 ≤ sizeLine; decide), fun l hl => ?_⟩⟩⟩⟩
      obtain ⟨x, hx, hat⟩ := at_in (ns := [v, (if decide (V.int (0 + (i : Int)) = V.int 0) = true then 1 else 0), 1, (if decide (V.int ((0 + (i : Int)) % 3) = V.int 1) = true then 1 else 0), 0]) (i := if (4 : Int) < k then 4 else k) (by split <;> omega) (by show _ < ((5 : Nat) : Int); split <;> omega)
      have hx1 : 0 ≤ x ∧ x ≤ 1 := by
        have := List.mem_of_getElem? hx
        simp only [List.mem_cons, List.not_mem_nil, or_false] at this
        rcases this with e | e | e | e | e
        · omega
        · rw [e]; split <;> decide
        · omega
        · rw [e]; split <;> decide
        · omega
      have g4 : H4 D = some (.lst (ms.map V.int)) := u4 _ _ g3 nD
      have sl := new_same (o := .lst (([v, (if decide (V.int (0 + (i : Int)) = V.int 0) = true then 1 else 0), 1, (if decide (V.int ((0 + (i : Int)) % 3) = V.int 1) = true then 1 else 0), 0] : List Int).map V.int)) hl
      refine ⟨.int k, rfl, k, 4, rfl, l, _, _, .int x, rfl, rfl, SqL.of upd_same, hat, D, _, _, rfl, rfl, sl _ _ g4, by rw [List.length_map]; exact sz40 (by omega), ?_⟩
      refine ⟨_, ms ++ [x], rfl, but_over ((u3.trans u4).trans (But.of sl)) hHD, ((k4.same sl).over nD).mono (by omega), ?_, by rw [List.length_append]; show ms.length + 1 = i + 1; omega, fun z hz => ?_⟩
      · rw [upd_same, List.map_append]
        rfl
      · rcases List.mem_append.mp hz with h | h
        · exact hall z h
        · rw [List.mem_singleton.mp h]
          omega
    · obtain ⟨y5, ms, rfl, u3, k3, g3, hlen, hall⟩ := hP
      have hR : Rim ms := ⟨by omega, by omega, hall⟩
      refine ⟨MidSl t H n f k (c + 1 + n + 2 * n), ⟨.int k, rfl, rfl, _, rfl, ite2 (fun _ => ?_) (fun _ => ?_)⟩, fun σ' H6 hM => ?_⟩
      · refine ⟨.int n, rfl, n, rfl, by omega, by omega, fun D2 hD2 => ?_⟩
        have nD2 : D2 ≠ t := k3.ne hD2
        have hHD2 := free_butS u3 hT hD2 nD2
        refine lc_range (lo := 0) (n := n.toNat) (fun i H' => But t H H' ∧ Stk H' t (c + 1 + n + 2 * i) ∧ ∃ ms : List Int, H' D2 = some (.lst (ms.map V.int)) ∧ ms.length = i ∧ ∀ m ∈ ms, 0 ≤ m ∧ m ≤ 1000000000000000000000000000000)
          ⟨but_over u3 hHD2, (k3.up hD2).mono (by omega), [], upd_same, rfl, fun m hm => (List.not_mem_nil hm).elim⟩ (fun i H4 hi hP => ⟨rfl, ?_⟩) (fun H4 hP => ?_)
        · obtain ⟨u4, k4, ms, g4, hlen, hall⟩ := hP
          refine ⟨.ref t, rfl, .int f, rfl, f, 1, rfl, rfl, (by show 2 ≤ sizeLine; decide), fun l hl => ?_⟩
          refine ⟨.ref t, rfl, t, 2, c + 1 + n + 2 * i, rfl, by omega, by omega, k4.up hl, by omega, fun v H5 v0 v1 k5 u5 => ?_⟩
          have g5 : H5 l = some (.lst (([10, f + 1] : List Int).map V.int)) := u5 _ _ upd_same (k4.ne hl)
          obtain ⟨x, hx, hat⟩ := at_in (ns := [10, f + 1]) v0 (by show v < 2; omega)
          have hx1 : 1 ≤ x ∧ x ≤ 1000000000000000000000000000001 := by
            have := List.mem_of_getElem? hx
            simp only [List.mem_cons, List.not_mem_nil, or_false] at this
            omega
          refine ⟨l, _, v, .int x, rfl, rfl, SqL.of g5, hat, t, x, c + 1 + n + 2 * i + 1, rfl, by omega, by omega, k5, by omega, fun y H6 y0 y1 k6 u6 => ?_⟩
          have u46 := ((But.of (new_same hl)).trans u5).trans u6
          refine ⟨_, u46 _ _ g4 nD2, by rw [List.length_map]; exact sz40 (by omega), but_over (u4.trans u46) hHD2, (k6.over nD2).mono (by omega), ms ++ [y], ?_, by rw [List.length_append]; show ms.length + 1 = i + 1; omega, fun z hz => ?_⟩
          · rw [upd_same, List.map_append]
            rfl
          · rcases List.mem_append.mp hz with h | h
            · exact hall z h
            · rw [List.mem_singleton.mp h]
              omega
        · obtain ⟨u4, k4, ms, g4, hlen, hall⟩ := hP
          exact ⟨D2, ms, _, rfl, ⟨by omega, by omega, hall⟩, by omega, hHD2, g4, u4, k4.mono (by omega)⟩
      · exact ⟨D, ms, _, rfl, hR, by omega, hHD, g3, u3, k3.mono (by omega)⟩
      · obtain ⟨D6, n6, y5, rfl, hR6, hn6, hHD6, g6, u6, k6⟩ := hM
        refine ⟨MidSl t H n f k (c + 1 + n + 2 * n + 2 * n), ⟨.int k, rfl, rfl, _, rfl, ite2 (fun _ => ?_) (fun _ => ?_)⟩, fun σ' H8 hM => ?_⟩
        · refine ⟨.int n, rfl, n, rfl, by omega, by omega, fun D2 hD2 => ?_⟩
          have nD2 : D2 ≠ t := k6.ne hD2
          have hHD2 := free_butS u6 hT hD2 nD2
          refine lc_range (lo := 0) (n := n.toNat) (fun i H' => But t H H' ∧ Stk H' t (c + 1 + n + 2 * n + 2 * i) ∧ ∃ ms : List Int, H' D2 = some (.lst (ms.map V.int)) ∧ ms.length = i ∧ ∀ m ∈ ms, 0 ≤ m ∧ m ≤ 1000000000000000000000000000000)
            ⟨but_over u6 hHD2, (k6.up hD2).mono (by omega), [], upd_same, rfl, fun m hm => (List.not_mem_nil hm).elim⟩ (fun i H4 hi hP => ⟨rfl, ?_⟩) (fun H4 hP => ?_)
          · obtain ⟨u4, k4, ms, g4, hlen, hall⟩ := hP
            refine ⟨.int f, rfl, .ref t, rfl, .int f, rfl, f, 1, rfl, rfl, t, f + 1, c + 1 + n + 2 * n + 2 * i, rfl, by omega, by omega, k4, by omega, fun v H5 v0 v1 k5 u5 => ?_⟩
            refine ⟨(by show 3 ≤ sizeLine; decide), fun l hl => ?_⟩
            refine ⟨.ref t, rfl, t, 3, c + 1 + n + 2 * n + 2 * i + 1, rfl, by omega, by omega, k5.up hl, by omega, fun y H6 y0 y1 k6 u6 => ?_⟩
            have g5 : H6 l = some (.lst (([0, f, v] : List Int).map V.int)) := u6 _ _ upd_same (k5.ne hl)
            obtain ⟨x, hx, hat⟩ := at_in (ns := [0, f, v]) y0 (by show y < 3; omega)
            have hx1 : 0 ≤ x ∧ x ≤ 1000000000000000000000000000000 := by
              have := List.mem_of_getElem? hx
              simp only [List.mem_cons, List.not_mem_nil, or_false] at this
              omega
            have u46 := (u5.trans (But.of (new_same hl))).trans u6
            refine ⟨l, _, y, .int x, rfl, rfl, SqL.of g5, hat, _, u46 _ _ g4 nD2, by rw [List.length_map]; exact sz40 (by omega), but_over (u4.trans u46) hHD2, (k6.over nD2).mono (by omega), ms ++ [x], ?_, by rw [List.length_append]; show ms.length + 1 = i + 1; omega, fun z hz => ?_⟩
            · rw [upd_same, List.map_append]
              rfl
            · rcases List.mem_append.mp hz with h | h
              · exact hall z h
              · rw [List.mem_singleton.mp h]
                omega
          · obtain ⟨u4, k4, ms, g4, hlen, hall⟩ := hP
            exact ⟨D2, ms, _, rfl, ⟨by omega, by omega, hall⟩, by omega, hHD2, g4, u4, k4.mono (by omega)⟩
        · exact ⟨D6, n6, _, rfl, hR6, hn6, hHD6, g6, u6, k6.mono (by omega)⟩
        · obtain ⟨D8, n8, y5, rfl, hR8, hn8, hHD8, g8, u8, k8⟩ := hM
          exact ⟨.ref D8, rfl, q D8 n8 H8 hR8 hn8 u8 hHD8 g8 (k8.mono (by omega))⟩

def spLTurned (K : PySem.W.Frag) : Sp := fun vs H Q _ => ∃ (a : Addr) (ns : List Int) (t : Int), vs = [.ref a, .int t] ∧ SqL K H a (ns.map V.int) ∧ 1 ≤ ns.length ∧ ns.length ≤ 1000 ∧
  ∀ (l : Addr) (H' : Hp), Same H H' → H l = none → H' l = some (.lst ((rot ns t).map V.int)) → Q (.ref l) H'
def spLMirrored (K : PySem.W.Frag) : Sp := fun vs H Q _ => ∃ (a : Addr) (ns : List Int), vs = [.ref a] ∧ SqL K H a (ns.map V.int) ∧ 1 ≤ ns.length ∧ ns.length ≤ 1000 ∧
  ∀ (l : Addr) (H' : Hp), Same H H' → H l = none → H' l = some (.lst ((mir ns).map V.int)) → Q (.ref l) H'

/-! ### slitdiscs.around -/
def spTurnedList (K : PySem.W.Frag) : Sp := spLTurned K
theorem ok_turned_list (T : Txt K mg) : FnOk P w K mg base CX0 1 T.a_turned_list T.d_turned_list ["items", "turn"] (spTurnedList K) := by
  refine T.F_turned_list.ok sc_turned_list (fun vs H Q E h => ?_) (fun cdv A outer s H vs Q E hr h => ?_)
  · obtain ⟨_, _, _, rfl, _⟩ := h
    rfl
  · obtain ⟨a, ns, t, rfl, hS, hn1, hn, q⟩ := h
    refine ⟨_, (pss_cons (ps_set (i := 2) sc_turned_list.nd rfl (.inr rfl) (pe_callB (lenL (K := K) rfl) (by rfl) T.n_len (by decide +kernel) (pa_cons (pv 0) pa_nil)))
      (pss_one (ps_ret (pe_lc (own := [("slot", 3)]) (g := gName 3) (tt := tYes) (by rfl) sc_turned_list.nd (pi_range1 (by rfl) T.n_range (pa_cons (pv 2) pa_nil)) (blkOk_by (own := [("slot", 3)]) (N := ["items", "turn", "size", "slot"]) (sc := defScope s_turned_list) (by decide +kernel))
        (fun _ _ _ _ _ => (pg_name (i := 3) sc_turned_list.nd rfl (Or.inl rfl))) (fun _ _ _ _ _ => pts_nil) (fun _ _ _ _ _ => (pe_ix (ixL (K := K) rfl) (pv 0) (pe_op op_mod (pe_op op_sub (pv 3) (pv 1)) (pv 2)) (fun _ _ => rfl))))))), ?_⟩
    refine ⟨.ref a, rfl, a, _, rfl, .inl hS, ?_⟩
    rw [List.length_map]
    refine ⟨.int ns.length, rfl, ns.length, rfl, by omega, by omega, fun D hD => lc_range (lo := 0) (n := ((ns.length : Nat) : Int).toNat)
      (fun i H' => Same H H' ∧ H' D = some (.lst (((rot ns t).take i).map V.int))) ⟨new_same hD, upd_same⟩ (fun i H1 hi hP => ⟨rfl, ?_⟩) (fun H1 hP => ?_)⟩
    · obtain ⟨s1, hD1⟩ := hP
      rw [Int.toNat_natCast] at hi
      have hm := mod_in (i := (0 + (i : Int)) - t) (show 0 < ns.length by omega)
      obtain ⟨n, hx, hat⟩ := at_in hm.1 hm.2
      refine ⟨.ref a, rfl, .int (0 + i), rfl, .int t, rfl, 0 + i, t, rfl, rfl, .int ns.length, rfl, _, _, rfl, rfl, (by show (0 : Int) < _; omega), ?_⟩
      refine ⟨a, _, _, .int n, rfl, rfl, s1.seq hS, hat, _, hD1, ?_, ?_, ?_⟩
      · rw [List.length_map, List.length_take]
        exact sz40 (by omega)
      · intro b o e
        rw [upd_ne (ne_of_none e hD)]
        exact s1 b o e
      · rw [upd_same, take_next]
        rw [rot_at hi]
        rw [show (i : Int) - t = 0 + (i : Int) - t by omega, getD_at hx]
    · obtain ⟨s1, hD1⟩ := hP
      rw [Int.toNat_natCast, take_all (by rw [rot_len]; exact Nat.le_refl _)] at hD1
      exact q D H1 s1 hD hD1

/-! ### slitdiscs.checks, over rims -/
def spIsInt : Sp := fun vs H Q _ => ∃ n : Int, vs = [.int n] ∧ Q (.bl true) H
theorem ok_is_integer (T : Txt K mg) : FnOk P w K mg base CX0 1 T.a_is_integer T.d_is_integer ["value"] spIsInt := by
  refine T.F_is_integer.ok sc_is_integer (fun vs H Q E h => ?_) (fun cdv A outer s H vs Q E hr h => ?_)
  · obtain ⟨_, rfl, _⟩ := h
    rfl
  · obtain ⟨n, rfl, q⟩ := h
    refine ⟨_, (pss_one (ps_ret (pe_and (pe_callB (isiL (K := K) rfl) (by rfl) T.n_isinstance (by decide +kernel) (pa_cons (pv 0) (pa_cons (pe_bltn (v := .ty "int") (u := Value.type "int") rfl T.n_int (by decide +kernel) rfl) pa_nil))) (pe_one (pe_not (pe_callB (isiL (K := K) rfl) (by rfl) T.n_isinstance (by decide +kernel) (pa_cons (pv 0) (pa_cons (pe_bltn (v := .ty "bool") (u := Value.type "bool") rfl T.n_bool (by decide +kernel) rfl) pa_nil)))))))), ?_⟩
    refine ⟨.int n, rfl, .int n, .ty "int", _, _, true, rfl, .ty _, .base (.int n), kit_int_int, true, rfl, iteT ?_⟩
    exact ⟨.int n, rfl, .int n, .ty "bool", _, _, false, rfl, .ty _, .base (.int n), kit_int_bool, false, rfl, q⟩
def spHasSlots (K : PySem.W.Frag) : Sp := fun vs H Q _ => ∃ (a : Addr) (xs : List V), vs = [.ref a] ∧ SqL K H a xs ∧ 1 ≤ xs.length ∧ xs.length ≤ 40 ∧ Q (.bl true) H
theorem ok_has_slots (T : Txt K mg) : FnOk P w K mg base CX0 1 T.a_has_slots T.d_has_slots ["value"] (spHasSlots K) := by
  refine T.F_has_slots.ok sc_has_slots (fun vs H Q E h => ?_) (fun cdv A outer s H vs Q E hr h => ?_)
  · obtain ⟨_, _, rfl, _⟩ := h
    rfl
  · obtain ⟨a, xs, rfl, hS, h1, h40, q⟩ := h
    refine ⟨_, (pss_one (ps_ret (pe_and (pe_callB (isiL (K := K) rfl) (by rfl) T.n_isinstance (by decide +kernel) (pa_cons (pv 0) (pa_cons (pe_bltn (v := .ty "list") (u := Value.type "list") rfl T.n_list (by decide +kernel) rfl) pa_nil))) (pe_one (pe_chain op_le op_le pe_int (pe_callB (lenL (K := K) rfl) (by rfl) T.n_len (by decide +kernel) (pa_cons (pv 0) pa_nil)) (pe_glob (v := .int (40)) rfl T.g_MOST_SLOTS ⟨_, rfl⟩)))))), ?_⟩
    refine ⟨.ref a, rfl, .ref a, .ty "list", _, _, true, rfl, .ty _, tyx_list hS, kit_list_list, true, rfl, iteT ?_⟩
    refine ⟨.ref a, rfl, a, _, rfl, .inl hS, 1, _, rfl, rfl, _, rfl, ?_⟩
    rw [if_pos (decide_eq_true (by omega))]
    refine ⟨_, 40, rfl, rfl, ?_⟩
    show Q (.bl (decide ((xs.length : Int) ≤ 40))) H
    rw [decide_eq_true (show (xs.length : Int) ≤ 40 by omega)]
    exact q
def spWrongLight (K : PySem.W.Frag) : Sp := fun vs H Q _ => ∃ (a : Addr) (ns : List Int) (m : Int), vs = [.ref a, .int m] ∧ SqL K H a (ns.map V.int) ∧ (∀ n ∈ ns, 0 ≤ n ∧ n ≤ m) ∧ ∀ H', Same H H' → Q .non H'
theorem ok_wrong_light (T : Txt K mg) : FnOk P w K mg base CX0 2 T.a_wrong_light T.d_wrong_light ["items", "most"] (spWrongLight K) := by
  have G_is_integer := ok_is_integer (P := P) (w := w) (base := base) T
  refine T.F_wrong_light.ok sc_wrong_light (fun vs H Q E h => ?_) (fun cdv A outer s H vs Q E hr h => ?_)
  · obtain ⟨_, _, _, rfl, _⟩ := h
    rfl
  · obtain ⟨a, ns, m, rfl, hS, hR, q⟩ := h
    refine ⟨_, (pss_cons (ps_for PassesOwn.never rfl (enumL (K := K) rfl (by rfl) T.n_enumerate (pa_cons (pv 0) pa_nil)) (pg_tupL (K := K) (n := 2) rfl rfl (pgs_cons (pg_name (i := 2) sc_wrong_light.nd rfl (.inl rfl)) (pgs_cons (pg_name (i := 3) sc_wrong_light.nd rfl (.inl rfl)) pgs_nil))) (pss_one (ps_if (PW.pt (pw_or (pt_not (pt_val (pe_call G_is_integer hr (by rfl) T.g_is_integer T.F_is_integer.kp T.b_is_integer .nil pass0 (pa_cons (pv 3) pa_nil)))) (pw_or1 (pt_not (pt_chain op_le op_le pe_int (pv 3) (pv 1)))))) (pss_one (ps_ret (pv 2))) pss_nil)))
      (pss_one (ps_ret pe_non))), ?_⟩
    refine ⟨.ref a, rfl, a, _, rfl, hS, for_it (walk_enum (K := K) (xs := ns.map V.int)) (fun i σ H' => ∃ y1 y2 : Option V, σ = [some (.ref a), some (.int m), y1, y2] ∧ Same H H')
      ⟨none, none, rfl, Same.refl H⟩ (fun i σ H' _ ⟨_, _, _, s2⟩ => s2.seq hS) (fun i x σ H1 H2 hi hP hY => ?_) (fun σ H1 hP => ?_)⟩
    · obtain ⟨y1, y2, rfl, s1⟩ := hP
      obtain ⟨p, z1, z2, rfl, hp, rfl, e1, e2⟩ := hY
      obtain ⟨n, hn, rfl⟩ := int_at e2
      have hb := hR n (List.mem_of_getElem? hn)
      refine ⟨p, _, rfl, SqT.of upd_same, rfl, _, _, rfl, _, _, rfl, rfl, ?_⟩
      refine ⟨.int n, rfl, n, rfl, true, rfl, iteF ?_⟩
      refine ⟨.int n, rfl, 0, n, rfl, rfl, _, rfl, ?_⟩
      rw [if_pos (decide_eq_true hb.1)]
      refine ⟨.int m, rfl, n, m, rfl, rfl, _, rfl, iteNS hb.2 ?_⟩
      exact ⟨_, _, rfl, s1.trans (new_same hp)⟩
    · obtain ⟨y1, y2, rfl, s1⟩ := hP
      exact q H1 s1
def spWrongSlot (K : PySem.W.Frag) : Sp := fun vs H Q _ => ∃ (a : Addr) (ns : List Int), vs = [.ref a] ∧ SqL K H a (ns.map V.int) ∧ Rim ns ∧ ∀ H', Same H H' → Q .non H'
theorem ok_wrong_slot (T : Txt K mg) : FnOk P w K mg base CX0 3 T.a_wrong_slot T.d_wrong_slot ["items"] (spWrongSlot K) := by
  have G_wrong_light := ok_wrong_light (P := P) (w := w) (base := base) T
  refine T.F_wrong_slot.ok sc_wrong_slot (fun vs H Q E h => ?_) (fun cdv A outer s H vs Q E hr h => ?_)
  · obtain ⟨_, _, rfl, _⟩ := h
    rfl
  · obtain ⟨a, ns, rfl, hS, hR, q⟩ := h
    refine ⟨_, (pss_one (ps_ret (pe_call G_wrong_light hr (by rfl) T.g_wrong_light T.F_wrong_light.kp T.b_wrong_light .nil pass0 (pa_cons (pv 0) (pa_cons (pe_glob (v := .int (1000000000000000000000000000000)) rfl T.g_MOST_LIGHT ⟨_, rfl⟩) pa_nil))))), ?_⟩
    exact ⟨.ref a, rfl, a, ns, _, rfl, hS, hR.all, q⟩
def spCheckDisc (K : PySem.W.Frag) : Sp := spWrongSlot K
theorem ok_check_disc (T : Txt K mg) : FnOk P w K mg base CX0 4 T.a_check_disc T.d_check_disc ["disc"] (spCheckDisc K) := by
  have G_has_slots := ok_has_slots (P := P) (w := w) (base := base) T
  have G_wrong_slot := ok_wrong_slot (P := P) (w := w) (base := base) T
  refine T.F_check_disc.ok sc_check_disc (fun vs H Q E h => ?_) (fun cdv A outer s H vs Q E hr h => ?_)
  · obtain ⟨_, _, rfl, _⟩ := h
    rfl
  · obtain ⟨a, ns, rfl, hS, hR, q⟩ := h
    refine ⟨_, (pss_cons (ps_if (pt_not (pt_val (pe_call G_has_slots (hr.mono (by decide)) (by rfl) T.g_has_slots T.F_has_slots.kp T.b_has_slots .nil pass0 (pa_cons (pv 0) pa_nil)))) (pss_one ps_never) pss_nil)
      (pss_cons (ps_set (i := 1) sc_check_disc.nd rfl (.inl rfl) (pe_call G_wrong_slot hr (by rfl) T.g_wrong_slot T.F_wrong_slot.kp T.b_wrong_slot .nil pass0 (pa_cons (pv 0) pa_nil)))
      (pss_one (ps_if (pt_cmpR op_notN (pv 1) pe_non (nomark _)) (pss_one ps_never) pss_nil)))), ?_⟩
    refine ⟨.ref a, rfl, a, _, rfl, hS, by rw [List.length_map]; exact hR.pos, by rw [List.length_map]; exact hR.le, true, rfl, iteF ?_⟩
    refine ⟨.ref a, rfl, a, ns, rfl, hS, hR, fun H1 s1 => ?_⟩
    refine ⟨.non, rfl, rfl, _, rfl, iteNS rfl ?_⟩
    exact q H1 s1

/-! ### looks judged -/
theorem tyx_tup {K : PySem.W.Frag} {H : Hp} {a : Addr} {xs : List V} (h : H a = some (.tup xs)) : TyX K H (.ref a) (.type "tuple") := .base (.tup h)
theorem kit_tup_tup {K : PySem.W.Frag} : PySem.W.kitOne K (.type "tuple") (.type "tuple") = some true := kit_ty (by decide +kernel)
def spWrongIntT (K : PySem.W.Frag) : Sp := fun vs H Q _ => ∃ (a : Addr) (ns : List Int), vs = [.ref a] ∧ SqT K H a (ns.map V.int) ∧ ∀ H', Same H H' → Q .non H'
theorem sqT_same {K : PySem.W.Frag} {H H' : Hp} {a : Addr} {xs : List V} (h : H a = some (.tup xs)) (s : Same H H') : SqT K H' a xs := SqT.of (s _ _ h)
def spWrongT : Sp := fun vs H Q _ => ∃ (a : Addr) (ns : List Int), vs = [.ref a] ∧ H a = some (.tup (ns.map V.int)) ∧ ∀ H', Same H H' → Q .non H'
theorem ok_wrong_integer (T : Txt K mg) : FnOk P w K mg base CX0 2 T.a_wrong_integer T.d_wrong_integer ["items"] spWrongT := by
  have G_is_integer := ok_is_integer (P := P) (w := w) (base := base) T
  refine T.F_wrong_integer.ok sc_wrong_integer (fun vs H Q E h => ?_) (fun cdv A outer s H vs Q E hr h => ?_)
  · obtain ⟨_, _, rfl, _⟩ := h
    rfl
  · obtain ⟨a, ns, rfl, hS, q⟩ := h
    refine ⟨_, (pss_cons (ps_for PassesOwn.never rfl (enumT (K := K) rfl (by rfl) T.n_enumerate (pa_cons (pv 0) pa_nil)) (pg_tupL (K := K) (n := 2) rfl rfl (pgs_cons (pg_name (i := 1) sc_wrong_integer.nd rfl (.inl rfl)) (pgs_cons (pg_name (i := 2) sc_wrong_integer.nd rfl (.inl rfl)) pgs_nil))) (pss_one (ps_if (pt_not (pt_val (pe_call G_is_integer hr (by rfl) T.g_is_integer T.F_is_integer.kp T.b_is_integer .nil pass0 (pa_cons (pv 2) pa_nil)))) (pss_one (ps_ret (pv 1))) pss_nil)))
      (pss_one (ps_ret pe_non))), ?_⟩
    refine ⟨.ref a, rfl, a, _, rfl, SqT.of hS, for_it (walk_enumT (K := K) (xs := ns.map V.int)) (fun i σ H' => ∃ y1 y2 : Option V, σ = [some (.ref a), y1, y2] ∧ Same H H')
      ⟨none, none, rfl, Same.refl H⟩ (fun i σ H' _ ⟨_, _, _, s2⟩ => sqT_same hS s2) (fun i x σ H1 H2 hi hP hY => ?_) (fun σ H1 hP => ?_)⟩
    · obtain ⟨y1, y2, rfl, s1⟩ := hP
      obtain ⟨p, z1, z2, rfl, hp, rfl, e1, e2⟩ := hY
      obtain ⟨m, hm, rfl⟩ := int_at e2
      refine ⟨p, _, rfl, SqT.of upd_same, rfl, _, _, rfl, _, _, rfl, rfl, ?_⟩
      refine ⟨.int m, rfl, m, rfl, true, rfl, iteF ?_⟩
      exact ⟨_, _, rfl, s1.trans (new_same hp)⟩
    · obtain ⟨y1, y2, rfl, s1⟩ := hP
      exact q H1 s1
def spIsLook : Sp := fun vs H Q _ => ∃ (t : Addr) (p : Int × Int), vs = [.ref t] ∧ H t = some (.tup [.int p.1, .int p.2]) ∧ 0 ≤ p.2 ∧ ∀ H', Same H H' → Q (.bl true) H'
theorem ok_is_look (T : Txt K mg) : FnOk P w K mg base CX0 3 T.a_is_look T.d_is_look ["value"] spIsLook := by
  have G_wrong_integer := ok_wrong_integer (P := P) (w := w) (base := base) T
  refine T.F_is_look.ok sc_is_look (fun vs H Q E h => ?_) (fun cdv A outer s H vs Q E hr h => ?_)
  · obtain ⟨_, _, rfl, _⟩ := h
    rfl
  · obtain ⟨t, p, rfl, hT, h0, q⟩ := h
    refine ⟨_, (pss_one (ps_ret (pe_and (pe_callB (isiL (K := K) rfl) (by rfl) T.n_isinstance (by decide +kernel) (pa_cons (pv 0) (pa_cons (pe_bltn (v := .ty "tuple") (u := Value.type "tuple") rfl T.n_tuple (by decide +kernel) rfl) pa_nil))) (pe_and (pe_cmpR op_eq (pe_callB (lenL (K := K) rfl) (by rfl) T.n_len (by decide +kernel) (pa_cons (pv 0) pa_nil)) pe_int (nomark _)) (pe_and (pe_cmpR op_isN (pe_call G_wrong_integer hr (by rfl) T.g_wrong_integer T.F_wrong_integer.kp T.b_wrong_integer .nil pass0 (pa_cons (pv 0) pa_nil)) pe_non (nomark _)) (pe_one (pe_cmpR op_ge (pe_ix (ixTL (K := K) rfl) (pv 0) pe_int (fun _ _ => rfl)) pe_int (nomark _)))))))), ?_⟩
    refine ⟨.ref t, rfl, .ref t, .ty "tuple", _, _, true, rfl, .ty _, tyx_tup hT, kit_tup_tup, true, rfl, iteT ?_⟩
    refine ⟨.ref t, rfl, t, _, rfl, .inr (SqT.of hT), rfl, true, rfl, iteT ?_⟩
    refine ⟨.ref t, rfl, t, [p.1, p.2], rfl, hT, fun H1 s1 => ?_⟩
    refine ⟨rfl, true, rfl, iteT ?_⟩
    refine ⟨.ref t, rfl, t, _, 1, .int p.2, rfl, rfl, SqT.of (s1 _ _ hT), rfl, p.2, 0, rfl, rfl, ?_⟩
    show Q (.bl (decide (p.2 ≥ 0))) _
    rw [decide_eq_true (show p.2 ≥ 0 from h0)]
    exact q H1 s1
def spCheckLooks (K : PySem.W.Frag) : Sp := fun vs H Q _ => ∃ (l : Addr) (xs : List V) (ps : List (Int × Int)), vs = [.ref l] ∧ SqL K H l xs ∧ Prs H xs ps ∧ (∀ p ∈ ps, 0 ≤ p.2) ∧ ps.length ≤ 40 ∧ ∀ H', Same H H' → Q .non H'
theorem ok_check_looks (T : Txt K mg) : FnOk P w K mg base CX0 4 T.a_check_looks T.d_check_looks ["looks"] (spCheckLooks K) := by
  have G_is_look := ok_is_look (P := P) (w := w) (base := base) T
  refine T.F_check_looks.ok sc_check_looks (fun vs H Q E h => ?_) (fun cdv A outer s H vs Q E hr h => ?_)
  · obtain ⟨_, _, _, rfl, _⟩ := h
    rfl
  · obtain ⟨l, xs, ps, rfl, hS, hP, hb, hl, q⟩ := h
    refine ⟨_, (pss_cons (ps_if (PW.pt (pw_or (pt_not (pt_val (pe_callB (isiL (K := K) rfl) (by rfl) T.n_isinstance (by decide +kernel) (pa_cons (pv 0) (pa_cons (pe_bltn (v := .ty "list") (u := Value.type "list") rfl T.n_list (by decide +kernel) rfl) pa_nil))))) (pw_or1 (pt_cmpR op_gt (pe_callB (lenL (K := K) rfl) (by rfl) T.n_len (by decide +kernel) (pa_cons (pv 0) pa_nil)) (pe_glob (v := .int (40)) rfl T.g_MOST_LOOKS ⟨_, rfl⟩) (nomark _))))) (pss_one ps_never) pss_nil)
      (pss_one (ps_for PassesOwn.never rfl (enumL (K := K) rfl (by rfl) T.n_enumerate (pa_cons (pv 0) pa_nil)) (pg_tupL (K := K) (n := 2) rfl rfl (pgs_cons (pg_name (i := 1) sc_check_looks.nd rfl (.inl rfl)) (pgs_cons (pg_name (i := 2) sc_check_looks.nd rfl (.inl rfl)) pgs_nil))) (pss_one (ps_if (pt_not (pt_val (pe_call G_is_look hr (by rfl) T.g_is_look T.F_is_look.kp T.b_is_look .nil pass0 (pa_cons (pv 2) pa_nil)))) (pss_one ps_never) pss_nil))))), ?_⟩
    have hxl := hP.len
    refine ⟨.ref l, rfl, .ref l, .ty "list", _, _, true, rfl, .ty _, tyx_list hS, kit_list_list, true, rfl, iteF ?_⟩
    refine ⟨.ref l, rfl, l, _, rfl, .inl hS, _, 40, rfl, rfl, _, rfl, ite2 (fun h => absurd (of_decide_eq_true h) (by omega)) (fun _ => ?_)⟩
    refine ⟨.ref l, rfl, l, _, rfl, hS, for_it (walk_enum (K := K) (xs := xs)) (fun i σ H' => ∃ y1 y2 : Option V, σ = [some (.ref l), y1, y2] ∧ Same H H')
      ⟨none, none, rfl, Same.refl H⟩ (fun i σ H' _ ⟨_, _, _, s2⟩ => s2.seq hS) (fun i x σ H1 H2 hi hQ hY => ?_) (fun σ H1 hQ => ?_)⟩
    · obtain ⟨y1, y2, rfl, s1⟩ := hQ
      obtain ⟨p, z1, z2, rfl, hp, rfl, e1, e2⟩ := hY
      obtain ⟨t, r, rfl, hr1, et⟩ := hP.at e2
      have s2 := s1.trans (new_same (o := .tup [z1, .ref t]) hp)
      refine ⟨p, _, rfl, SqT.of upd_same, rfl, _, _, rfl, _, _, rfl, rfl, ?_⟩
      refine ⟨.ref t, rfl, t, r, rfl, s2 _ _ et, hb r (List.mem_of_getElem? hr1), fun H3 s3 => ⟨true, rfl, iteF ?_⟩⟩
      exact ⟨_, _, rfl, s2.trans s3⟩
    · obtain ⟨y1, y2, rfl, s1⟩ := hQ
      exact q H1 s1
def spAtMost (K : PySem.W.Frag) : Sp := fun vs H Q _ => ∃ (a : Addr) (xs : List V) (m : Int), vs = [.ref a, .int m] ∧ SqL K H a xs ∧ (xs.length : Int) ≤ m ∧ Q .non H
theorem ok_check_slots_at_most (T : Txt K mg) : FnOk P w K mg base CX0 1 T.a_check_slots_at_most T.d_check_slots_at_most ["disc", "most"] (spAtMost K) := by
  refine T.F_check_slots_at_most.ok sc_check_slots_at_most (fun vs H Q E h => ?_) (fun cdv A outer s H vs Q E hr h => ?_)
  · obtain ⟨_, _, _, rfl, _⟩ := h
    rfl
  · obtain ⟨a, xs, m, rfl, hS, hl, q⟩ := h
    refine ⟨_, (pss_one (ps_if (pt_cmpR op_gt (pe_callB (lenL (K := K) rfl) (by rfl) T.n_len (by decide +kernel) (pa_cons (pv 0) pa_nil)) (pv 1) (nomark _)) (pss_one ps_never) pss_nil)), ?_⟩
    exact ⟨.ref a, rfl, a, _, rfl, .inl hS, .int m, rfl, _, m, rfl, rfl, _, rfl, ite2 (fun h => absurd (of_decide_eq_true h) (by omega)) (fun _ => q)⟩
def spCheckSeen (K : PySem.W.Frag) : Sp := fun vs H Q _ => ∃ (a l : Addr) (ns : List Int) (xs : List V) (ps : List (Int × Int)) (m : Int), vs = [.ref a, .ref l, .int m] ∧ SqL K H a (ns.map V.int) ∧ Rim ns ∧ (ns.length : Int) ≤ m ∧
  SqL K H l xs ∧ Prs H xs ps ∧ (∀ p ∈ ps, 0 ≤ p.2) ∧ ps.length ≤ 40 ∧ ∀ H', Same H H' → Q .non H'
theorem ok_check_seen (T : Txt K mg) : FnOk P w K mg base CX0 5 T.a_check_seen T.d_check_seen ["disc", "looks", "most"] (spCheckSeen K) := by
  have G_check_disc := ok_check_disc (P := P) (w := w) (base := base) T
  have G_check_slots_at_most := ok_check_slots_at_most (P := P) (w := w) (base := base) T
  have G_check_looks := ok_check_looks (P := P) (w := w) (base := base) T
  refine T.F_check_seen.ok sc_check_seen (fun vs H Q E h => ?_) (fun cdv A outer s H vs Q E hr h => ?_)
  · obtain ⟨_, _, _, _, _, _, rfl, _⟩ := h
    rfl
  · obtain ⟨a, l, ns, xs, ps, m, rfl, hS, hR, hm, hL, hP, hb, hl, q⟩ := h
    refine ⟨_, (pss_cons (ps_expr (pe_call G_check_disc hr (by rfl) T.g_check_disc T.F_check_disc.kp T.b_check_disc .nil pass0 (pa_cons (pv 0) pa_nil)))
      (pss_cons (ps_expr (pe_call G_check_slots_at_most (hr.mono (by decide)) (by rfl) T.g_check_slots_at_most T.F_check_slots_at_most.kp T.b_check_slots_at_most .nil pass0 (pa_cons (pv 0) (pa_cons (pv 2) pa_nil))))
      (pss_one (ps_expr (pe_call G_check_looks hr (by rfl) T.g_check_looks T.F_check_looks.kp T.b_check_looks .nil pass0 (pa_cons (pv 1) pa_nil)))))), ?_⟩
    refine ⟨.ref a, rfl, a, ns, rfl, hS, hR, fun H1 s1 => ?_⟩
    refine ⟨.ref a, rfl, .int m, rfl, a, _, m, rfl, s1.seq hS, by rw [List.length_map]; exact hm, ?_⟩
    exact ⟨.ref l, rfl, l, xs, ps, rfl, s1.seq hL, hP.up s1, hb, hl, fun H2 s2 => q H2 (s1.trans s2)⟩

/-! ### the rows that fit, as numbers -/
theorem rgV_nat (n : Nat) : rgV 0 (n : Int) = (natI (List.range n)).map V.int := by
  unfold rgV natI
  rw [List.map_map, Int.sub_zero, Int.toNat_natCast]
  exact List.map_congr_left fun i _ => by show V.int (0 + (i : Int)) = V.int (i : Int); rw [Int.zero_add]
theorem shl_one (n : Nat) : (1 : Int) * 2 ^ (n : Int).toNat = ((2 ^ n : Nat) : Int) := by
  rw [Int.one_mul, Int.toNat_natCast, Int.natCast_pow]
  rfl
theorem pow_le12 {n : Nat} (h : n ≤ 12) : 2 ^ n ≤ 4096 := Nat.pow_le_pow_right (by decide) h
def spAllN (K : PySem.W.Frag) : Sp := fun vs H Q _ => ∃ (a : Addr) (ns : List Int), vs = [.ref a] ∧ SqL K H a (ns.map V.int) ∧ ns.length ≤ 12 ∧
  ∀ (l : Addr) (H' : Hp), Same H H' → H l = none → H' l = some (.lst ((natI (List.range (2 ^ ns.length))).map V.int)) → Q (.ref l) H'
theorem ok_all_numbers (T : Txt K mg) : FnOk P w K mg base CX0 1 T.a_all_numbers T.d_all_numbers ["disc"] (spAllN K) := by
  refine T.F_all_numbers.ok sc_all_numbers (fun vs H Q E h => ?_) (fun cdv A outer s H vs Q E hr h => ?_)
  · obtain ⟨_, _, rfl, _⟩ := h
    rfl
  · obtain ⟨a, ns, rfl, hS, hl, q⟩ := h
    refine ⟨_, (pss_one (ps_ret (pe_listRg rfl (by rfl) T.n_list (prg_1 (by rfl) T.n_range (pe_op op_shl pe_int (pe_callB (lenL (K := K) rfl) (by rfl) T.n_len (by decide +kernel) (pa_cons (pv 0) pa_nil))))))), ?_⟩
    have h4 := pow_le12 hl
    refine ⟨.ref a, rfl, a, _, rfl, .inl hS, ?_⟩
    rw [List.length_map]
    refine ⟨1, _, rfl, rfl, ⟨by omega, by omega, by decide⟩, ?_⟩
    show ∃ n : Int, V.int (1 * 2 ^ (ns.length : Int).toNat) = .int n ∧ _
    rw [shl_one]
    generalize 2 ^ ns.length = N at h4 q ⊢
    refine ⟨_, rfl, RgOk.of_le (by omega) (by omega) (by omega) (by omega), fun l hl => ?_⟩
    exact q l _ (new_same hl) hl (by rw [upd_same, rgV_nat])
def spNumLights (K : PySem.W.Frag) : Sp := fun vs H Q _ => ∃ (a : Addr) (ns : List Int) (t : Int), vs = [.ref a, .int t] ∧ SqL K H a (ns.map V.int) ∧ 1 ≤ ns.length ∧ ns.length ≤ 12 ∧
  ∀ (l : Addr) (H' : Hp), Same H H' → H' l = some (.lst ((sumsB (rot ns (-t))).map V.int)) → Q (.ref l) H'
theorem rev_at {xs : List Int} {i : Nat} {v : V} (h : ((xs.map V.int).reverse)[i]? = some v) : ∃ x, v = .int x ∧ i < xs.length ∧ xs.drop (xs.length - 1 - i) = x :: xs.drop (xs.length - i) := by
  have hi : i < xs.length := by
    have := (List.getElem?_eq_some_iff.mp h).1
    rwa [List.length_reverse, List.length_map] at this
  rw [List.getElem?_reverse (by rw [List.length_map]; exact hi), List.length_map] at h
  obtain ⟨x, hx, rfl⟩ := int_at h
  refine ⟨x, rfl, hi, ?_⟩
  have hj : xs.length - 1 - i < xs.length := by omega
  rw [List.drop_eq_getElem_cons hj, show xs.length - 1 - i + 1 = xs.length - i by omega]
  rw [List.getElem?_eq_getElem hj] at hx
  rw [Option.some.inj hx]
theorem ok_numbered_lights (T : Txt K mg) : FnOk P w K mg base CX0 2 T.a_numbered_lights T.d_numbered_lights ["disc", "turn"] (spNumLights K) := by
  have G_turned_list := ok_turned_list (P := P) (w := w) (base := base) T
  refine T.F_numbered_lights.ok sc_numbered_lights (fun vs H Q E h => ?_) (fun cdv A outer s H vs Q E hr h => ?_)
  · obtain ⟨_, _, _, rfl, _⟩ := h
    rfl
  · obtain ⟨a, ns, t, rfl, hS, h1, h12, q⟩ := h
    refine ⟨_, (pss_cons (ps_set (i := 2) sc_numbered_lights.nd rfl (.inl rfl) (pe_lst (pa_cons pe_int pa_nil)))
      (pss_cons (ps_for PassesOwn.never rfl (pi_listL (K := K) rfl (pe_revL (pe_call G_turned_list hr (by rfl) T.g_turned_list T.F_turned_list.kp T.b_turned_list .nil pass0 (pa_cons (pv 0) (pa_cons (pe_un un_neg (pv 1)) pa_nil))))) (pg_name (i := 3) sc_numbered_lights.nd rfl (.inr rfl)) (pss_one (ps_set (i := 2) sc_numbered_lights.nd rfl (.inl rfl) (pe_op op_cat (pv 2) (pe_lc (own := [("light", 4)]) (g := gName 4) (tt := tYes) (by rfl) sc_numbered_lights.nd (pi_listL (K := K) rfl (pv 2)) (blkOk_by (own := [("light", 4)]) (N := ["disc", "turn", "lights", "item", "light"]) (sc := defScope s_numbered_lights) (by decide +kernel))
        (fun _ _ _ _ _ => (pg_name (i := 4) sc_numbered_lights.nd rfl (Or.inl rfl))) (fun _ _ _ _ _ => pts_nil) (fun _ _ _ _ _ => (pe_op op_add (pv 4) (pv 3))))))))
      (pss_one (ps_ret (pv 2))))), ?_⟩
    refine ⟨(by show 1 ≤ sizeLine; decide), fun L hL => ?_⟩
    have s1 := new_same (o := .lst [.int 0]) hL
    have gL : (upd H L (.lst [.int 0])) L = some (.lst ((sumsB []).map V.int)) := upd_same
    generalize upd H L (.lst [.int 0]) = H1 at s1 gL ⊢
    refine ⟨.ref a, rfl, .int t, rfl, t, rfl, a, ns, -t, rfl, s1.seq hS, h1, by omega, fun l H2 s2 f2 e2 => ?_⟩
    obtain ⟨xs, hxs⟩ : ∃ xs, xs = rot ns (-t) := ⟨_, rfl⟩
    rw [← hxs] at e2
    have hxl : xs.length = ns.length := by rw [hxs, rot_len]
    refine ⟨l, _, rfl, SqL.of e2, fun R hR => ?_⟩
    have s3 := (s1.trans s2).trans (new_same (o := .lst (xs.map V.int).reverse) hR)
    have g3 := (new_same (o := .lst (xs.map V.int).reverse) hR) _ _ (s2 _ _ gL)
    have gR : (upd H2 R (.lst (xs.map V.int).reverse)) R = some (.lst (xs.map V.int).reverse) := upd_same
    generalize upd H2 R (.lst (xs.map V.int).reverse) = H3 at s3 g3 gR ⊢
    refine ⟨R, rfl, ⟨_, SqL.of gR⟩, for_list (K := K) (a := R) (xs := (xs.map V.int).reverse)
      (fun i σ H' => ∃ (L' : Addr) (y3 y4 : Option V), σ = [some (.ref a), some (.int t), some (.ref L'), y3, y4] ∧ Same H3 H' ∧ H' L' = some (.lst ((sumsB (xs.drop (xs.length - i))).map V.int)))
      ⟨L, none, none, rfl, Same.refl H3, by rw [Nat.sub_zero, List.drop_length]; exact g3⟩ (fun i σ H' _ ⟨_, _, _, _, s, _⟩ => SqL.of (s _ _ gR)) (fun i x σ H4 hx hP => ?_) (fun σ H4 hP => ?_)⟩
    · obtain ⟨L', y3, y4, rfl, s4, g4⟩ := hP
      obtain ⟨x, rfl, hi, hd⟩ := rev_at hx
      have hsl : (sumsB (xs.drop (xs.length - i))).length ≤ 2048 := by
        rw [sumsB_len, List.length_drop]
        exact Nat.pow_le_pow_right (show 0 < 2 by decide) (show xs.length - (xs.length - i) ≤ 11 by omega)
      refine ⟨.ref L', rfl, .ref L', rfl, L', rfl, ⟨_, SqL.of g4⟩, fun D hD => ?_⟩
      refine lc_list (K := K) (a := L') (xs := (sumsB (xs.drop (xs.length - i))).map V.int) (fun j H' => Same H4 H' ∧ H' D = some (.lst ((((sumsB (xs.drop (xs.length - i))).map (· + x)).take j).map V.int)))
        ⟨new_same hD, upd_same⟩ (fun j H' _ hP => SqL.of (hP.1 _ _ g4)) (fun j v H5 hv hP => ⟨rfl, ?_⟩) (fun H5 hP => ?_)
      · obtain ⟨s5, g5⟩ := hP
        obtain ⟨y, hy, rfl⟩ := int_at hv
        have hj : j < (sumsB (xs.drop (xs.length - i))).length := (List.getElem?_eq_some_iff.mp hy).1
        refine ⟨.int y, rfl, .int x, rfl, y, x, rfl, rfl, _, g5, ?_, same_over s5 hD, ?_⟩
        · rw [List.length_map, List.length_take]
          exact sz40 (by omega)
        · rw [upd_same, take_next (v := y + x) (by rw [List.getElem?_map, hy]; rfl)]
      · obtain ⟨s5, g5⟩ := hP
        rw [List.length_map, take_all (by rw [List.length_map]; exact Nat.le_refl _)] at g5
        refine ⟨L', D, _, _, rfl, rfl, s5 _ _ g4, g5, ?_, fun N hN => ?_⟩
        · rw [List.length_map, List.length_map, List.length_map]
          exact sz40' (by omega)
        · refine ⟨N, _, _, rfl, (s4.trans s5).trans (new_same hN), ?_⟩
          rw [upd_same, show xs.length - (i + 1) = xs.length - 1 - i by omega, hd, ← List.map_append]
          rfl
    · obtain ⟨L', y3, y4, rfl, s4, g4⟩ := hP
      rw [List.length_reverse, List.length_map, Nat.sub_self, List.drop_zero, hxs] at g4
      exact ⟨.ref L', rfl, q L' H4 (s3.trans s4) g4⟩

def spStill (K : PySem.W.Frag) : Sp := fun vs H Q _ => ∃ (f a t : Addr) (ns : List Int) (F : List Nat) (p : Int × Int), vs = [.ref f, .ref a, .ref t] ∧ H f = some (.lst ((natI F).map V.int)) ∧ (∀ b ∈ F, b < 2 ^ ns.length) ∧
  SqL K H a (ns.map V.int) ∧ H t = some (.tup [.int p.1, .int p.2]) ∧ 1 ≤ ns.length ∧ ns.length ≤ 12 ∧ F.length ≤ 4096 ∧
  ∀ (l : Addr) (H' : Hp), Same H H' → H' l = some (.lst ((natI (F.filter (okF ns p))).map V.int)) → Q (.ref l) H'
theorem ok_still_fitting (T : Txt K mg) : FnOk P w K mg base CX0 3 T.a_still_fitting T.d_still_fitting ["fits", "disc", "look"] (spStill K) := by
  have G_numbered_lights := ok_numbered_lights (P := P) (w := w) (base := base) T
  refine T.F_still_fitting.ok sc_still_fitting (fun vs H Q E h => ?_) (fun cdv A outer s H vs Q E hr h => ?_)
  · obtain ⟨_, _, _, _, _, _, rfl, _⟩ := h
    rfl
  · obtain ⟨f, a, t, ns, F, p, rfl, gF, hF, hS, hT, h1, h12, hl, q⟩ := h
    refine ⟨_, (pss_cons (ps_asg (pv 2) (pg_tupL (K := K) (n := 2) rfl rfl (pgs_cons (pg_name (i := 3) sc_still_fitting.nd rfl (.inl rfl)) (pgs_cons (pg_name (i := 4) sc_still_fitting.nd rfl (.inr rfl)) pgs_nil))))
      (pss_cons (ps_set (i := 5) sc_still_fitting.nd rfl (.inr rfl) (pe_call G_numbered_lights hr (by rfl) T.g_numbered_lights T.F_numbered_lights.kp T.b_numbered_lights .nil pass0 (pa_cons (pv 1) (pa_cons (pv 3) pa_nil))))
      (pss_one (ps_ret (pe_lc (own := [("number", 6)]) (g := gName 6) (by rfl) sc_still_fitting.nd (pi_listL (K := K) rfl (pv 0)) (blkOk_by (own := [("number", 6)]) (N := ["fits", "disc", "look", "turn", "light", "lights", "number"]) (sc := defScope s_still_fitting) (by decide +kernel))
        (fun _ _ _ _ _ => (pg_name (i := 6) sc_still_fitting.nd rfl (Or.inl rfl))) (fun _ _ _ _ _ => (pts_one (pt_cmpR op_eq (pe_ix (ixL (K := K) rfl) (pv 5) (pv 6) (fun _ _ => rfl)) (pv 4) (nomark _)))) (fun _ _ _ _ _ => (pv 6))))))), ?_⟩
    refine ⟨.ref t, rfl, t, _, rfl, SqT.of hT, rfl, _, _, rfl, _, _, rfl, rfl, ?_⟩
    refine ⟨.ref a, rfl, .int p.1, rfl, a, ns, p.1, rfl, hS, h1, h12, fun L H1 s1 gL => ?_⟩
    refine ⟨.ref f, rfl, f, rfl, ⟨_, SqL.of (s1 _ _ gF)⟩, fun D hD => ?_⟩
    refine lc_list (K := K) (a := f) (xs := (natI F).map V.int) (fun i H' => Same H1 H' ∧ H' D = some (.lst ((natI ((F.take i).filter (okF ns p))).map V.int)))
      ⟨new_same hD, upd_same⟩ (fun i H' _ hP => SqL.of (hP.1 _ _ (s1 _ _ gF))) (fun i x H2 hx hP => ⟨rfl, ?_⟩) (fun H2 hP => ?_)
    · obtain ⟨s2, g2⟩ := hP
      obtain ⟨z, hz, rfl⟩ := int_at hx
      obtain ⟨b, hb, rfl⟩ := natI_at hz
      have hb2 := hF b (List.mem_of_getElem? hb)
      have hat := atI_nat (at_int (lights_at (t := p.1) h1 hb2))
      have en := filt_next (g := okF ns p) hb
      have hsz : ((natI ((F.take i).filter (okF ns p))).map V.int).length < sizeLine := by
        rw [List.length_map, natI_len]
        exact sz40 (Nat.le_trans (List.length_filter_le _ _) (Nat.le_trans (List.length_take_le' _ _) (by omega)))
      refine ⟨.ref L, rfl, .int b, rfl, L, _, _, .int (lightV ns (bitR ns.length b) p.1), rfl, rfl, SqL.of (s2 _ _ gL), hat, .int p.2, rfl, rfl, _, rfl, ite2 (fun h => ?_) (fun h => ?_)⟩
      · have ho : okF ns p b = true := decide_eq_true (V.int.inj (of_decide_eq_true h))
        refine ⟨.int b, rfl, _, g2, hsz, same_over s2 hD, ?_⟩
        rw [upd_same, en, if_pos ho]
        unfold natI
        rw [List.map_append, List.map_append]
        rfl
      · have ho : ¬ okF ns p b = true := fun e => h (decide_eq_true (congrArg V.int (of_decide_eq_true e)))
        refine ⟨s2, ?_⟩
        rw [en, if_neg ho, List.append_nil]
        exact g2
    · obtain ⟨s2, g2⟩ := hP
      rw [List.length_map, natI_len, List.take_length] at g2
      exact q D H2 (s1.trans s2) g2
def spFits (K : PySem.W.Frag) : Sp := fun vs H Q _ => ∃ (a l : Addr) (ns : List Int) (xs : List V) (ps : List (Int × Int)), vs = [.ref a, .ref l] ∧ SqL K H a (ns.map V.int) ∧ SqL K H l xs ∧ Prs H xs ps ∧ 1 ≤ ns.length ∧ ns.length ≤ 12 ∧
  ∀ (D : Addr) (H' : Hp), Same H H' → H' D = some (.lst ((natI (fitsF ns ps)).map V.int)) → Q (.ref D) H'
theorem ok_fits (T : Txt K mg) : FnOk P w K mg base CX0 4 T.a_fits T.d_fits ["disc", "looks"] (spFits K) := by
  have G_all_numbers := ok_all_numbers (P := P) (w := w) (base := base) T
  have G_still_fitting := ok_still_fitting (P := P) (w := w) (base := base) T
  refine T.F_fits.ok sc_fits (fun vs H Q E h => ?_) (fun cdv A outer s H vs Q E hr h => ?_)
  · obtain ⟨_, _, _, _, _, rfl, _⟩ := h
    rfl
  · obtain ⟨a, l, ns, xs, ps, rfl, hS, hL, hP, h1, h12, q⟩ := h
    refine ⟨_, (pss_cons (ps_set (i := 2) sc_fits.nd rfl (.inl rfl) (pe_call G_all_numbers (hr.mono (by decide)) (by rfl) T.g_all_numbers T.F_all_numbers.kp T.b_all_numbers .nil pass0 (pa_cons (pv 0) pa_nil)))
      (pss_cons (ps_for PassesOwn.never rfl (pi_listL (K := K) rfl (pv 1)) (pg_name (i := 3) sc_fits.nd rfl (.inl rfl)) (pss_one (ps_set (i := 2) sc_fits.nd rfl (.inl rfl) (pe_call G_still_fitting hr (by rfl) T.g_still_fitting T.F_still_fitting.kp T.b_still_fitting .nil pass0 (pa_cons (pv 2) (pa_cons (pv 0) (pa_cons (pv 3) pa_nil)))))))
      (pss_one (ps_ret (pv 2))))), ?_⟩
    have h4 := pow_le12 h12
    have hxl := hP.len
    refine ⟨.ref a, rfl, a, ns, rfl, hS, h12, fun N H1 s1 f1 e1 => ?_⟩
    refine ⟨.ref l, rfl, l, rfl, ⟨_, s1.seq hL⟩, for_list (K := K) (a := l) (xs := xs)
      (fun i σ H' => ∃ (D : Addr) (y3 : Option V), σ = [some (.ref a), some (.ref l), some (.ref D), y3] ∧ Same H1 H' ∧ H' D = some (.lst ((natI (fitsF ns (ps.take i))).map V.int)))
      ⟨N, none, rfl, Same.refl H1, e1⟩ (fun i σ H' _ ⟨_, _, _, s, _⟩ => (s1.trans s).seq hL) (fun i x σ H2 hx hQ => ?_) (fun σ H2 hQ => ?_)⟩
    · obtain ⟨D, y3, rfl, s2, g2⟩ := hQ
      obtain ⟨t, p, rfl, hp, et⟩ := hP.at hx
      have fl := fits_len ns (ps.take i)
      refine ⟨.ref D, rfl, .ref a, rfl, .ref t, rfl, D, a, t, ns, fitsF ns (ps.take i), p, rfl, g2, fun b hb => fits_mem hb, (s1.trans s2).seq hS, (s1.trans s2) _ _ et, h1, h12, by omega, fun D2 H3 s3 g3 => ?_⟩
      exact ⟨D2, _, rfl, s2.trans s3, by rw [fits_take hp]; exact g3⟩
    · obtain ⟨D, y3, rfl, s2, g2⟩ := hQ
      rw [hxl, List.take_length] at g2
      exact ⟨.ref D, rfl, q D H2 (s1.trans s2) g2⟩
def spNumDisc : Sp := fun vs H Q _ => ∃ b n : Nat, vs = [.int b, .int n] ∧ n ≤ 12 ∧ ∀ (l : Addr) (H' : Hp), Same H H' → H l = none → H' l = some (.lst ((bitR n b).map V.int)) → Q (.ref l) H'
theorem ok_numbered_disc (T : Txt K mg) : FnOk P w K mg base CX0 1 T.a_numbered_disc T.d_numbered_disc ["number", "slots"] spNumDisc := by
  refine T.F_numbered_disc.ok sc_numbered_disc (fun vs H Q E h => ?_) (fun cdv A outer s H vs Q E hr h => ?_)
  · obtain ⟨_, _, rfl, _⟩ := h
    rfl
  · obtain ⟨b, n, rfl, h12, q⟩ := h
    refine ⟨_, (pss_one (ps_ret (pe_lc (own := [("place", 2)]) (g := gName 2) (tt := tYes) (by rfl) sc_numbered_disc.nd (pi_range3 (by rfl) T.n_range (pa_cons (pe_op op_sub (pv 1) pe_int) (pa_cons (pe_un un_neg pe_int) (pa_cons (pe_un un_neg pe_int) pa_nil)))) (blkOk_by (own := [("place", 2)]) (N := ["number", "slots", "place"]) (sc := defScope s_numbered_disc) (by decide +kernel))
        (fun _ _ _ _ _ => (pg_name (i := 2) sc_numbered_disc.nd rfl (Or.inl rfl))) (fun _ _ _ _ _ => pts_nil) (fun _ _ _ _ _ => (pe_op op_odd (pe_op op_shr (pv 0) (pv 2)) pe_int))))), ?_⟩
    have en : (((n : Int) - 1) - (-1)).toNat = n := by omega
    refine ⟨.int n, rfl, n, 1, rfl, rfl, 1, rfl, 1, rfl, (n : Int) - 1, -1, -1, _, rfl, RgC.neg (by omega) (by omega) (by decide) (by decide), fun D hD => ?_⟩
    refine lc_it (walk_rangeC (lo := (n : Int) - 1) (c := -1) (n := (((n : Int) - 1) - (-1)).toNat)) (fun i H' => Same H H' ∧ H' D = some (.lst (((bitR n b).take i).map V.int)))
      ⟨new_same hD, upd_same⟩ (fun _ _ _ _ => trivial) (fun i x H1 H2 hi hP hY => ?_) (fun H1 hP => ?_)
    · obtain ⟨s1, g1⟩ := hP
      obtain ⟨rfl, rfl⟩ := hY
      rw [en] at hi
      refine ⟨rfl, .int b, rfl, .int ((n : Int) - 1 + (i : Int) * -1), rfl, b, (n : Int) - 1 + (i : Int) * -1, rfl, rfl, by omega, b / 2 ^ (n - 1 - i), ?_, rfl, _, g1, ?_, same_over s1 hD, ?_⟩
      · show V.int ((b : Int) / 2 ^ ((n : Int) - 1 + (i : Int) * -1).toNat) = V.int ((b / 2 ^ (n - 1 - i) : Nat) : Int)
        rw [show ((n : Int) - 1 + (i : Int) * -1).toNat = n - 1 - i by omega, Int.natCast_ediv, Int.natCast_pow]
        rfl
      · rw [List.length_map, List.length_take]
        exact sz40 (by omega)
      · rw [upd_same, take_next (bitR_at hi)]
    · obtain ⟨s1, g1⟩ := hP
      rw [en, take_all (by rw [bitR_len]; exact Nat.le_refl _)] at g1
      exact q D H1 s1 hD g1

/-! ### the law's own rows that fit -/
def spLight (K : PySem.W.Frag) : Sp := fun vs H Q _ => ∃ (a b : Addr) (ns ms : List Int) (t : Int), vs = [.ref a, .ref b, .int t] ∧ SqL K H a (ns.map V.int) ∧ SqL K H b (ms.map V.int) ∧
  ns.length = ms.length ∧ 1 ≤ ns.length ∧ ns.length ≤ 40 ∧ Ab 100 ns ∧ Ab 400 ms ∧ ∀ H', Same H H' → Q (.int (lightV ns ms t)) H'
theorem ok_law_seen (T : Txt K mg) : FnOk P w K mg base CX0 1 T.a_law_seen T.d_law_seen ["rows", "others", "spin"] (spLight K) := by
  refine T.F_law_seen.ok sc_law_seen (fun vs H Q E h => ?_) (fun cdv A outer s H vs Q E hr h => ?_)
  · obtain ⟨_, _, _, _, _, rfl, _⟩ := h
    rfl
  · obtain ⟨a, b, ns, ms, t, rfl, hS, hS2, hl, h1, h40, hA, hB, q⟩ := h
    refine ⟨_, (pss_cons (ps_set (i := 3) sc_law_seen.nd rfl (.inr rfl) (pe_callB (lenL (K := K) rfl) (by rfl) T.n_len (by decide +kernel) (pa_cons (pv 0) pa_nil)))
      (pss_one (ps_ret (pe_callB (sumL (K := K) rfl rfl) (by rfl) T.n_sum (by decide +kernel) (pa_cons (pe_lc (own := [("slot", 4)]) (g := gName 4) (tt := tYes) (by rfl) sc_law_seen.nd (pi_range1 (by rfl) T.n_range (pa_cons (pv 3) pa_nil)) (blkOk_by (own := [("slot", 4)]) (N := ["rows", "others", "spin", "size", "slot"]) (sc := defScope s_law_seen) (by decide +kernel))
        (fun _ _ _ _ _ => (pg_name (i := 4) sc_law_seen.nd rfl (Or.inl rfl))) (fun _ _ _ _ _ => pts_nil) (fun _ _ _ _ _ => (pe_op op_mulW (pe_ix (ixL (K := K) rfl) (pv 0) (pv 4) (fun _ _ => rfl)) (pe_ix (ixL (K := K) rfl) (pv 1) (pe_op op_mod (pe_callTy call_int1 (by rfl) T.n_int (by decide +kernel) (pa_cons (pe_op op_sub (pv 4) (pv 2)) pa_nil)) (pv 3)) (fun _ _ => rfl))))) pa_nil))))), ?_⟩
    refine ⟨.ref a, rfl, a, _, rfl, .inl hS, ?_⟩
    rw [List.length_map]
    refine ⟨.int ns.length, rfl, ns.length, rfl, by omega, by omega, fun D hD => lc_range (lo := 0) (n := ((ns.length : Nat) : Int).toNat)
      (fun i H' => Same H H' ∧ H' D = some (.lst (((prods ns (rot ms t)).take i).map V.int))) ⟨new_same hD, upd_same⟩ (fun i H1 hi hP => ⟨rfl, ?_⟩) (fun H1 hP => ?_)⟩
    · obtain ⟨s1, hD1⟩ := hP
      rw [Int.toNat_natCast] at hi
      have hm := mod_in (i := (0 + (i : Int)) - t) (show 0 < ms.length by omega)
      obtain ⟨x, hx, hatx⟩ := at_in (ns := ns) (i := 0 + (i : Int)) (by omega) (by omega)
      obtain ⟨y, hy, haty⟩ := at_in hm.1 hm.2
      refine ⟨.ref a, rfl, .int (0 + i), rfl, a, _, _, .int x, rfl, rfl, s1.seq hS, hatx, ?_⟩
      refine ⟨.ref b, rfl, .int (0 + i), rfl, .int t, rfl, 0 + i, t, rfl, rfl, .inl ⟨_, rfl, .int ns.length, rfl, _, _, rfl, rfl, (by show (0 : Int) < _; omega), ?_⟩⟩
      rw [hl]
      refine ⟨b, _, _, .int y, rfl, rfl, s1.seq hS2, haty, x, y, rfl, rfl, wide_mul (hA.at hx) (hB.at hy) (by decide) (by decide) (by decide), ?_⟩
      refine ⟨_, hD1, ?_, same_over s1 hD, ?_⟩
      · rw [List.length_map, List.length_take]
        exact sz40 (by omega)
      · rw [upd_same, take_next]
        refine prods_at (by rw [show i = (0 + (i : Int)).toNat by omega]; exact hx) ?_
        rw [rot_at (by omega), ← getD_at hy, show (i : Int) - t = 0 + (i : Int) - t by omega]
    · obtain ⟨s1, hD1⟩ := hP
      rw [Int.toNat_natCast, take_all (by rw [prods_len, rot_len]; omega)] at hD1
      exact ⟨D, _, rfl, SqL.of hD1, q H1 s1⟩
theorem bits_all (n : Nat) (i : Nat) : ((List.range (2 ^ n)).map (bitR n))[i]? = if i < 2 ^ n then some (bitR n i) else none := by
  rw [List.getElem?_map]
  by_cases h : i < 2 ^ n
  · rw [List.getElem?_range h, if_pos h]
    rfl
  · rw [List.getElem?_eq_none (by rw [List.length_range]; omega), if_neg h]
    rfl
def spAll : Sp := fun vs H Q _ => ∃ n : Nat, vs = [.int n] ∧ n ≤ 12 ∧ ∀ (l : Addr) (us : List V) (H' : Hp), Same H H' → H' l = some (.lst us) → LL H' us ((List.range (2 ^ n)).map (bitR n)) → (∀ a, V.ref a ∈ us → H a = none) → Q (.ref l) H'
theorem ok_law_all (T : Txt K mg) : FnOk P w K mg base CX0 1 T.a_law_all T.d_law_all ["size"] spAll := by
  refine T.F_law_all.ok sc_law_all (fun vs H Q E h => ?_) (fun cdv A outer s H vs Q E hr h => ?_)
  · obtain ⟨_, rfl, _⟩ := h
    rfl
  · obtain ⟨n, rfl, h12, q⟩ := h
    refine ⟨_, (pss_cons (ps_set (i := 1) sc_law_all.nd rfl (.inl rfl) (pe_lst pa_nil))
      (pss_cons (ps_for PassesOwn.never rfl (pi_range1 (by rfl) T.n_range (pa_cons (pe_op op_shl pe_int (pv 0)) pa_nil)) (pg_name (i := 2) sc_law_all.nd rfl (.inr rfl)) (pss_one (ps_expr (pe_bm PySem.F.plainAttrs_list PySem.F.slot_list_append PySem.F.type_list_append mt_append (pv 1) (pa_cons (pe_lc (own := [("slot", 3)]) (g := gName 3) (tt := tYes) (by rfl) sc_law_all.nd (pi_range1 (by rfl) T.n_range (pa_cons (pv 0) pa_nil)) (blkOk_by (own := [("slot", 3)]) (N := ["size", "found", "bits", "slot"]) (sc := defScope s_law_all) (by decide +kernel))
        (fun _ _ _ _ _ => (pg_name (i := 3) sc_law_all.nd rfl (Or.inl rfl))) (fun _ _ _ _ _ => pts_nil) (fun _ _ _ _ _ => (pe_op op_mod (pe_callTy call_int1 (by rfl) T.n_int (by decide +kernel) (pa_cons (pe_op op_shr (pv 2) (pe_op op_sub (pe_op op_sub (pv 0) pe_int) (pv 3))) pa_nil)) pe_int))) pa_nil)))))
      (pss_one (ps_ret (pv 1))))), ?_⟩
    have h4 := pow_le12 h12
    refine ⟨(by show 0 ≤ sizeLine; decide), fun F hF => ?_⟩
    have s1 := new_same (o := .lst []) hF
    have g1 : (upd H F (.lst [])) F = some (.lst []) := upd_same
    generalize upd H F (.lst []) = H1 at s1 g1 ⊢
    refine ⟨.int n, rfl, 1, n, rfl, rfl, ⟨by omega, by omega, by decide⟩, ?_⟩
    show ∃ m : Int, [V.int (1 * 2 ^ (n : Int).toNat)] = [V.int m] ∧ _
    rw [shl_one]
    obtain ⟨N, hN⟩ : ∃ N, N = 2 ^ n := ⟨_, rfl⟩
    rw [← hN] at h4 q ⊢
    refine ⟨_, rfl, by omega, by omega, for_range (lo := 0) (n := (N : Int).toNat)
      (fun i σ H' => ∃ (y2 y3 : Option V) (us : List V), σ = [some (.int n), some (.ref F), y2, y3] ∧ Same H H' ∧ H' F = some (.lst us) ∧ LL H' us (((List.range N).map (bitR n)).take i) ∧ ∀ a, V.ref a ∈ us → H a = none)
      ⟨none, none, [], rfl, s1, g1, .nil, fun a ha => (List.not_mem_nil ha).elim⟩ (fun i σ H2 hi hP => ?_) (fun σ H2 hP => ?_)⟩
    · obtain ⟨y2, y3, us, rfl, s2, g2, hL, hfr⟩ := hP
      rw [Int.toNat_natCast] at hi
      have hul := hL.len
      rw [List.length_take, List.length_map, List.length_range] at hul
      refine ⟨.ref F, rfl, .inl ⟨rfl, _, SqL.of g2⟩, .int n, rfl, n, rfl, by omega, by omega, fun D hD => lc_range (lo := 0) (n := ((n : Nat) : Int).toNat)
        (fun j H' => Same H2 H' ∧ H' D = some (.lst (((bitR n i).take j).map V.int))) ⟨new_same hD, upd_same⟩ (fun j H3 hj hP => ⟨rfl, ?_⟩) (fun H3 hP => ?_)⟩
      · obtain ⟨s3, g3⟩ := hP
        rw [Int.toNat_natCast] at hj
        refine ⟨.int (0 + i), rfl, .int n, rfl, n, 1, rfl, rfl, .int (0 + j), rfl, (n : Int) - 1, 0 + j, rfl, rfl, 0 + i, (n : Int) - 1 - (0 + j), rfl, rfl, by omega, .inl ⟨_, rfl, _, 2, rfl, rfl, (by show (0 : Int) < 2; decide), _, g3, ?_, same_over s3 hD, ?_⟩⟩
        · rw [List.length_map, List.length_take]
          exact sz40 (by omega)
        · rw [upd_same, take_next]
          rw [bitR_at hj, show ((n : Int) - 1 - (0 + (j : Int))).toNat = n - 1 - j by omega, Int.zero_add]
          show some (((i / 2 ^ (n - 1 - j) % 2 : Nat)) : Int) = some ((i : Int) / 2 ^ (n - 1 - j) % 2)
          rw [Int.natCast_emod, Int.natCast_ediv, Int.natCast_pow]
          rfl
      · obtain ⟨s3, g3⟩ := hP
        rw [Int.toNat_natCast, take_all (by rw [bitR_len]; exact Nat.le_refl _)] at g3
        have nF : F ≠ D := ne_of_none g2 hD
        refine ⟨F, _, _, rfl, rfl, s3 _ _ g2, sz40 (by omega), _, _, us ++ [.ref D], rfl, ?_, upd_same, ?_, fun a ha => ?_⟩
        · exact fun b o e => by
            rw [upd_ne (ne_of_none e hF)]
            exact (s2.trans s3) b o e
        · have hN2 : ((List.range N).map (bitR n))[i]? = some (bitR n i) := by
            rw [hN, bits_all, if_pos (by rw [← hN]; exact hi)]
          rw [List.take_add_one, hN2]
          have p3 := LL.put (o := .lst (us ++ [.ref D])) (s3 _ _ g2) (hL.up s3) fun v hv => hv
          exact p3.snoc (by rw [upd_ne nF.symm]; exact g3)
        · rcases List.mem_append.mp ha with h | h
          · exact hfr a h
          · have e : a = D := by
              have := List.mem_singleton.mp h
              injection this
            rw [e]
            exact none_back s2 hD
    · obtain ⟨y2, y3, us, rfl, s2, g2, hL, hfr⟩ := hP
      rw [Int.toNat_natCast, List.take_of_length_le (by rw [List.length_map, List.length_range]; exact Nat.le_refl _)] at hL
      exact ⟨.ref F, rfl, q F us H2 s2 g2 hL hfr⟩

def spLFits (K : PySem.W.Frag) : Sp := fun vs H Q _ => ∃ (a l : Addr) (ns : List Int) (xs : List V) (ps : List (Int × Int)), vs = [.ref a, .ref l] ∧ SqL K H a (ns.map V.int) ∧ Rim ns ∧ ns.length ≤ 12 ∧ SqL K H l xs ∧ Prs H xs ps ∧
  ∀ (D : Addr) (us : List V) (H' : Hp), Same H H' → H' D = some (.lst us) → LL H' us ((fitsF ns ps).map (bitR ns.length)) → (∀ a, V.ref a ∈ us → H a = none) → Q (.ref D) H'
theorem map_take_at {F : List Nat} {n i : Nat} {r : List Int} (h : (F.map (bitR n))[i]? = some r) : ∃ b, F[i]? = some b ∧ r = bitR n b := by
  rw [List.getElem?_map] at h
  cases e : F[i]? with
  | none => rw [e] at h; cases h
  | some b =>
    rw [e] at h
    exact ⟨b, rfl, (Option.some.inj h).symm⟩
theorem ok_law_fits (T : Txt K mg) : FnOk P w K mg base CX0 2 T.a_law_fits T.d_law_fits ["rows", "notes"] (spLFits K) := by
  have G_law_all := ok_law_all (P := P) (w := w) (base := base) T
  have G_law_seen := ok_law_seen (P := P) (w := w) (base := base) T
  refine T.F_law_fits.ok sc_law_fits (fun vs H Q E h => ?_) (fun cdv A outer s H vs Q E hr h => ?_)
  · obtain ⟨_, _, _, _, _, rfl, _⟩ := h
    rfl
  · obtain ⟨a, l, ns, xs, ps, rfl, hS, hR, h12, hL, hP, q⟩ := h
    refine ⟨_, (pss_cons (ps_set (i := 2) sc_law_fits.nd rfl (.inl rfl) (pe_call G_law_all hr (by rfl) T.g_law_all T.F_law_all.kp T.b_law_all .nil pass0 (pa_cons (pe_callB (lenL (K := K) rfl) (by rfl) T.n_len (by decide +kernel) (pa_cons (pv 0) pa_nil)) pa_nil)))
      (pss_cons (ps_for PassesOwn.never rfl (pi_listL (K := K) rfl (pv 1)) (pg_tupL (K := K) (n := 2) rfl rfl (pgs_cons (pg_name (i := 3) sc_law_fits.nd rfl (.inr rfl)) (pgs_cons (pg_name (i := 4) sc_law_fits.nd rfl (.inr rfl)) pgs_nil))) (pss_one (ps_setLc (i := 2) (own := [("some", 5)]) (g := gName 5) (by rfl) sc_law_fits.nd rfl rfl (sw_true rfl rfl rfl (by decide +kernel)) (pi_listL (K := K) rfl (pv 2)) (blkOk_by (own := [("some", 5)]) (N := ["rows", "notes", "found", "spin", "shine", "some"]) (sc := defScope s_law_fits) (by decide +kernel))
        (fun _ _ _ _ _ => (pg_name (i := 5) sc_law_fits.nd rfl (Or.inl rfl))) (fun _ _ _ _ _ => (pts_one (pt_cmpR op_eq (pe_call G_law_seen hr (by rfl) T.g_law_seen T.F_law_seen.kp T.b_law_seen .nil pass0 (pa_cons (pv 0) (pa_cons (pv 5) (pa_cons (pv 3) pa_nil)))) (pv 4) (nomark _)))) (fun _ _ _ _ _ => (pv 5)))))
      (pss_one (ps_ret (pv 2))))), ?_⟩
    have hxl := hP.len
    have h1 := hR.pos
    have h4 := pow_le12 h12
    refine ⟨.ref a, rfl, a, _, rfl, .inl hS, ?_⟩
    rw [List.length_map]
    refine ⟨ns.length, rfl, h12, fun N us0 H1 s1 e1 L1 fr0 => ?_⟩
    refine ⟨.ref l, rfl, l, rfl, ⟨_, s1.seq hL⟩, for_list (K := K) (a := l) (xs := xs)
      (fun i σ H' => ∃ (D : Addr) (us : List V) (y3 y4 y5 : Option V), σ = [some (.ref a), some (.ref l), some (.ref D), y3, y4, y5] ∧ Same H1 H' ∧ H' D = some (.lst us) ∧ LL H' us ((fitsF ns (ps.take i)).map (bitR ns.length)) ∧ ∀ a, V.ref a ∈ us → H a = none)
      ⟨N, us0, none, none, none, rfl, Same.refl H1, e1, L1, fr0⟩ (fun i σ H' _ ⟨_, _, _, _, _, _, s, _⟩ => (s1.trans s).seq hL) (fun i x σ H2 hx hQ => ?_) (fun σ H2 hQ => ?_)⟩
    · obtain ⟨D, us, y3, y4, y5, rfl, s2, g2, hLL, hfr⟩ := hQ
      obtain ⟨t, p, rfl, hp, et⟩ := hP.at hx
      have s12 := s1.trans s2
      have fl := fits_len ns (ps.take i)
      obtain ⟨F, hF⟩ : ∃ F, F = fitsF ns (ps.take i) := ⟨_, rfl⟩
      rw [← hF] at hLL fl
      refine ⟨t, _, rfl, SqT.of (s12 _ _ et), rfl, _, _, rfl, _, _, rfl, rfl, ?_⟩
      refine ⟨.ref D, rfl, D, rfl, ⟨_, SqL.of g2⟩, fun D2 hD2 => ?_⟩
      refine lc_list (K := K) (a := D) (xs := us) (fun j H' => Same H2 H' ∧ ∃ ws : List V, H' D2 = some (.lst ws) ∧ LL H2 ws (((F.take j).filter (okF ns p)).map (bitR ns.length)) ∧ ∀ a, V.ref a ∈ ws → H a = none)
        ⟨new_same hD2, [], upd_same, .nil, fun a ha => (List.not_mem_nil ha).elim⟩ (fun j H' _ hP => SqL.of (hP.1 _ _ g2)) (fun j v H3 hv hP => ⟨rfl, ?_⟩) (fun H3 hP => ?_)
      · obtain ⟨s3, ws, g3, hW, hwf⟩ := hP
        obtain ⟨r, row, rfl, hrow, er⟩ := hLL.at hv
        obtain ⟨b, hb, rfl⟩ := map_take_at hrow
        have en := filt_next (g := okF ns p) hb
        have hwl := hW.len
        rw [List.length_map] at hwl
        have hw2 : ws.length ≤ 4096 := by
          rw [hwl]
          exact Nat.le_trans (List.length_filter_le _ _) (Nat.le_trans (List.length_take_le' _ _) (by omega))
        refine ⟨.ref a, rfl, .ref r, rfl, .int p.1, rfl, a, r, ns, bitR ns.length b, p.1, rfl, (s12.trans s3).seq hS, SqL.of (s3 _ _ er), (bitR_len _ _).symm, h1, hR.le, hR.ab, ab01 fun m hm => bitR_01 hm, fun H4 s4 => ?_⟩
        have g4 := s4 _ _ g3
        refine ⟨.int p.2, rfl, rfl, _, rfl, ite2 (fun h => ?_) (fun h => ?_)⟩
        · have ho : okF ns p b = true := decide_eq_true (V.int.inj (of_decide_eq_true h))
          refine ⟨.ref r, rfl, _, g4, sz40 (by omega), same_over (s3.trans s4) hD2, ws ++ [.ref r], upd_same, ?_, fun a ha => ?_⟩
          · rw [en, if_pos ho, List.map_append]
            exact hW.snoc er
          · rcases List.mem_append.mp ha with h | h
            · exact hwf a h
            · have e := List.mem_singleton.mp h
              injection e with e
              rw [e]
              exact hfr r (List.mem_of_getElem? hv)
        · have ho : ¬ okF ns p b = true := fun e => h (decide_eq_true (congrArg V.int (of_decide_eq_true e)))
          refine ⟨s3.trans s4, ws, g4, ?_, hwf⟩
          rw [en, if_neg ho, List.append_nil]
          exact hW
      · obtain ⟨s3, ws, g3, hW, hwf⟩ := hP
        have hul := hLL.len
        rw [List.length_map] at hul
        rw [hul, List.take_length, hF, ← fits_take hp] at hW
        exact ⟨D2, ws, _, _, _, rfl, s2.trans s3, g3, hW.up s3, hwf⟩
    · obtain ⟨D, us, y3, y4, y5, rfl, s2, g2, hLL, hfr⟩ := hQ
      rw [hxl, List.take_length] at hLL
      exact ⟨.ref D, rfl, q D us H2 (s1.trans s2) g2 hLL hfr⟩

/-! ### the fits, one or more; the slots that are sure -/
def spSome (K : PySem.W.Frag) : Sp := fun vs H Q _ => ∃ (a l : Addr) (ns : List Int) (xs : List V) (ps : List (Int × Int)), vs = [.ref a, .ref l] ∧ SqL K H a (ns.map V.int) ∧ SqL K H l xs ∧ Prs H xs ps ∧ 1 ≤ ns.length ∧ ns.length ≤ 12 ∧ fitsF ns ps ≠ [] ∧
  ∀ (D : Addr) (H' : Hp), Same H H' → H' D = some (.lst ((natI (fitsF ns ps)).map V.int)) → Q (.ref D) H'
theorem ok_some_fits (T : Txt K mg) : FnOk P w K mg base CX0 5 T.a_some_fits T.d_some_fits ["disc", "looks"] (spSome K) := by
  have G_fits := ok_fits (P := P) (w := w) (base := base) T
  refine T.F_some_fits.ok sc_some_fits (fun vs H Q E h => ?_) (fun cdv A outer s H vs Q E hr h => ?_)
  · obtain ⟨_, _, _, _, _, rfl, _⟩ := h
    rfl
  · obtain ⟨a, l, ns, xs, ps, rfl, hS, hL, hP, h1, h12, hne, q⟩ := h
    refine ⟨_, (pss_cons (ps_set (i := 2) sc_some_fits.nd rfl (.inl rfl) (pe_call G_fits hr (by rfl) T.g_fits T.F_fits.kp T.b_fits .nil pass0 (pa_cons (pv 0) (pa_cons (pv 1) pa_nil))))
      (pss_cons (ps_if (pt_not (pt_truth (pv 2) fun _ => rfl)) (pss_one ps_never) pss_nil)
      (pss_one (ps_ret (pv 2))))), ?_⟩
    refine ⟨.ref a, rfl, .ref l, rfl, a, l, ns, xs, ps, rfl, hS, hL, hP, h1, h12, fun D H1 s1 g1 => ?_⟩
    have hne2 : ((natI (fitsF ns ps)).map V.int) ≠ [] := fun e => hne (by
      have := congrArg List.length e
      rw [List.length_map, natI_len] at this
      exact List.eq_nil_of_length_eq_zero this)
    refine ⟨.ref D, rfl, true, .inl ⟨_, SqL.of g1, ?_⟩, ?_⟩
    · cases e : ((natI (fitsF ns ps)).map V.int) with
      | nil => exact absurd e hne2
      | cons x r => rfl
    · exact iteF ⟨.ref D, rfl, q D H1 s1 g1⟩
/-- the slots below i that all of S show alike, with what they show -/
def sureP (S : List (List Int)) (i : Nat) : List (Int × Int) := (List.range i).filterMap fun k => if ∀ r ∈ S, r.getD k 0 = (S.getD 0 []).getD k 0 then some ((k : Int), (S.getD 0 []).getD k 0) else none
theorem LL.refs {H : Hp} {us : List V} {S : List (List Int)} (h : LL H us S) : ∃ as : List Addr, us = as.map V.ref ∧ as.length = S.length ∧ ∀ k r, S[k]? = some r → H (as.getD k 0) = some (.lst (r.map V.int)) := by
  induction h with
  | nil => exact ⟨[], rfl, rfl, fun k r e => by simp at e⟩
  | cons h t ih =>
    rename_i a r vs S
    obtain ⟨as, rfl, h1, h2⟩ := ih
    refine ⟨a :: as, rfl, by simp [h1], fun k r2 e => ?_⟩
    cases k with
    | zero =>
      have : r = r2 := by simpa using e
      subst this
      exact h
    | succ k => exact h2 k r2 (by simpa using e)
theorem Prs.over {H : Hp} {D : Addr} {us : List V} {o : HO} (e : H D = some (.lst us)) {vs : List V} {ps : List (Int × Int)} (h : Prs H vs ps) : Prs (upd H D o) vs ps := by
  induction h with
  | nil => exact .nil
  | cons h t ih => exact .cons (by rw [upd_ne fun z => by rw [z, e] at h; cases h]; exact h) ih
theorem sureP_next (S : List (List Int)) (i : Nat) : sureP S (i + 1) = sureP S i ++ (if ∀ r ∈ S, r.getD i 0 = (S.getD 0 []).getD i 0 then [((i : Int), (S.getD 0 []).getD i 0)] else []) := by
  unfold sureP
  rw [List.range_succ, List.filterMap_append]
  by_cases h : ∀ r ∈ S, r.getD i 0 = (S.getD 0 []).getD i 0
  · rw [if_pos h]
    congr 1
    rw [List.filterMap_cons, if_pos h]
    rfl
  · rw [if_neg h]
    congr 1
    rw [List.filterMap_cons, if_neg h]
    rfl
theorem sureP_len (S : List (List Int)) (i : Nat) : (sureP S i).length ≤ i := by
  have := List.length_filterMap_le (fun k => if ∀ r ∈ S, r.getD k 0 = (S.getD 0 []).getD k 0 then some ((k : Int), (S.getD 0 []).getD k 0) else none) (List.range i)
  rwa [List.length_range] at this
def spSure (K : PySem.W.Frag) : Sp := fun vs H Q _ => ∃ (a l : Addr) (ns : List Int) (xs : List V) (ps : List (Int × Int)), vs = [.ref a, .ref l] ∧ SqL K H a (ns.map V.int) ∧ Rim ns ∧ ns.length ≤ 12 ∧ SqL K H l xs ∧ Prs H xs ps ∧
  (∀ p ∈ ps, 0 ≤ p.2) ∧ ps.length ≤ 40 ∧ fitsF ns ps ≠ [] ∧ ∀ (D : Addr) (us : List V) (H' : Hp), Same H H' → H D = none → H' D = some (.lst us) → Prs H' us (sureP ((fitsF ns ps).map (bitR ns.length)) ns.length) → Q (.ref D) H'
theorem ok_sure_slots (T : Txt K mg) : FnOk P w K mg base CX0 6 T.a_sure_slots T.d_sure_slots ["disc", "looks"] (spSure K) := by
  have G_check_seen := ok_check_seen (P := P) (w := w) (base := base) T
  have G_some_fits := ok_some_fits (P := P) (w := w) (base := base) T
  have G_numbered_disc := ok_numbered_disc (P := P) (w := w) (base := base) T
  refine T.F_sure_slots.ok sc_sure_slots (fun vs H Q E h => ?_) (fun cdv A outer s H vs Q E hr h => ?_)
  · obtain ⟨_, _, _, _, _, rfl, _⟩ := h
    rfl
  · obtain ⟨a, l, ns, xs, ps, rfl, hS, hR, h12, hL, hP, hb, hl, hne, q⟩ := h
    refine ⟨_, (pss_cons (ps_expr (pe_call G_check_seen hr (by rfl) T.g_check_seen T.F_check_seen.kp T.b_check_seen .nil pass0 (pa_cons (pv 0) (pa_cons (pv 1) (pa_cons (pe_glob (v := .int (12)) rfl T.g_MOST_SEEN ⟨_, rfl⟩) pa_nil)))))
      (pss_cons (ps_setLc (i := 2) (own := [("number", 3)]) (g := gName 3) (tt := tYes) (by rfl) sc_sure_slots.nd rfl rfl (sw_true rfl rfl rfl (by decide +kernel)) (pi_listL (K := K) rfl (pe_call G_some_fits hr (by rfl) T.g_some_fits T.F_some_fits.kp T.b_some_fits .nil pass0 (pa_cons (pv 0) (pa_cons (pv 1) pa_nil)))) (blkOk_by (own := [("number", 3)]) (N := ["disc", "looks", "discs", "number", "slot", "items"]) (sc := defScope s_sure_slots) (by decide +kernel))
        (fun _ _ _ _ _ => (pg_name (i := 3) sc_sure_slots.nd rfl (Or.inl rfl))) (fun _ _ _ _ _ => pts_nil) (fun _ _ _ _ _ => (pe_call G_numbered_disc (hr.mono (by decide)) (by rfl) T.g_numbered_disc T.F_numbered_disc.kp T.b_numbered_disc .nil pass0 (pa_cons (pv 3) (pa_cons (pe_callB (lenL (K := K) rfl) (by rfl) T.n_len (by decide +kernel) (pa_cons (pv 0) pa_nil)) pa_nil)))))
      (pss_one (ps_ret (pe_lc (own := [("slot", 4), ("items", 5)]) (by rfl) sc_sure_slots.nd (enumZ (K := K) rfl (by rfl) T.n_enumerate (by rfl) T.n_zip (pv 2)) (blkOk_by (own := [("slot", 4), ("items", 5)]) (N := ["disc", "looks", "discs", "number", "slot", "items"]) (sc := defScope s_sure_slots) (by decide +kernel))
        (fun _ _ _ _ _ => (pg_tupL (K := K) (n := 2) rfl rfl (pgs_cons (pg_name (i := 4) sc_sure_slots.nd rfl (.inl rfl)) (pgs_cons (pg_name (i := 5) sc_sure_slots.nd rfl (.inl rfl)) pgs_nil)))) (fun _ _ _ _ _ => (pts_one (pt_cmpR op_eq (pe_callB (cr_minT (K := K) rfl rfl hr) (by rfl) T.n_min (by decide +kernel) (pa_cons (pv 5) pa_nil)) (pe_callB (cr_maxT (K := K) rfl rfl hr) (by rfl) T.n_max (by decide +kernel) (pa_cons (pv 5) pa_nil)) (nomark _)))) (fun _ _ _ _ _ => (pe_tup (pa_cons (pv 4) (pa_cons (pe_ix (ixTL (K := K) rfl) (pv 5) pe_int (fun _ _ => rfl)) pa_nil))))))))), ?_⟩
    refine ⟨.ref a, rfl, .ref l, rfl, a, l, ns, xs, ps, 12, rfl, hS, hR, by omega, hL, hP, hb, hl, fun H1 s1 => ?_⟩
    refine ⟨.ref a, rfl, .ref l, rfl, a, l, ns, xs, ps, rfl, s1.seq hS, s1.seq hL, hP.up s1, hR.pos, h12, hne, fun F H2 s2 g2 => ⟨F, rfl, ⟨_, SqL.of g2⟩, fun D hD => ?_⟩⟩
    refine lc_list (K := K) (a := F) (xs := (natI (fitsF ns ps)).map V.int) (fun i H' => Same H2 H' ∧ ∃ us, H' D = some (.lst us) ∧ LL H' us (((fitsF ns ps).take i).map (bitR ns.length)))
      ⟨new_same hD, [], upd_same, .nil⟩ (fun i H' _ hP => SqL.of (hP.1 _ _ g2)) (fun i x H3 hx hP => ⟨rfl, ?_⟩) (fun H3 hP => ?_)
    · obtain ⟨s3, us, g3, hL3⟩ := hP
      obtain ⟨z, hz, rfl⟩ := int_at hx
      obtain ⟨b, hb2, rfl⟩ := natI_at hz
      refine ⟨.int b, rfl, .ref a, rfl, a, _, rfl, .inl (((s1.trans s2).trans s3).seq hS), ?_⟩
      rw [List.length_map]
      refine ⟨b, ns.length, rfl, h12, fun R H4 s4 f4 e4 => ?_⟩
      have hul := hL3.len
      rw [List.length_map, List.length_take] at hul
      have h4 := pow_le12 h12
      have fl := fits_len ns ps
      refine ⟨us, s4 _ _ g3, sz40 (by omega), same_over (s3.trans s4) hD, us ++ [.ref R], upd_same, ?_⟩
      rw [List.take_add_one, hb2, List.map_append]
      exact (LL.put (o := .lst (us ++ [.ref R])) (s4 _ _ g3) (hL3.up s4) fun v hv => hv).snoc (by rw [upd_ne (ne_of_none g3 f4).symm]; exact e4)
    · obtain ⟨s3, us, g3, hL3⟩ := hP
      rw [List.length_map, natI_len, List.take_length] at hL3
      obtain ⟨as, rfl, hal, hat⟩ := hL3.refs
      have hS0 : 0 < as.length := by
        rw [hal, List.length_map]
        exact List.length_pos_iff.mpr hne
      have hlen : ∀ r ∈ (fitsF ns ps).map (bitR ns.length), r.length = ns.length := fun r hr => by
        obtain ⟨b, _, rfl⟩ := List.mem_map.mp hr
        exact bitR_len ..
      generalize (fitsF ns ps).map (bitR ns.length) = S at hL3 hal hat hlen q
      refine ⟨.ref D, rfl, D, ns.length, as, rfl, ⟨SqL.of g3, hS0, fun a ha => ?_⟩, fun D2 hD2 => ?_⟩
      · obtain ⟨k, hk, rfl⟩ := List.mem_iff_getElem.mp ha
        have hk2 : k < S.length := by omega
        have e := hat k S[k] (List.getElem?_eq_getElem hk2)
        rw [List.getD_eq_getElem?_getD, List.getElem?_eq_getElem hk] at e
        exact ⟨_, SqL.of e, by rw [List.length_map]; exact hlen _ (List.getElem_mem hk2)⟩
      refine lc_it walk_enumZ (fun i H' => Same H3 H' ∧ ∃ us2, H' D2 = some (.lst us2) ∧ Prs H' us2 (sureP S i))
        ⟨new_same hD2, [], upd_same, .nil⟩ (fun i H' _ hP k hk => ?_) (fun i x H4 H5 hi hP hY => ?_) (fun H4 hP => ?_)
      · have hk2 : k < S.length := by omega
        exact ⟨_, SqL.of (hP.1 _ _ (hat k S[k] (List.getElem?_eq_getElem hk2))), by rw [List.length_map]; exact hlen _ (List.getElem_mem hk2)⟩
      · obtain ⟨s4, us2, g4, hP4⟩ := hP
        obtain ⟨T1, T2, ys, rfl, f1, f2, n12, eH, hyl, hys⟩ := hY
        have hcol : ys = (S.map fun r => r.getD i 0).map V.int := by
          apply List.ext_getElem?
          intro k
          by_cases hk : k < S.length
          · have hk2 : k < as.length := by omega
            rw [hys k hk2 _ (SqL.of (s4 _ _ (hat k S[k] (List.getElem?_eq_getElem hk)))), List.getElem?_map, List.getElem?_map, List.getElem?_map, List.getElem?_eq_getElem hk]
            have hr := hlen _ (List.getElem_mem hk)
            rw [List.getElem?_eq_getElem (show i < S[k].length by omega)]
            show some (V.int _) = some (V.int (S[k].getD i 0))
            rw [List.getD_eq_getElem?_getD, List.getElem?_eq_getElem (show i < S[k].length by omega)]
            rfl
          · rw [List.getElem?_eq_none (by omega), List.getElem?_eq_none (by rw [List.length_map, List.length_map]; omega)]
        have f2' : (upd H4 T1 (.tup ys)) T2 = none := by rw [upd_ne n12.symm]; exact f2
        have s5 : Same H4 H5 := by rw [eH]; exact (new_same f1).trans (new_same f2')
        have gT1 : H5 T1 = some (.tup ys) := by rw [eH, upd_ne n12]; exact upd_same
        have gT2 : H5 T2 = some (.tup [.int (i : Nat), .ref T1]) := by rw [eH]; exact upd_same
        clear eH hys
        subst hcol
        obtain ⟨r0, S', rfl⟩ : ∃ r0 S', S = r0 :: S' := by
          cases S with
          | nil => rw [hal] at hS0; exact absurd hS0 (Nat.lt_irrefl 0)
          | cons r0 S' => exact ⟨r0, S', rfl⟩
        have hpos : 0 < ((r0 :: S').map fun r => r.getD i 0).length := by rw [List.length_map]; exact Nat.succ_pos _
        have en := sureP_next (r0 :: S') i
        have hsl := sureP_len (r0 :: S') i
        have hul := hP4.len
        refine ⟨T2, _, rfl, SqT.of gT2, rfl, _, _, rfl, _, _, rfl, rfl, rfl, ?_⟩
        refine ⟨.ref T1, rfl, T1, _, rfl, SqT.of gT1, hpos, fun m hm hmin => ?_⟩
        refine ⟨.ref T1, rfl, T1, _, rfl, SqT.of gT1, hpos, fun M hM hmax => ?_⟩
        refine ⟨rfl, _, rfl, ite2 (fun h => ?_) (fun h => ?_)⟩
        · have e := V.int.inj (of_decide_eq_true h)
          have hall : ∀ r ∈ r0 :: S', r.getD i 0 = ((r0 :: S').getD 0 []).getD i 0 := fun r hr => by
            have a1 := hmin _ (List.mem_map.mpr ⟨r, hr, rfl⟩)
            have a2 := hmax _ (List.mem_map.mpr ⟨r, hr, rfl⟩)
            have b1 := hmin (r0.getD i 0) (List.mem_map.mpr ⟨r0, by simp, rfl⟩)
            have b2 := hmax (r0.getD i 0) (List.mem_map.mpr ⟨r0, by simp, rfl⟩)
            show r.getD i 0 = r0.getD i 0
            omega
          rw [if_pos hall] at en
          refine ⟨.int (i : Nat), rfl, .ref T1, rfl, T1, _, 0, .int (r0.getD i 0), rfl, rfl, SqT.of gT1, atI_nat (j := 0) (v := V.int (r0.getD i 0)) rfl, (by show 2 ≤ sizeLine; decide), fun l hl => ?_⟩
          refine ⟨us2, new_same hl _ _ (s5 _ _ g4), sz40 (by omega), same_over ((s4.trans s5).trans (new_same hl)) hD2, us2 ++ [.ref l], upd_same, ?_⟩
          rw [en]
          exact (Prs.over (new_same hl _ _ (s5 _ _ g4)) ((hP4.up s5).up (new_same hl))).snoc (by rw [upd_ne (ne_of_none (s5 _ _ g4) hl).symm]; exact upd_same)
        · rw [if_neg fun hall => h (decide_eq_true (congrArg V.int (?_ : m = M))), List.append_nil] at en
          · rw [en]
            exact ⟨s4.trans s5, us2, s5 _ _ g4, hP4.up s5⟩
          · obtain ⟨r, hr, rfl⟩ := List.mem_map.mp hm
            obtain ⟨r2, hr2, rfl⟩ := List.mem_map.mp hM
            rw [hall r hr, hall r2 hr2]
      · obtain ⟨s4, us2, g4, hP4⟩ := hP
        exact q D2 us2 H4 (((s1.trans s2).trans s3).trans s4) (none_back ((s1.trans s2).trans s3) hD2) g4 hP4

/-! ### the first look at which nothing fits any more -/
/-- nothing fits the first i + 1 looks, and something those before -/
def ClashAt (ns : List Int) (ps : List (Int × Int)) (i : Nat) : Prop := i < ps.length ∧ fitsF ns (ps.take (i + 1)) = [] ∧ ∀ j, j < i → fitsF ns (ps.take (j + 1)) ≠ []
def spClash (K : PySem.W.Frag) : Sp := fun vs H Q _ => ∃ (a l : Addr) (ns : List Int) (xs : List V) (ps : List (Int × Int)), vs = [.ref a, .ref l] ∧ SqL K H a (ns.map V.int) ∧ Rim ns ∧ ns.length ≤ 12 ∧ SqL K H l xs ∧ Prs H xs ps ∧
  (∀ p ∈ ps, 0 ≤ p.2) ∧ ps.length ≤ 40 ∧ (∀ (i : Nat) (H' : Hp), ClashAt ns ps i → Same H H' → Q (.int i) H') ∧ ∀ H', (∀ j, j < ps.length → fitsF ns (ps.take (j + 1)) ≠ []) → Same H H' → Q .non H'
theorem natI_nil {F : List Nat} : ((natI F).map V.int).isEmpty = F.isEmpty := by cases F <;> rfl
theorem ok_clash_index (T : Txt K mg) : FnOk P w K mg base CX0 6 T.a_clash_index T.d_clash_index ["disc", "looks"] (spClash K) := by
  have G_check_seen := ok_check_seen (P := P) (w := w) (base := base) T
  have G_all_numbers := ok_all_numbers (P := P) (w := w) (base := base) T
  have G_still_fitting := ok_still_fitting (P := P) (w := w) (base := base) T
  refine T.F_clash_index.ok sc_clash_index (fun vs H Q E h => ?_) (fun cdv A outer s H vs Q E hr h => ?_)
  · obtain ⟨_, _, _, _, _, rfl, _⟩ := h
    rfl
  · obtain ⟨a, l, ns, xs, ps, rfl, hS, hR, h12, hL, hP, hb, hl, q1, q2⟩ := h
    refine ⟨_, (pss_cons (ps_expr (pe_call G_check_seen hr (by rfl) T.g_check_seen T.F_check_seen.kp T.b_check_seen .nil pass0 (pa_cons (pv 0) (pa_cons (pv 1) (pa_cons (pe_glob (v := .int (12)) rfl T.g_MOST_SEEN ⟨_, rfl⟩) pa_nil)))))
      (pss_cons (ps_set (i := 2) sc_clash_index.nd rfl (.inl rfl) (pe_call G_all_numbers (hr.mono (by decide)) (by rfl) T.g_all_numbers T.F_all_numbers.kp T.b_all_numbers .nil pass0 (pa_cons (pv 0) pa_nil)))
      (pss_cons (ps_for PassesOwn.never rfl (enumL (K := K) rfl (by rfl) T.n_enumerate (pa_cons (pv 1) pa_nil)) (pg_tupL (K := K) (n := 2) rfl rfl (pgs_cons (pg_name (i := 3) sc_clash_index.nd rfl (.inl rfl)) (pgs_cons (pg_name (i := 4) sc_clash_index.nd rfl (.inl rfl)) pgs_nil))) (pss_cons (ps_set (i := 2) sc_clash_index.nd rfl (.inl rfl) (pe_call G_still_fitting (hr.mono (by decide)) (by rfl) T.g_still_fitting T.F_still_fitting.kp T.b_still_fitting .nil pass0 (pa_cons (pv 2) (pa_cons (pv 0) (pa_cons (pv 4) pa_nil)))))
      (pss_one (ps_if (pt_not (pt_truth (pv 2) fun _ => rfl)) (pss_one (ps_ret (pv 3))) pss_nil))))
      (pss_one (ps_ret pe_non))))), ?_⟩
    have h4 := pow_le12 h12
    have hxl := hP.len
    refine ⟨.ref a, rfl, .ref l, rfl, a, l, ns, xs, ps, 12, rfl, hS, hR, by omega, hL, hP, hb, hl, fun H1 s1 => ?_⟩
    refine ⟨.ref a, rfl, a, ns, rfl, s1.seq hS, h12, fun N H2 s2 f2 e2 => ?_⟩
    refine ⟨.ref l, rfl, l, _, rfl, (s1.trans s2).seq hL, for_it (walk_enum (K := K) (xs := xs))
      (fun i σ H' => ∃ (D : Addr) (y3 y4 : Option V), σ = [some (.ref a), some (.ref l), some (.ref D), y3, y4] ∧ Same H2 H' ∧ H' D = some (.lst ((natI (fitsF ns (ps.take i))).map V.int)) ∧ ∀ j, j < i → fitsF ns (ps.take (j + 1)) ≠ [])
      ⟨N, none, none, rfl, Same.refl H2, e2, fun j hj => absurd hj (Nat.not_lt_zero j)⟩ (fun i σ H' _ ⟨_, _, _, _, s, _⟩ => ((s1.trans s2).trans s).seq hL) (fun i x σ H3 H4 hi hQ hY => ?_) (fun σ H3 hQ => ?_)⟩
    · obtain ⟨D, y3, y4, rfl, s3, g3, hno⟩ := hQ
      obtain ⟨p, z1, z2, rfl, hp, rfl, e1, e2⟩ := hY
      obtain ⟨t, r, rfl, hr1, et⟩ := hP.at e2
      obtain rfl : V.int (i : Nat) = z1 := Option.some.inj e1
      have s4 := s3.trans (new_same (o := .tup [.int (i : Nat), .ref t]) hp)
      have fl := fits_len ns (ps.take i)
      refine ⟨p, _, rfl, SqT.of upd_same, rfl, _, _, rfl, _, _, rfl, rfl, ?_⟩
      refine ⟨.ref D, rfl, .ref a, rfl, .ref t, rfl, D, a, t, ns, fitsF ns (ps.take i), r, rfl, new_same hp _ _ g3, fun b hb => fits_mem hb, ((s1.trans s2).trans s4).seq hS, ((s1.trans s2).trans s4) _ _ et, hR.pos, h12, by omega, fun D2 H5 s5 g5 => ?_⟩
      rw [← fits_take hr1] at g5
      refine ⟨.ref D2, rfl, !(fitsF ns (ps.take (i + 1))).isEmpty, .inl ⟨_, SqL.of g5, by rw [natI_nil]⟩, ?_⟩
      cases he : fitsF ns (ps.take (i + 1)) with
      | nil =>
        refine ⟨.int (i : Nat), rfl, q1 i H5 ⟨by omega, he, hno⟩ (((s1.trans s2).trans s4).trans s5)⟩
      | cons b r =>
        refine ⟨D2, _, _, rfl, s4.trans s5, by rw [he] at g5; exact g5, fun j hj => ?_⟩
        by_cases hji : j < i
        · exact hno j hji
        · obtain rfl : j = i := by omega
          rw [he]
          exact List.cons_ne_nil _ _
    · obtain ⟨D, y3, y4, rfl, s3, g3, hno⟩ := hQ
      exact q2 H3 (fun j hj => hno j (by omega)) ((s1.trans s2).trans s3)

/-! ### the law's own first clash -/
def spLClash (K : PySem.W.Frag) : Sp := fun vs H Q _ => ∃ (a l : Addr) (ns : List Int) (xs : List V) (ps : List (Int × Int)), vs = [.ref a, .ref l] ∧ SqL K H a (ns.map V.int) ∧ Rim ns ∧ ns.length ≤ 12 ∧ SqL K H l xs ∧ Prs H xs ps ∧
  (∀ (i : Nat) (H' : Hp), ClashAt ns ps i → Same H H' → Q (.int i) H') ∧ ∀ H', (∀ j, j < ps.length → fitsF ns (ps.take (j + 1)) ≠ []) → Same H H' → Q .non H'
theorem LL.dp {K : PySem.W.Frag} {H : Hp} {vs : List V} {S : List (List Int)} (h : LL H vs S) : DpAll K H vs (S.map dI) := by
  induction h with
  | nil => exact .nil
  | cons h _ ih => exact .cons (dp_ints (SqL.of h)) ih
theorem bits_shaped (n : Nat) (F : List Nat) : SeqAt.shaped (.list ((F.map (bitR n)).map dI)) = true := by
  refine RP.shaped (rp_lists (k := 400) (by decide) (ls := F.map (bitR n)) fun r hr => ?_)
  obtain ⟨b, _, rfl⟩ := List.mem_map.mp hr
  exact ab01 fun m hm => bitR_01 hm
theorem ok_law_clash (T : Txt K mg) : FnOk P w K mg base CX0 2 T.a_law_clash T.d_law_clash ["rows", "notes"] (spLClash K) := by
  have G_law_all := ok_law_all (P := P) (w := w) (base := base) T
  have G_law_seen := ok_law_seen (P := P) (w := w) (base := base) T
  refine T.F_law_clash.ok sc_law_clash (fun vs H Q E h => ?_) (fun cdv A outer s H vs Q E hr h => ?_)
  · obtain ⟨_, _, _, _, _, rfl, _⟩ := h
    rfl
  · obtain ⟨a, l, ns, xs, ps, rfl, hS, hR, h12, hL, hP, q1, q2⟩ := h
    refine ⟨_, (pss_cons (ps_set (i := 2) sc_law_clash.nd rfl (.inl rfl) (pe_call G_law_all hr (by rfl) T.g_law_all T.F_law_all.kp T.b_law_all .nil pass0 (pa_cons (pe_callB (lenL (K := K) rfl) (by rfl) T.n_len (by decide +kernel) (pa_cons (pv 0) pa_nil)) pa_nil)))
      (pss_cons (ps_for PassesOwn.never rfl (enumL (K := K) rfl (by rfl) T.n_enumerate (pa_cons (pv 1) pa_nil)) (pg_tupL (K := K) (n := 2) rfl rfl (pgs_cons (pg_name (i := 3) sc_law_clash.nd rfl (.inl rfl)) (pgs_cons (pg_tupL (K := K) (n := 2) rfl rfl (pgs_cons (pg_name (i := 4) sc_law_clash.nd rfl (.inr rfl)) (pgs_cons (pg_name (i := 5) sc_law_clash.nd rfl (.inr rfl)) pgs_nil))) pgs_nil))) (pss_cons (ps_setLc (i := 2) (own := [("some", 6)]) (g := gName 6) (by rfl) sc_law_clash.nd rfl rfl (sw_true rfl rfl rfl (by decide +kernel)) (pi_listL (K := K) rfl (pv 2)) (blkOk_by (own := [("some", 6)]) (N := ["rows", "notes", "found", "spot", "spin", "shine", "some"]) (sc := defScope s_law_clash) (by decide +kernel))
        (fun _ _ _ _ _ => (pg_name (i := 6) sc_law_clash.nd rfl (Or.inl rfl))) (fun _ _ _ _ _ => (pts_one (pt_cmpR op_eq (pe_call G_law_seen hr (by rfl) T.g_law_seen T.F_law_seen.kp T.b_law_seen .nil pass0 (pa_cons (pv 0) (pa_cons (pv 6) (pa_cons (pv 4) pa_nil)))) (pv 5) (nomark _)))) (fun _ _ _ _ _ => (pv 6)))
      (pss_one (ps_if (pt_cmpR (eqD (K := K) rfl hr) (pv 2) (pe_lst pa_nil) (nomark _)) (pss_one (ps_ret (pv 3))) pss_nil))))
      (pss_one (ps_ret pe_non)))), ?_⟩
    have hxl := hP.len
    have h1 := hR.pos
    have h4 := pow_le12 h12
    refine ⟨.ref a, rfl, a, _, rfl, .inl hS, ?_⟩
    rw [List.length_map]
    refine ⟨ns.length, rfl, h12, fun N us0 H1 s1 e1 L1 fr0 => ?_⟩
    refine ⟨.ref l, rfl, l, _, rfl, s1.seq hL, for_it (walk_enum (K := K) (xs := xs))
      (fun i σ H' => ∃ (D : Addr) (us : List V) (y3 y4 y5 y6 : Option V), σ = [some (.ref a), some (.ref l), some (.ref D), y3, y4, y5, y6] ∧ Same H1 H' ∧ H' D = some (.lst us) ∧ LL H' us ((fitsF ns (ps.take i)).map (bitR ns.length)) ∧ (∀ a, V.ref a ∈ us → H a = none) ∧ ∀ j, j < i → fitsF ns (ps.take (j + 1)) ≠ [])
      ⟨N, us0, none, none, none, none, rfl, Same.refl H1, e1, L1, fr0, fun j hj => absurd hj (Nat.not_lt_zero j)⟩ (fun i σ H' _ ⟨_, _, _, _, _, _, _, s, _⟩ => (s1.trans s).seq hL) (fun i x σ H2 H5 hi hQ hY => ?_) (fun σ H2 hQ => ?_)⟩
    · obtain ⟨D, us, y3, y4, y5, y6, rfl, s2, g2, hLL, hfr, hno⟩ := hQ
      obtain ⟨pa, z1, z2, rfl, hpa, eH, e1, e2⟩ := hY
      obtain ⟨t, p, rfl, hp, et⟩ := hP.at e2
      obtain rfl : V.int (i : Nat) = z1 := Option.some.inj e1
      have s25 : Same H2 H5 := by rw [eH]; exact new_same hpa
      have gpa : H5 pa = some (.tup [.int (i : Nat), .ref t]) := by rw [eH]; exact upd_same
      clear eH
      have s12 := s1.trans s2
      have s125 := s12.trans s25
      have g5 := s25 _ _ g2
      have hLL := hLL.up s25
      have fl := fits_len ns (ps.take i)
      obtain ⟨F, hF⟩ : ∃ F, F = fitsF ns (ps.take i) := ⟨_, rfl⟩
      rw [← hF] at hLL fl
      refine ⟨pa, _, rfl, SqT.of gpa, rfl, _, _, rfl, _, _, rfl, t, _, rfl, SqT.of (s125 _ _ et), rfl, _, _, rfl, _, _, rfl, rfl, rfl, ?_⟩
      refine ⟨.ref D, rfl, D, rfl, ⟨_, SqL.of g5⟩, fun D2 hD2 => ?_⟩
      refine lc_list (K := K) (a := D) (xs := us) (fun j H' => Same H5 H' ∧ ∃ ws : List V, H' D2 = some (.lst ws) ∧ LL H5 ws (((F.take j).filter (okF ns p)).map (bitR ns.length)) ∧ ∀ a, V.ref a ∈ ws → H a = none)
        ⟨new_same hD2, [], upd_same, .nil, fun a ha => (List.not_mem_nil ha).elim⟩ (fun j H' _ hP => SqL.of (hP.1 _ _ g5)) (fun j v H3 hv hP => ⟨rfl, ?_⟩) (fun H3 hP => ?_)
      · obtain ⟨s3, ws, g3, hW, hwf⟩ := hP
        obtain ⟨r, row, rfl, hrow, er⟩ := hLL.at hv
        obtain ⟨b, hb, rfl⟩ := map_take_at hrow
        have en := filt_next (g := okF ns p) hb
        have hwl := hW.len
        rw [List.length_map] at hwl
        have hw2 : ws.length ≤ 4096 := by
          rw [hwl]
          exact Nat.le_trans (List.length_filter_le _ _) (Nat.le_trans (List.length_take_le' _ _) (by omega))
        refine ⟨.ref a, rfl, .ref r, rfl, .int p.1, rfl, a, r, ns, bitR ns.length b, p.1, rfl, (s125.trans s3).seq hS, SqL.of (s3 _ _ er), (bitR_len _ _).symm, h1, hR.le, hR.ab, ab01 fun m hm => bitR_01 hm, fun H4 s4 => ?_⟩
        have g4 := s4 _ _ g3
        refine ⟨.int p.2, rfl, rfl, _, rfl, ite2 (fun h => ?_) (fun h => ?_)⟩
        · have ho : okF ns p b = true := decide_eq_true (V.int.inj (of_decide_eq_true h))
          refine ⟨.ref r, rfl, _, g4, sz40 (by omega), same_over (s3.trans s4) hD2, ws ++ [.ref r], upd_same, ?_, fun a ha => ?_⟩
          · rw [en, if_pos ho, List.map_append]
            exact hW.snoc er
          · rcases List.mem_append.mp ha with h | h
            · exact hwf a h
            · have e := List.mem_singleton.mp h
              injection e with e
              rw [e]
              exact hfr r (List.mem_of_getElem? hv)
        · have ho : ¬ okF ns p b = true := fun e => h (decide_eq_true (congrArg V.int (of_decide_eq_true e)))
          refine ⟨s3.trans s4, ws, g4, ?_, hwf⟩
          rw [en, if_neg ho, List.append_nil]
          exact hW
      · obtain ⟨s3, ws, g3, hW, hwf⟩ := hP
        have hul := hLL.len
        rw [List.length_map] at hul
        rw [hul, List.take_length, hF, ← fits_take hp] at hW
        refine ⟨.ref D2, rfl, (by show 0 ≤ sizeLine; decide), fun Z hZ => ?_⟩
        have s6 := s3.trans (new_same (o := .lst []) hZ)
        have hW2 := hW.up s6
        refine ⟨_, _, .lst (SqL.of (new_same hZ _ _ g3)) hW2.dp, .lst (SqL.of upd_same) .nil, bits_shaped _ _, by decide, _, rfl, ?_⟩
        have s7 := s125.trans s6
        have s8 := (s2.trans s25).trans s6
        have g6 := new_same (o := .lst []) hZ _ _ g3
        generalize upd H3 Z (.lst []) = H7 at s7 s8 g6 hW2 ⊢
        cases he : fitsF ns (ps.take (i + 1)) with
        | nil => exact ⟨.int (i : Nat), rfl, q1 i H7 ⟨by omega, he, hno⟩ s7⟩
        | cons b r =>
          refine ite2 (fun h => absurd h (by simp [PyData.eqv, PyData.eqvAll])) fun _ => ⟨D2, ws, _, _, _, _, rfl, s8, g6, by rw [he] at hW2; exact hW2, hwf, fun j hj => ?_⟩
          by_cases hji : j < i
          · exact hno j hji
          · obtain rfl : j = i := by omega
            rw [he]
            exact List.cons_ne_nil _ _
    · obtain ⟨D, us, y3, y4, y5, y6, rfl, s2, g2, hLL, hfr, hno⟩ := hQ
      exact q2 H2 (fun j hj => hno j (by omega)) (s1.trans s2)

/-! ### _law_notes -/
def SameT (H1 H2 : Hp) : Prop := ∀ b xs, H1 b = some (.tup xs) → H2 b = some (.tup xs)
theorem SameT.of {H1 H2 : Hp} (s : Same H1 H2) : SameT H1 H2 := fun b xs e => s _ _ e
theorem SameT.put {H : Hp} {D : Addr} {us : List V} {o : HO} (e : H D = some (.lst us)) : SameT H (upd H D o) := fun b xs h => by
  rw [upd_ne fun z => ?_]
  · exact h
  · rw [z, e] at h
    cases h
theorem Prs.upT {H H1 : Hp} {vs : List V} {ps : List (Int × Int)} (h : Prs H vs ps) (s : SameT H H1) : Prs H1 vs ps := by
  induction h with
  | nil => exact .nil
  | cons h _ ih => exact .cons (s _ _ h) ih
theorem SameT.but {T : Addr} {c : Int} {H H1 : Hp} (u : But T H H1) (k : Stk H T c) : SameT H H1 := fun b xs e => u b _ e fun z => by
  obtain ⟨x, y, z', hT, _⟩ := k
  rw [z, hT] at e
  cases e
theorem Prs.set {H : Hp} {vs : List V} {ps : List (Int × Int)} {t : Addr} {p : Int × Int} (h : Prs H vs ps) (e : H t = some (.tup [.int p.1, .int p.2])) : ∀ j : Nat, Prs H (vs.set j (.ref t)) (ps.set j p) := by
  induction h with
  | nil => exact fun _ => .nil
  | cons h r ih =>
    intro j
    cases j with
    | zero => exact .cons e r
    | succ j => exact .cons h (ih j)
theorem Prs.get {H : Hp} {vs : List V} {ps : List (Int × Int)} (h : Prs H vs ps) : ∀ {i : Nat}, i < ps.length → ∃ t p, vs[i]? = some (.ref t) ∧ ps[i]? = some p ∧ H t = some (.tup [.int p.1, .int p.2]) := by
  induction h with
  | nil => exact fun h => absurd h (Nat.not_lt_zero _)
  | cons h _ ih =>
    intro i hi
    cases i with
    | zero => exact ⟨_, _, rfl, rfl, h⟩
    | succ i => exact ih (Nat.lt_of_succ_lt_succ hi)
theorem e40N : (10 : Nat) ^ 40 = 10000000000000000000000000000000000000000 := by decide +kernel
def LkOk (p : Int × Int) : Prop := p.1.natAbs < 1000000000000000000000000000000000000000 ∧ 0 ≤ p.2 ∧ p.2.natAbs ≤ 1000000000000000000000000000000000000000
def LkIn (p : Int × Int) : Prop := p.1.natAbs < 1000000000000000000000000000000000000000 ∧ 0 ≤ p.2 ∧ p.2 ≤ 1000000000000000000000000000000 * 40
theorem LkIn.ok {p : Int × Int} (h : LkIn p) : LkOk p := ⟨h.1, h.2.1, by have := h.2.2; have := h.2.1; omega⟩
def spNotes34 (K : PySem.W.Frag) : Sp := fun vs H Q _ => ∃ (t a : Addr) (ns : List Int) (n c : Int), vs = [.ref t, .ref a, .int n] ∧ H a = some (.lst (ns.map V.int)) ∧ a ≠ t ∧ Rim ns ∧ ns.length ≤ 12 ∧ 0 ≤ n ∧ n ≤ 40 ∧ Stk H t c ∧ 0 ≤ c ∧ c < 2 ^ 38 ∧
  ∀ (D : Addr) (xs : List V) (ps : List (Int × Int)) (H' : Hp), But t H H' → H D = none → H' D = some (.lst xs) → Prs H' xs ps → (∀ p ∈ ps, LkOk p) → ps.length ≤ 40 → Stk H' t (c + 200) → Q (.ref D) H'
def MidNo (t a F D : Addr) (n m : Int) (H : Hp) (e : Int) : L2.St → Hp → Prop := fun σ' H' => ∃ (y6 y7 y8 y9 y10 : Option V) (xs : List V) (ps : List (Int × Int)),
  σ' = [some (.ref t), some (.ref a), some (.int n), some (.int m), some (.ref F), some (.ref D), y6, y7, y8, y9, y10] ∧ But t H H' ∧ H' F = some (.lst xs) ∧ Prs H' xs ps ∧ (∀ p ∈ ps, LkOk p) ∧ ps.length ≤ 40 ∧ Stk H' t e
theorem ok_law_notes (T : Txt K mg) : FnOk P w K mg base CX0 2 T.a_law_notes T.d_law_notes ["stock", "rows", "often"] (spNotes34 K) := by
  have G_law_draw := ok_law_draw (P := P) (w := w) (base := base) T
  have G_law_seen := ok_law_seen (P := P) (w := w) (base := base) T
  refine T.F_law_notes.ok sc_law_notes (fun vs H Q E h => ?_) (fun cdv A outer s H vs Q E hr h => ?_)
  · obtain ⟨_, _, _, _, _, rfl, _⟩ := h
    rfl
  · obtain ⟨t, a, ns, n, c, rfl, gA, nat, hR, h12, hn0, hn, hT, hc0, hc, q⟩ := h
    refine ⟨_, (pss_cons (ps_par (i := 3) (j := 4) (by rfl) sc_law_notes.nd rfl rfl (by decide) rfl rfl (pa_cons (pe_callB (lenL (K := K) rfl) (by rfl) T.n_len (by decide +kernel) (pa_cons (pv 1) pa_nil)) (pa_cons (pe_lst pa_nil) pa_nil)) (by rfl))
      (pss_cons (ps_setLc (i := 5) (own := [("slot", 6)]) (g := gName 6) (tt := tYes) (by rfl) sc_law_notes.nd rfl rfl (sw_true rfl rfl rfl (by decide +kernel)) (pi_range1 (by rfl) T.n_range (pa_cons (pv 3) pa_nil)) (blkOk_by (own := [("slot", 6)]) (N := ["stock", "rows", "often", "size", "found", "others", "slot", "turn", "spin", "spot", "bent"]) (sc := defScope s_law_notes) (by decide +kernel))
        (fun _ _ _ _ _ => (pg_name (i := 6) sc_law_notes.nd rfl (Or.inl rfl))) (fun _ _ _ _ _ => pts_nil) (fun _ _ _ _ _ => (pe_call G_law_draw hr (by rfl) T.g_law_draw T.F_law_draw.kp T.b_law_draw .nil pass0 (pa_cons (pv 0) (pa_cons pe_int pa_nil)))))
      (pss_cons (ps_for PassesOwn.never rfl (pi_range1 (by rfl) T.n_range (pa_cons (pv 2) pa_nil)) (pg_name (i := 7) sc_law_notes.nd rfl (.inl rfl)) (pss_cons (ps_set (i := 8) sc_law_notes.nd rfl (.inl rfl) (pe_op op_add (pe_call G_law_draw hr (by rfl) T.g_law_draw T.F_law_draw.kp T.b_law_draw .nil pass0 (pa_cons (pv 0) (pa_cons (pv 3) pa_nil))) (pe_op op_mul (pv 3) (pe_ix (ixL (K := K) rfl) (pe_lst (pa_cons pe_int (pa_cons pe_int (pa_cons (pe_un un_neg pe_int) (pa_cons (pe_call G_law_draw hr (by rfl) T.g_law_draw T.F_law_draw.kp T.b_law_draw .nil pass0 (pa_cons (pv 0) (pa_cons (pe_op op_pow pe_int pe_int) pa_nil))) pa_nil))))) (pe_call G_law_draw hr (by rfl) T.g_law_draw T.F_law_draw.kp T.b_law_draw .nil pass0 (pa_cons (pv 0) (pa_cons pe_int pa_nil))) (fun _ _ => rfl)))))
      (pss_one (ps_expr (pe_bm PySem.F.plainAttrs_list PySem.F.slot_list_append PySem.F.type_list_append mt_append (pv 4) (pa_cons (pe_tup (pa_cons (pv 8) (pa_cons (pe_call G_law_seen hr (by rfl) T.g_law_seen T.F_law_seen.kp T.b_law_seen .nil pass0 (pa_cons (pv 1) (pa_cons (pv 5) (pa_cons (pv 8) pa_nil)))) pa_nil))) pa_nil))))))
      (pss_mid (ps_if (PW.pt (pw_and (pt_cmpR (neD (K := K) rfl hr) (pv 4) (pe_lst pa_nil) (nomark _)) (pw_and1 (pt_cmpR op_eq (pe_call G_law_draw hr (by rfl) T.g_law_draw T.F_law_draw.kp T.b_law_draw .nil pass0 (pa_cons (pv 0) (pa_cons pe_int pa_nil))) pe_int (nomark _))))) (pss_cons (ps_set (i := 9) sc_law_notes.nd rfl (.inl rfl) (pe_call G_law_draw hr (by rfl) T.g_law_draw T.F_law_draw.kp T.b_law_draw .nil pass0 (pa_cons (pv 0) (pa_cons (pe_callB (lenL (K := K) rfl) (by rfl) T.n_len (by decide +kernel) (pa_cons (pv 4) pa_nil)) pa_nil))))
      (pss_cons (ps_set (i := 10) sc_law_notes.nd rfl (.inl rfl) (pe_ix (ixL (K := K) rfl) (pe_lst (pa_cons (pe_op op_add (pe_ix (ixTL (K := K) rfl) (pe_ix (ixL (K := K) rfl) (pv 4) (pv 9) (fun _ _ => rfl)) pe_int (fun _ _ => rfl)) pe_int) (pa_cons pe_int (pa_cons (pe_callB (call_max2 rfl) (by rfl) T.n_max (by decide +kernel) (pa_cons pe_int (pa_cons (pe_op op_sub (pe_ix (ixTL (K := K) rfl) (pe_ix (ixL (K := K) rfl) (pv 4) (pv 9) (fun _ _ => rfl)) pe_int (fun _ _ => rfl)) pe_int) pa_nil))) (pa_cons (pe_op op_pow pe_int pe_int) pa_nil))))) (pe_call G_law_draw hr (by rfl) T.g_law_draw T.F_law_draw.kp T.b_law_draw .nil pass0 (pa_cons (pv 0) (pa_cons pe_int pa_nil))) (fun _ _ => rfl)))
      (pss_one (ps_asg (pe_tup (pa_cons (pe_ix (ixTL (K := K) rfl) (pe_ix (ixL (K := K) rfl) (pv 4) (pv 9) (fun _ _ => rfl)) pe_int (fun _ _ => rfl)) (pa_cons (pv 10) pa_nil))) (pg_sub (pv 4) (pv 9) set_list))))) pss_nil)
      (pss_one (ps_ret (pv 4))))))), ?_⟩
    have lp := hR.pos
    refine ⟨.ref a, rfl, a, _, rfl, .inl (SqL.of gA), ?_⟩
    rw [List.length_map]
    refine ⟨(by show 0 ≤ sizeLine; decide), fun F hF => ⟨_, _, rfl, ?_⟩⟩
    have nF : F ≠ t := hT.ne hF
    have u1 := But.of (T := t) (new_same (o := .lst []) hF)
    have k1 := hT.up (o := .lst []) hF
    have gF1 : (upd H F (.lst [])) F = some (.lst []) := upd_same
    generalize upd H F (.lst []) = H1 at u1 k1 gF1 ⊢
    -- others
    refine ⟨.int ns.length, rfl, ns.length, rfl, by omega, by omega, fun D hD => ?_⟩
    have nD : D ≠ t := k1.ne hD
    have hHD := free_butS u1 hT hD nD
    have nFD : F ≠ D := ne_of_none gF1 hD
    refine lc_range (lo := 0) (n := ((ns.length : Nat) : Int).toNat) (fun i H' => But t H H' ∧ Stk H' t (c + i) ∧ H' F = some (.lst []) ∧ ∃ ms : List Int, H' D = some (.lst (ms.map V.int)) ∧ ms.length = i ∧ ∀ m ∈ ms, 0 ≤ m ∧ m ≤ 1)
      ⟨u1.trans (But.of (new_same hD)), (k1.up hD).mono (by omega), new_same hD _ _ gF1, [], upd_same, rfl, fun m hm => (List.not_mem_nil hm).elim⟩ (fun i H2 hi hP => ⟨rfl, ?_⟩) (fun H2 hP => ?_)
    · obtain ⟨u2, k2, gF2, ms, g2, hlen, hall⟩ := hP
      rw [Int.toNat_natCast] at hi
      refine ⟨.ref t, rfl, t, 2, c + i, rfl, by omega, by omega, k2, by omega, fun v H3 v0 v1 k3 u3 => ?_⟩
      refine ⟨_, u3 _ _ g2 nD, by rw [List.length_map]; exact sz40 (by omega), but_over (u2.trans u3) hHD, (k3.over nD).mono (by omega), by rw [upd_ne nFD]; exact u3 _ _ gF2 nF, ms ++ [v], ?_, by rw [List.length_append]; show ms.length + 1 = i + 1; omega, fun z hz => ?_⟩
      · rw [upd_same, List.map_append]
        rfl
      · rcases List.mem_append.mp hz with h | h
        · exact hall z h
        · rw [List.mem_singleton.mp h]
          omega
    obtain ⟨u2, k2, gF2, ms, g2, hlen, hall⟩ := hP
    rw [Int.toNat_natCast] at hlen k2
    have k2 := k2.mono (show c + (ns.length : Int) ≤ c + 12 by omega)
    -- looks
    refine ⟨.int n, rfl, n, rfl, by omega, by omega, for_range (lo := 0) (n := n.toNat)
      (fun i σ H' => ∃ (y6 y7 y8 : Option V) (xs : List V) (ps : List (Int × Int)), σ = [some (.ref t), some (.ref a), some (.int n), some (.int ns.length), some (.ref F), some (.ref D), y6, y7, y8, none, none] ∧ But t H H' ∧
        H' F = some (.lst xs) ∧ Prs H' xs ps ∧ (∀ p ∈ ps, LkIn p) ∧ ps.length = i ∧ H' D = some (.lst (ms.map V.int)) ∧ Stk H' t (c + 12 + 3 * i))
      ⟨_, _, _, [], [], rfl, u2, gF2, .nil, fun p hp => (List.not_mem_nil hp).elim, rfl, g2, k2.mono (by omega)⟩ (fun i σ H3 hi hP => ?_) (fun σ H3 hP => ?_)⟩
    · obtain ⟨y6, y7, y8, xs, ps, rfl, u3, g3, hPr, hb, hl3, gD3, k3⟩ := hP
      have hi6 : i < 40 := by omega
      refine ⟨.ref t, rfl, .int ns.length, rfl, t, ns.length, c + 12 + 3 * i, rfl, by omega, by omega, k3, by omega, fun r1 H4 a4 b4 k4 u4 => ?_⟩
      refine ⟨.int ns.length, rfl, 1, rfl, .ref t, rfl, 10, 37, rfl, rfl, ⟨by decide, by decide, by decide⟩, t, 10 ^ (37 : Int).toNat, c + 12 + 3 * i + 1, rfl, by decide +kernel, by decide +kernel, k4, by omega, fun r2 H5 a5 b5 k5 u5 => ?_⟩
      have e37 : (10 : Int) ^ (37 : Int).toNat = 10000000000000000000000000000000000000 := by decide +kernel
      rw [e37] at b5
      refine ⟨(by show 4 ≤ sizeLine; decide), fun l hl => ?_⟩
      refine ⟨.ref t, rfl, t, 4, c + 12 + 3 * i + 1 + 1, rfl, by omega, by omega, k5.up hl, by omega, fun r3 H6 a6 b6 k6 u6 => ?_⟩
      have g6 : H6 l = some (.lst (([0, 0, -1, r2] : List Int).map V.int)) := u6 _ _ upd_same (k5.ne hl)
      obtain ⟨d, hd, hat⟩ := at_in (ns := [0, 0, -1, r2]) a6 (by show r3 < 4; omega)
      have hd1 : -1 ≤ d ∧ d < 10000000000000000000000000000000000000 := by
        have := List.mem_of_getElem? hd
        simp only [List.mem_cons, List.not_mem_nil, or_false] at this
        omega
      refine ⟨l, _, r3, .int d, rfl, rfl, SqL.of g6, hat, ns.length, d, rfl, rfl, .inl (by omega), r1, _, rfl, rfl, ?_⟩
      obtain ⟨y, hy⟩ : ∃ y, y = r1 + (ns.length : Int) * d := ⟨_, rfl⟩
      show gName 8 (V.int (r1 + (ns.length : Int) * d)) _ _ _
      rw [← hy]
      have hy1 : y.natAbs < 1000000000000000000000000000000000000000 := by
        have m1 : (ns.length : Int) * d ≤ 12 * 10000000000000000000000000000000000000 := by
          by_cases h : 0 ≤ d
          · exact Int.mul_le_mul (by omega) (by omega) h (by omega)
          · have e : d = -1 := by omega
            rw [e]
            omega
        have m2 : -12 ≤ (ns.length : Int) * d := by
          by_cases h : 0 ≤ d
          · have := Int.mul_nonneg (show (0 : Int) ≤ ns.length by omega) h
            omega
          · have e : d = -1 := by omega
            rw [e]
            omega
        generalize (ns.length : Int) * d = z at hy m1 m2
        omega
      have u46 := ((u4.trans u5).trans (But.of (new_same hl))).trans u6
      have g6F := u46 _ _ g3 nF
      have g6D := u46 _ _ gD3 nD
      have u6H := u3.trans u46
      refine ⟨.ref F, rfl, .inl ⟨rfl, _, SqL.of g6F⟩, .int y, rfl, .ref a, rfl, .ref D, rfl, .int y, rfl, a, D, ns, ms, y, rfl, SqL.of (u6H _ _ gA nat), SqL.of g6D, hlen.symm, lp, hR.le, hR.ab, ab01 hall, fun H7 s7 => ?_⟩
      have hli := light01 (t := y) hR hall
      refine ⟨(by show 2 ≤ sizeLine; decide), fun tp htp => ?_⟩
      have s8 := s7.trans (new_same (o := .tup [.int y, .int (lightV ns ms y)]) htp)
      have g8 := s8 _ _ g6F
      have hx7 := hPr.len
      refine ⟨F, _, _, rfl, rfl, g8, sz40 (by omega), ?_⟩
      refine ⟨_, _, _, xs ++ [.ref tp], ps ++ [(y, lightV ns ms y)], rfl, ?_, upd_same, ?_, fun p hp => ?_, by rw [List.length_append]; show ps.length + 1 = i + 1; omega, ?_, ?_⟩
      · exact but_over (u6H.trans (But.of s8)) hF
      · have p6 := hPr.upT (SameT.but u46 k3)
        have p8 := p6.up s8
        exact (p8.snoc (t := tp) (p := (y, lightV ns ms y)) upd_same).upT (SameT.put g8)
      · rcases List.mem_append.mp hp with h | h
        · exact hb p h
        · rw [List.mem_singleton.mp h]
          exact ⟨hy1, hli.1, hli.2⟩
      · rw [upd_ne nFD.symm]
        exact s8 _ _ g6D
      · exact ((k6.same s8).over nF).mono (by omega)
    · obtain ⟨y6, y7, y8, xs, ps, rfl, u3, g3, hPr, hb, hl3, gD3, k3⟩ := hP
      have hxl := hPr.len
      refine ⟨MidNo t a F D n ns.length H (c + 200), ⟨.ref F, rfl, (by show 0 ≤ sizeLine; decide), fun l hl => ?_⟩, fun σ' H6 hM => ?_⟩
      · have sl := new_same (o := .lst []) hl
        have hb40 : ∀ p ∈ ps, p.1.natAbs < 10 ^ 40 ∧ p.2.natAbs < 10 ^ 40 := fun p hp => by
          rw [e40N]
          have hk := (hb p hp).ok
          exact ⟨Nat.lt_of_lt_of_le hk.1 (by decide), Nat.lt_of_le_of_lt hk.2.2 (by decide)⟩
        have hDP := (dat_pairs (k := 40) (n := 40) hb40 (by decide) (by omega)).rp.shaped
        refine ⟨_, _, .lst (SqL.of (sl _ _ g3)) (hPr.up sl).dp, .lst (SqL.of upd_same) .nil, hDP, by decide, ?_⟩
        have uM := u3.trans (But.of sl)
        have kM := k3.same sl
        by_cases hps : ps = []
        · subst hps
          cases hPr
          refine ⟨_, rfl, ite2 (fun h => absurd h (by decide +kernel)) (fun _ => iteF ?_)⟩
          exact ⟨_, _, _, _, _, [], [], rfl, uM, sl _ _ g3, .nil, fun p hp => (List.not_mem_nil hp).elim, by decide, kM.mono (by omega)⟩
        · have hp0 : 0 < ps.length := List.length_pos_iff.mpr hps
          have hne : PyData.eqv (.list (ps.map dP)) (.list []) = false := by
            cases ps with
            | nil => exact absurd rfl hps
            | cons p r => rfl
          refine ⟨_, rfl, ite2 (fun _ => ?_) (fun h => absurd (by rw [hne]; rfl) h)⟩
          have gM := sl _ _ g3
          have pM := hPr.up sl
          generalize upd H3 l (.lst []) = HM at uM kM gM pM ⊢
          refine ⟨.ref t, rfl, t, 4, c + 12 + 3 * n.toNat, rfl, by omega, by omega, kM, by omega, fun v4 H4 a4 b4 k4 u4 => ?_⟩
          have g4 := u4 _ _ gM nF
          have p4 := pM.upT (SameT.but u4 kM)
          refine ⟨rfl, _, rfl, ite2 (fun _ => ?_) (fun _ => ?_)⟩
          · refine ⟨.ref t, rfl, .ref F, rfl, F, _, rfl, .inl (SqL.of g4), t, _, c + 12 + 3 * n.toNat + 1, rfl, by omega, by omega, k4, by omega, fun sp H5 a5 b5 k5 u5 => ?_⟩
            have g5 := u5 _ _ g4 nF
            have p5 := p4.upT (SameT.but u5 k4)
            have hj : sp.toNat < ps.length := by omega
            obtain ⟨tp, p, hx, hp, et⟩ := p5.get hj
            have hat : atI xs sp = some (.ref tp) := by
              have := atI_nat hx
              rwa [show ((sp.toNat : Nat) : Int) = sp by omega] at this
            have hpi := hb p (List.mem_of_getElem? hp)
            refine ⟨.ref F, rfl, .int sp, rfl, F, _, _, .ref tp, rfl, rfl, SqL.of g5, hat, tp, _, 1, .int p.2, rfl, rfl, SqT.of et, rfl, p.2, 1, rfl, rfl, ?_⟩
            refine ⟨.ref F, rfl, .int sp, rfl, F, _, _, .ref tp, rfl, rfl, SqL.of g5, hat, tp, _, 1, .int p.2, rfl, rfl, SqT.of et, rfl, p.2, 1, rfl, rfl, 0, _, rfl, ?_⟩
            refine ⟨10, 39, rfl, rfl, ⟨by decide, by decide, by decide⟩, (by show 4 ≤ sizeLine; decide), fun l2 hl2 => ?_⟩
            have e39 : (10 : Int) ^ (39 : Int).toNat = 1000000000000000000000000000000000000000 := by decide +kernel
            refine ⟨.ref t, rfl, t, 4, c + 12 + 3 * n.toNat + 1 + 1, rfl, by omega, by omega, k5.up hl2, by omega, fun v6 H6 a6 b6 k6 u6 => ?_⟩
            have g6l : H6 l2 = some (.lst (([p.2 + 1, 0, (if (0 : Int) < p.2 - 1 then p.2 - 1 else 0), 10 ^ (39 : Int).toNat] : List Int).map V.int)) := u6 _ _ upd_same (k5.ne hl2)
            obtain ⟨z, hz, hatz⟩ := at_in (ns := [p.2 + 1, 0, (if (0 : Int) < p.2 - 1 then p.2 - 1 else 0), 10 ^ (39 : Int).toNat]) a6 (by show v6 < 4; omega)
            have hz1 : 0 ≤ z ∧ z.natAbs ≤ 1000000000000000000000000000000000000000 := by
              have h1 := hpi.2.1
              have h2 := hpi.2.2
              have := List.mem_of_getElem? hz
              simp only [List.mem_cons, List.not_mem_nil, or_false, e39] at this
              rcases this with e | e | e | e
              · omega
              · omega
              · revert e
                split <;> intro e <;> omega
              · omega
            refine ⟨l2, _, v6, .int z, rfl, rfl, SqL.of g6l, hatz, ?_⟩
            have u56 := (But.of (T := t) (new_same (o := .lst [.int (p.2 + 1), .int 0, .int (if (0 : Int) < p.2 - 1 then p.2 - 1 else 0), .int (10 ^ (39 : Int).toNat)]) hl2)).trans u6
            have g6 := u56 _ _ g5 nF
            have p6 := p5.upT (SameT.but u56 k5)
            have et6 := SameT.but u56 k5 _ _ et
            refine ⟨.ref F, rfl, .int sp, rfl, F, _, _, .ref tp, rfl, rfl, SqL.of g6, hat, tp, _, 0, .int p.1, rfl, rfl, SqT.of et6, rfl, .int z, rfl, (by show 2 ≤ sizeLine; decide), fun tq htq => ?_⟩
            have sq := new_same (o := .tup [.int p.1, .int z]) htq
            have xl := p6.len
            refine ⟨.ref F, rfl, .int sp, rfl, F, _, sp, sp.toNat, rfl, rfl, sq _ _ g6, ixN_in a5 (by omega), ?_⟩
            have gS := sq _ _ g6
            refine ⟨_, _, _, _, _, xs.set sp.toNat (.ref tq), ps.set sp.toNat (p.1, z), rfl, ?_, upd_same, ?_, fun r hr => ?_, by rw [List.length_set]; omega, ?_⟩
            · exact but_over ((((uM.trans u4).trans u5).trans u56).trans (But.of sq)) hF
            · exact ((p6.up sq).set (t := tq) (p := (p.1, z)) upd_same sp.toNat).upT (SameT.put gS)
            · rcases List.mem_or_eq_of_mem_set hr with h | h
              · exact (hb r h).ok
              · rw [h]
                exact ⟨hpi.1, hz1.1, hz1.2⟩
            · exact ((k6.same sq).over nF).mono (by omega)
          · exact ⟨_, _, _, _, _, xs, ps, rfl, uM.trans u4, g4, p4, fun p hp => (hb p hp).ok, by omega, k4.mono (by omega)⟩
      · obtain ⟨y6, y7, y8, y9, y10, xs, ps, rfl, u6, g6, hP6, hb6, hl6, k6⟩ := hM
        exact ⟨.ref F, rfl, q F xs ps H6 u6 hF g6 hP6 hb6 hl6 k6⟩

/-! ### nothing fits: Impossible -/
structure ImpT (K : PySem.W.Frag) (mg : Str → Option Value) (C : Addr) : Prop where
  g : mg "Impossible" = some (.ref C)
  k : PySem.W.keepIn K (.ref C) = true
  x : ∃ bm ni ii, ExcBaseFacts "ValueError" ni ii bm ∧ PySem.W.excIn K C bm ni = true
  b : PySem.W.subIn K (.ref C) (.type "BaseException") = some true
  t : PySem.W.typeIn K (.ref C) = some (.type "type")
  e : PySem.W.exmOne K (.ref C) (.ref C) = some true
theorem exm_me {K : PySem.W.Frag} {S : Addr} (b : PySem.W.subIn K (.ref S) (.type "BaseException") = some true) (i : PySem.W.isClsIn K S = true) (t : PySem.W.typeIn K (.ref S) = some (.type "type")) (s : PySem.W.subIn K (.ref S) (.ref S) = some true) : PySem.W.exmOne K (.ref S) (.ref S) = some true := by
  unfold PySem.W.isClsIn at i
  unfold PySem.W.exmOne PySem.W.kitCls
  rw [b]
  simp [i, t, s]
def spSomeX (K : PySem.W.Frag) (C : Addr) : Sp := fun vs H Q E => ∃ (a l : Addr) (ns : List Int) (xs : List V) (ps : List (Int × Int)), vs = [.ref a, .ref l] ∧ SqL K H a (ns.map V.int) ∧ SqL K H l xs ∧ Prs H xs ps ∧ 1 ≤ ns.length ∧ ns.length ≤ 12 ∧ fitsF ns ps = [] ∧
  ∀ H', Same H H' → E (.ref C) none H'
theorem ok_some_fitsX {C : Addr} (T : Txt K mg) (M : ImpT K mg C) : FnOk P w K mg base (L2.CX P w) 5 T.a_some_fits T.d_some_fits ["disc", "looks"] (spSomeX K C) := by
  have G_fits := ok_fits (P := P) (w := w) (base := base) T
  obtain ⟨bm, ni, ii, FB, hx⟩ := M.x
  refine T.F_some_fits.okX sc_some_fits (fun vs H Q E h => ?_) (fun cdv A outer s H vs Q E hr h => ?_)
  · obtain ⟨_, _, _, _, _, rfl, _⟩ := h
    rfl
  · obtain ⟨a, l, ns, xs, ps, rfl, hS, hL, hP, h1, h12, hne, q⟩ := h
    refine ⟨_, (pss_cons (ps_set (i := 2) sc_some_fits.nd rfl (.inl rfl) (pe_call G_fits hr (by rfl) T.g_fits T.F_fits.kp T.b_fits .nil pass0 (pa_cons (pv 0) (pa_cons (pv 1) pa_nil))))
      (pss_cons (ps_if (pt_not (pt_truth (pv 2) fun _ => rfl)) (pss_one (ps_raise rfl (takes_of rfl rfl rfl rfl) (pmk_own FB hx M.g M.k (raises_own M.b M.t) (by rfl)))) pss_nil)
      (pss_one (ps_ret (pv 2))))), ?_⟩
    refine ⟨.ref a, rfl, .ref l, rfl, a, l, ns, xs, ps, rfl, hS, hL, hP, h1, h12, fun D H1 s1 g1 => ?_⟩
    rw [hne] at g1
    refine ⟨.ref D, rfl, false, .inl ⟨_, SqL.of g1, rfl⟩, ?_⟩
    exact q H1 s1
def spSureX (K : PySem.W.Frag) (C : Addr) : Sp := fun vs H Q E => ∃ (a l : Addr) (ns : List Int) (xs : List V) (ps : List (Int × Int)), vs = [.ref a, .ref l] ∧ SqL K H a (ns.map V.int) ∧ Rim ns ∧ ns.length ≤ 12 ∧ SqL K H l xs ∧ Prs H xs ps ∧
  (∀ p ∈ ps, 0 ≤ p.2) ∧ ps.length ≤ 40 ∧ fitsF ns ps = [] ∧ ∀ H', Same H H' → E (.ref C) none H'
theorem ok_sure_slotsX {C : Addr} (T : Txt K mg) (M : ImpT K mg C) : FnOk P w K mg base (L2.CX P w) 6 T.a_sure_slots T.d_sure_slots ["disc", "looks"] (spSureX K C) := by
  have G_check_seen := ok_check_seen (P := P) (w := w) (base := base) T
  have G_some_fits := ok_some_fitsX (P := P) (w := w) (base := base) T M
  have G_numbered_disc := ok_numbered_disc (P := P) (w := w) (base := base) T
  refine T.F_sure_slots.okX sc_sure_slots (fun vs H Q E h => ?_) (fun cdv A outer s H vs Q E hr h => ?_)
  · obtain ⟨_, _, _, _, _, rfl, _⟩ := h
    rfl
  · obtain ⟨a, l, ns, xs, ps, rfl, hS, hR, h12, hL, hP, hb, hl, hne, q⟩ := h
    refine ⟨_, (pss_cons (ps_expr (pe_call G_check_seen hr (by rfl) T.g_check_seen T.F_check_seen.kp T.b_check_seen .nil pass0 (pa_cons (pv 0) (pa_cons (pv 1) (pa_cons (pe_glob (v := .int (12)) rfl T.g_MOST_SEEN ⟨_, rfl⟩) pa_nil)))))
      (pss_cons (ps_setLc (i := 2) (own := [("number", 3)]) (g := gName 3) (tt := tYes) (by rfl) sc_sure_slots.nd rfl rfl (sw_true rfl rfl rfl (by decide +kernel)) (pi_listL (K := K) rfl (pe_call G_some_fits hr (by rfl) T.g_some_fits T.F_some_fits.kp T.b_some_fits .nil (passes_call (E := E) (W := fun cls d _ H => E cls d H) (takes_of rfl rfl rfl rfl) (fun _ _ _ _ h => h)) (pa_cons (pv 0) (pa_cons (pv 1) pa_nil)))) (blkOk_by (own := [("number", 3)]) (N := ["disc", "looks", "discs", "number", "slot", "items"]) (sc := defScope s_sure_slots) (by decide +kernel))
        (fun _ _ _ _ _ => (pg_name (i := 3) sc_sure_slots.nd rfl (Or.inl rfl))) (fun _ _ _ _ _ => pts_nil) (fun _ _ _ _ _ => (pe_call G_numbered_disc (hr.mono (by decide)) (by rfl) T.g_numbered_disc T.F_numbered_disc.kp T.b_numbered_disc .nil pass0 (pa_cons (pv 3) (pa_cons (pe_callB (lenL (K := K) rfl) (by rfl) T.n_len (by decide +kernel) (pa_cons (pv 0) pa_nil)) pa_nil)))))
      (pss_one (ps_ret (pe_lc (own := [("slot", 4), ("items", 5)]) (by rfl) sc_sure_slots.nd (enumZ (K := K) rfl (by rfl) T.n_enumerate (by rfl) T.n_zip (pv 2)) (blkOk_by (own := [("slot", 4), ("items", 5)]) (N := ["disc", "looks", "discs", "number", "slot", "items"]) (sc := defScope s_sure_slots) (by decide +kernel))
        (fun _ _ _ _ _ => (pg_tupL (K := K) (n := 2) rfl rfl (pgs_cons (pg_name (i := 4) sc_sure_slots.nd rfl (.inl rfl)) (pgs_cons (pg_name (i := 5) sc_sure_slots.nd rfl (.inl rfl)) pgs_nil)))) (fun _ _ _ _ _ => (pts_one (pt_cmpR op_eq (pe_callB (cr_minT (K := K) rfl rfl hr) (by rfl) T.n_min (by decide +kernel) (pa_cons (pv 5) pa_nil)) (pe_callB (cr_maxT (K := K) rfl rfl hr) (by rfl) T.n_max (by decide +kernel) (pa_cons (pv 5) pa_nil)) (nomark _)))) (fun _ _ _ _ _ => (pe_tup (pa_cons (pv 4) (pa_cons (pe_ix (ixTL (K := K) rfl) (pv 5) pe_int (fun _ _ => rfl)) pa_nil))))))))), ?_⟩
    refine ⟨.ref a, rfl, .ref l, rfl, a, l, ns, xs, ps, 12, rfl, hS, hR, by omega, hL, hP, hb, hl, fun H1 s1 => ?_⟩
    exact ⟨.ref a, rfl, .ref l, rfl, a, l, ns, xs, ps, rfl, s1.seq hS, s1.seq hL, hP.up s1, hR.pos, h12, hne, fun H2 s2 => q H2 (s1.trans s2)⟩

/-! ### the law's question whether nothing fits -/
def spIsNone (K : PySem.W.Frag) : Sp := fun vs H Q _ => ∃ (a l : Addr) (ns : List Int) (xs : List V) (ps : List (Int × Int)), vs = [.ref a, .ref l] ∧ SqL K H a (ns.map V.int) ∧ Rim ns ∧ ns.length ≤ 12 ∧ SqL K H l xs ∧ Prs H xs ps ∧
  (∀ p ∈ ps, 0 ≤ p.2) ∧ ps.length ≤ 40 ∧ fitsF ns ps = [] ∧ ∀ H', Same H H' → Q (.bl true) H'
theorem ok_law_is_none {C : Addr} (T : Txt K mg) (M : ImpT K mg C) : FnOk P w K mg base CX0 7 T.a_law_is_none T.d_law_is_none ["rows", "notes"] (spIsNone K) := by
  have G_sure_slots := ok_sure_slotsX (P := P) (w := w) (base := base) T M
  refine T.F_law_is_none.ok sc_law_is_none (fun vs H Q E h => ?_) (fun cdv A outer s H vs Q E hr h => ?_)
  · obtain ⟨_, _, _, _, _, rfl, _⟩ := h
    rfl
  · obtain ⟨a, l, ns, xs, ps, rfl, hS, hR, h12, hL, hP, hb, hl, hne, q⟩ := h
    have hr1 : Room 6 _ := hr.mono (by decide)
    refine ⟨_, (pss_cons (ps_set (i := 2) sc_law_is_none.nd rfl (.inl rfl) pe_bl)
      (pss_cons (ps_try_only rfl rfl ⟨rfl, by decide, .inl M.g⟩ takes0
        (fun W pn xe tk _ => pss_one (ps_expr (by exact (pe_callS G_sure_slots hr1 rfl T.g_sure_slots T.F_sure_slots.kp T.b_sure_slots (fun σ => passAt tk σ) (by exact (pa_cons (pv 0) (pa_cons (pv 1) pa_nil)))))))
        (fun a oe cls d pn _ _ => pss_one (ps_set (i := 2) sc_law_is_none.nd rfl (.inl rfl) pe_bl)))
      (pss_one (ps_ret (pv 2))))), ?_⟩
    refine ⟨.ref a, rfl, .ref l, rfl, a, l, ns, xs, ps, rfl, hS, hR, h12, hL, hP, hb, hl, hne, fun H1 s1 => ⟨true, M.e, fun _ b hb => ?_, fun q => nomatch q⟩⟩
    exact ⟨.bl true, rfl, q H1 s1⟩

/-! ### _law_right -/
def spRight35 : Sp := fun vs H Q _ => ∃ (t : Addr) (n m c : Int), vs = [.ref t, .int n, .int m] ∧ 1 ≤ n ∧ n ≤ 12 ∧ 0 ≤ m ∧ m ≤ 40 ∧ Stk H t c ∧ 0 ≤ c ∧ c < 2 ^ 37 ∧
  ∀ H', But t H H' → Stk H' t (c + 1000) → Q (.bl true) H'
theorem two_dat34 {x y : PyData} {B : Nat} (hx : Dat 2 B x) (hy : Dat 2 B y) : Dat 3 ((B + 2) * 2 + 3) (.list [x, y]) := dat_list (n := 2) (fun d hd => by
  simp only [List.mem_cons, List.not_mem_nil, or_false] at hd
  rcases hd with rfl | rfl
  · exact hx
  · exact hy) (by decide) (Nat.le_refl _)
theorem fold_nil {α : Type} (g : α → Nat → Bool) : ∀ ps : List α, ps.foldl (fun F p => F.filter (g p)) ([] : List Nat) = []
  | [] => rfl
  | p :: r => by rw [List.foldl_cons, List.filter_nil]; exact fold_nil g r
theorem fits_nil {ns : List Int} {ps : List (Int × Int)} {i : Nat} (h : fitsF ns (ps.take i) = []) : fitsF ns ps = [] := by
  have e : fitsF ns (ps.take i ++ ps.drop i) = [] := by
    unfold fitsF at h ⊢
    rw [List.foldl_append, h]
    exact fold_nil _ _
  rwa [List.take_append_drop] at e
theorem ClashAt.fits {ns : List Int} {ps : List (Int × Int)} {i : Nat} (h : ClashAt ns ps i) : fitsF ns ps = [] := fits_nil h.2.1
theorem ClashAt.one {ns : List Int} {ps : List (Int × Int)} {i j : Nat} (h : ClashAt ns ps i) (g : ClashAt ns ps j) : i = j := by
  rcases Nat.lt_trichotomy i j with l | e | l
  · exact absurd h.2.1 (g.2.2 i l)
  · exact e
  · exact absurd g.2.1 (h.2.2 j l)
theorem all_fits {ns : List Int} {ps : List (Int × Int)} (h : ∀ j, j < ps.length → fitsF ns (ps.take (j + 1)) ≠ []) : fitsF ns ps ≠ [] := by
  by_cases e : ps = []
  · subst e
    intro z
    have := congrArg List.length z
    unfold fitsF at this
    rw [List.foldl_nil, List.length_range] at this
    exact absurd this (Nat.pos_iff_ne_zero.mp (Nat.two_pow_pos _))
  · have hp := List.length_pos_iff.mpr e
    have := h (ps.length - 1) (by omega)
    rwa [show ps.length - 1 + 1 = ps.length by omega, List.take_length] at this
def LkR (p : Int × Int) : Prop := p.1.natAbs < 10 ^ 40 ∧ 0 ≤ p.2 ∧ p.2.natAbs < 10 ^ 40
theorem LkOk.r {p : Int × Int} (h : LkOk p) : LkR p := ⟨Nat.lt_of_lt_of_le h.1 (by decide), h.2.1, Nat.lt_of_le_of_lt h.2.2 (by decide)⟩
theorem cut_40 (xs : List V) : cutV xs none (some 40) = xs.take 40 := by
  unfold cutV
  rw [HT.sIx_none, List.drop_zero, Nat.sub_zero]
  have e : HT.sIx xs.length xs.length (some 40) = min 40 xs.length := HT.sIx_nat _ _ 40
  rw [e]
  rcases Nat.le_total 40 xs.length with h | h
  · rw [Nat.min_eq_left h]
  · rw [Nat.min_eq_right h, List.take_length, List.take_of_length_le h]
theorem Prs.take {H : Hp} {vs : List V} {ps : List (Int × Int)} (h : Prs H vs ps) : ∀ k : Nat, Prs H (vs.take k) (ps.take k) := by
  induction h with
  | nil => exact fun k => by rw [List.take_nil, List.take_nil]; exact .nil
  | cons h _ ih =>
    intro k
    cases k with
    | zero => exact .nil
    | succ k => exact .cons h (ih k)
theorem shaped_dI (ns : List Int) : SeqAt.shaped (dI ns) = true := PySem.W.ke_shaped_ints ns
theorem row_at {r : List Int} {i : Nat} {z : Int} (e : z = (i : Int)) (h : i < r.length) : atI (r.map V.int) z = some (.int (r.getD i 0)) := by
  subst e
  refine atI_nat ?_
  rw [List.getElem?_map, List.getD_eq_getElem?_getD, List.getElem?_eq_getElem h]
  rfl
theorem getD_01 {r : List Int} (h : ∀ x ∈ r, 0 ≤ x ∧ x ≤ 1) (i : Nat) : 0 ≤ r.getD i 0 ∧ r.getD i 0 ≤ 1 := by
  rw [List.getD_eq_getElem?_getD]
  cases e : r[i]? with
  | none => exact ⟨by decide, by decide⟩
  | some x => exact h x (List.mem_of_getElem? e)
theorem sureP_dat {S : List (List Int)} {i : Nat} (hi : i ≤ 12) (h : ∀ r ∈ S, ∀ x ∈ r, 0 ≤ x ∧ x ≤ 1) : Dat 2 (2011 * 40 + 3) (.list ((sureP S i).map dP)) := by
  refine dat_pairs (k := 40) (n := 40) (fun p hp => ?_) (by decide) (by have := sureP_len S i; omega)
  rw [e40N]
  unfold sureP at hp
  obtain ⟨k, hk, e⟩ := List.mem_filterMap.mp hp
  have hk := List.mem_range.mp hk
  have h0 : ∀ x ∈ S.getD 0 [], 0 ≤ x ∧ x ≤ 1 := by
    intro x hx
    cases S with
    | nil => exact (List.not_mem_nil hx).elim
    | cons r S => exact h r List.mem_cons_self x hx
  have hg := getD_01 h0 k
  split at e
  · rw [← Option.some.inj e]
    exact ⟨by show (k : Int).natAbs < _; omega, by show ((S.getD 0 []).getD k 0).natAbs < _; omega⟩
  · cases e
def MidR (t A : Addr) (ns : List Int) (n m : Int) (H : Hp) (e : Int) : L2.St → Hp → Prop := fun σ' H' => ∃ (L : Addr) (xs : List V) (ps : List (Int × Int)),
  σ' = [some (.ref t), some (.int n), some (.int m), some (.ref A), some (.ref L), none, none, none, none, none, none, none] ∧ But t H H' ∧ H' A = some (.lst (ns.map V.int)) ∧ H' L = some (.lst xs) ∧ Prs H' xs ps ∧ (∀ p ∈ ps, LkR p) ∧ ps.length ≤ 42 ∧ Stk H' t e
theorem ok_law_right {C : Addr} (T : Txt K mg) (M : ImpT K mg C) : FnG P w K mg base CX0 8 T.a_law_right T.d_law_right ["stock", "size", "often"] spRight35 := by
  have G_law_draw := ok_law_draw (P := P) (w := w) (base := base) T
  have G_law_slots := ok_law_slots (P := P) (w := w) (base := base) T
  have G_law_notes := ok_law_notes (P := P) (w := w) (base := base) T
  have G_law_fits := ok_law_fits (P := P) (w := w) (base := base) T
  have G_law_clash := ok_law_clash (P := P) (w := w) (base := base) T
  have G_clash_index := ok_clash_index (P := P) (w := w) (base := base) T
  have G_sure_slots := ok_sure_slots (P := P) (w := w) (base := base) T
  have G_law_is_none := ok_law_is_none (P := P) (w := w) (base := base) T M
  refine okG T.F_law_right sc_law_right (fun vs H Q E h => ?_) (fun cdv A outer s H vs Q E hg hr h => ?_)
  · obtain ⟨_, _, _, _, rfl, _⟩ := h
    rfl
  · obtain ⟨t, n, m, c, rfl, hn1, hn, hm0, hm, hT, hc0, hc, q⟩ := h
    refine ⟨_, (pss_cons (ps_set (i := 3) sc_law_right.nd rfl (.inl rfl) (pe_call G_law_slots (hr.mono (by decide)) (by rfl) T.g_law_slots T.F_law_slots.kp T.b_law_slots .nil pass0 (pa_cons (pv 0) (pa_cons (pv 1) (pa_cons (pe_op op_pow pe_int pe_int) pa_nil)))))
      (pss_cons (ps_set (i := 4) sc_law_right.nd rfl (.inl rfl) (pe_call G_law_notes (hr.mono (by decide)) (by rfl) T.g_law_notes T.F_law_notes.kp T.b_law_notes .nil pass0 (pa_cons (pv 0) (pa_cons (pv 3) (pa_cons (pv 2) pa_nil)))))
      (pss_mid (ps_if (PW.pt (pw_and (pt_cmpR (neD (K := K) rfl hr) (pv 4) (pe_lst pa_nil) (nomark _)) (pw_and1 (pt_cmpR op_eq (pe_call G_law_draw (hr.mono (by decide)) (by rfl) T.g_law_draw T.F_law_draw.kp T.b_law_draw .nil pass0 (pa_cons (pv 0) (pa_cons pe_int pa_nil))) pe_int (nomark _))))) (pss_one (ps_set (i := 4) sc_law_right.nd rfl (.inl rfl) (pe_op op_cat (pe_op op_cat (pv 4) (pe_lst (pa_cons (pe_ix (ixL (K := K) rfl) (pv 4) pe_int (fun _ _ => rfl)) pa_nil))) (pe_lst (pa_cons (pe_tup (pa_cons (pe_op op_sub (pe_ix (ixTL (K := K) rfl) (pe_ix (ixL (K := K) rfl) (pv 4) (pe_un un_neg pe_int) (fun _ _ => rfl)) pe_int (fun _ _ => rfl)) (pv 1)) (pa_cons (pe_op op_add (pe_ix (ixTL (K := K) rfl) (pe_ix (ixL (K := K) rfl) (pv 4) (pe_un un_neg pe_int) (fun _ _ => rfl)) pe_int (fun _ _ => rfl)) (pe_call G_law_draw (hr.mono (by decide)) (by rfl) T.g_law_draw T.F_law_draw.kp T.b_law_draw .nil pass0 (pa_cons (pv 0) (pa_cons pe_int pa_nil)))) pa_nil))) pa_nil))))) pss_nil)
      (pss_cons (ps_set (i := 4) sc_law_right.nd rfl (.inl rfl) (pe_slice (slL (K := K) rfl) (pv 4) po_none (po_some pe_int)))
      (pss_cons (ps_par (i := 5) (j := 6) (by rfl) sc_law_right.nd rfl rfl (by decide) rfl rfl (pa_cons (pe_callB (reprL (K := K) rfl hg hr) (by rfl) T.n_repr (by decide +kernel) (pa_cons (pe_lst (pa_cons (pv 3) (pa_cons (pv 4) pa_nil))) pa_nil)) (pa_cons (pe_call G_law_clash (hr.mono (by decide)) (by rfl) T.g_law_clash T.F_law_clash.kp T.b_law_clash .nil pass0 (pa_cons (pv 3) (pa_cons (pv 4) pa_nil))) pa_nil)) (by rfl))
      (pss_cons (ps_if (PW.pt (pw_or (pt_cmpR op_ne (pe_callB (reprV (K := K) rfl hg hr) (by rfl) T.n_repr (by decide +kernel) (pa_cons (pe_callW G_clash_index (hr.mono (by decide)) rfl T.g_clash_index T.F_clash_index.kp (kb_clash_index_looks_disc T) pass0 (pk_cons (pv 4) (pk_cons (pv 3) pk_nil))) pa_nil)) (pe_callB (reprV (K := K) rfl hg hr) (by rfl) T.n_repr (by decide +kernel) (pa_cons (pv 6) pa_nil)) (nomark _)) (pw_or1 (pt_cmpR op_ne (pe_callB (reprV (K := K) rfl hg hr) (by rfl) T.n_repr (by decide +kernel) (pa_cons (pe_call G_clash_index (hr.mono (by decide)) (by rfl) T.g_clash_index T.F_clash_index.kp T.b_clash_index .nil pass0 (pa_cons (pv 3) (pa_cons (pv 4) pa_nil))) pa_nil)) (pe_callB (reprV (K := K) rfl hg hr) (by rfl) T.n_repr (by decide +kernel) (pa_cons (pv 6) pa_nil)) (nomark _))))) (pss_one (ps_ret pe_bl)) pss_nil)
      (pss_cons (ps_if (pt_cmpR op_notN (pv 6) pe_non (nomark _)) (pss_one (ps_ret (pe_and (pe_call G_law_is_none hr (by rfl) T.g_law_is_none T.F_law_is_none.kp T.b_law_is_none .nil pass0 (pa_cons (pv 3) (pa_cons (pv 4) pa_nil))) (pe_one (pe_cmpR op_eq (pe_callB (reprL (K := K) rfl hg hr) (by rfl) T.n_repr (by decide +kernel) (pa_cons (pe_lst (pa_cons (pv 3) (pa_cons (pv 4) pa_nil))) pa_nil)) (pv 5) (nomark _)))))) pss_nil)
      (pss_cons (ps_asg (pe_tup (pa_cons (pe_call G_law_fits (hr.mono (by decide)) (by rfl) T.g_law_fits T.F_law_fits.kp T.b_law_fits .nil pass0 (pa_cons (pv 3) (pa_cons (pv 4) pa_nil))) (pa_cons (pe_lst pa_nil) pa_nil))) (pg_tupL (K := K) (n := 2) rfl rfl (pgs_cons (pg_name (i := 7) sc_law_right.nd rfl (.inr rfl)) (pgs_cons (pg_name (i := 8) sc_law_right.nd rfl (.inl rfl)) pgs_nil))))
      (pss_cons (ps_for PassesOwn.never rfl (pi_range1 (by rfl) T.n_range (pa_cons (pv 1) pa_nil)) (pg_name (i := 9) sc_law_right.nd rfl (.inr rfl)) (pss_one (ps_if (pt_cmpR (eqD (K := K) rfl hr) (pe_lc (own := [("one", 10)]) (g := gName 10) (by rfl) sc_law_right.nd (pi_listL (K := K) rfl (pv 7)) (blkOk_by (own := [("one", 10)]) (N := ["stock", "size", "often", "rows", "notes", "kept", "clash", "some", "due", "slot", "one", "found"]) (sc := defScope s_law_right) (by decide +kernel))
        (fun _ _ _ _ _ => (pg_name (i := 10) sc_law_right.nd rfl (Or.inl rfl))) (fun _ _ _ _ _ => (pts_one (pt_cmpR op_ne (pe_ix (ixL (K := K) rfl) (pv 10) (pv 9) (fun _ _ => rfl)) (pe_ix (ixL (K := K) rfl) (pe_ix (ixL (K := K) rfl) (pv 7) pe_int (fun _ _ => rfl)) (pv 9) (fun _ _ => rfl)) (nomark _)))) (fun _ _ _ _ _ => pe_int)) (pe_lst pa_nil) (nomark _)) (pss_one (ps_expr (pe_bm PySem.F.plainAttrs_list PySem.F.slot_list_append PySem.F.type_list_append mt_append (pv 8) (pa_cons (pe_tup (pa_cons (pv 9) (pa_cons (pe_ix (ixL (K := K) rfl) (pe_ix (ixL (K := K) rfl) (pv 7) pe_int (fun _ _ => rfl)) (pv 9) (fun _ _ => rfl)) pa_nil))) pa_nil)))) pss_nil)))
      (pss_cons (ps_set (i := 11) sc_law_right.nd rfl (.inl rfl) (pe_callW G_sure_slots (hr.mono (by decide)) rfl T.g_sure_slots T.F_sure_slots.kp (kb_sure_slots_looks_disc T) pass0 (pk_cons (pv 4) (pk_cons (pv 3) pk_nil))))
      (pss_cons (ps_if (PW.pt (pw_or (pt_cmpR op_ne (pe_callB (reprL (K := K) rfl hg hr) (by rfl) T.n_repr (by decide +kernel) (pa_cons (pv 11) pa_nil)) (pe_callB (reprL (K := K) rfl hg hr) (by rfl) T.n_repr (by decide +kernel) (pa_cons (pv 8) pa_nil)) (nomark _)) (pw_or1 (pt_cmpR op_ne (pe_callB (reprL (K := K) rfl hg hr) (by rfl) T.n_repr (by decide +kernel) (pa_cons (pe_lst (pa_cons (pv 3) (pa_cons (pv 4) pa_nil))) pa_nil)) (pv 5) (nomark _))))) (pss_one (ps_ret pe_bl)) pss_nil)
      (pss_cons (ps_expr (pe_bm PySem.F.plainAttrs_list PySem.F.slot_list_append PySem.F.type_list_append mt_append (pv 11) (pa_cons pe_non pa_nil)))
      (pss_one (ps_ret (pe_cmpR op_eq (pe_callB (reprL (K := K) rfl hg hr) (by rfl) T.n_repr (by decide +kernel) (pa_cons (pe_call G_sure_slots (hr.mono (by decide)) (by rfl) T.g_sure_slots T.F_sure_slots.kp T.b_sure_slots .nil pass0 (pa_cons (pv 3) (pa_cons (pv 4) pa_nil))) pa_nil)) (pe_callB (reprL (K := K) rfl hg hr) (by rfl) T.n_repr (by decide +kernel) (pa_cons (pv 8) pa_nil)) (nomark _)))))))))))))))), ?_⟩
    refine ⟨.ref t, rfl, .int n, rfl, 10, 30, rfl, rfl, ⟨by decide, by decide, by decide⟩, t, n, 10 ^ (30 : Int).toNat, c, rfl, hn1, by omega, by decide +kernel, by decide +kernel, hT, hc0, by omega, fun A ns H1 hR hlen u1 f1 g1 k1 => ?_⟩
    have nA := hT.ne f1
    have h12 : ns.length ≤ 12 := by omega
    have l1 := hR.pos
    refine ⟨.ref t, rfl, .ref A, rfl, .int m, rfl, t, A, ns, m, c + 300, rfl, g1, nA, hR, h12, hm0, hm, k1, by omega, by omega, fun L xs ps H2 u2 f2 g2 hP hb hl k2 => ?_⟩
    have nL := k1.ne f2
    have gA := u2 _ _ g1 nA
    have hbR : ∀ p ∈ ps, LkR p := fun p hp => (hb p hp).r
    refine ⟨MidR t A ns n m H (c + 600), ⟨.ref L, rfl, (by show 0 ≤ sizeLine; decide), fun l hfr => ?_⟩, fun σ' H6 hM => ?_⟩
    · have sl := new_same (o := .lst []) hfr
      have hDP := (dat_pairs (k := 40) (n := 40) (fun p hp => ⟨(hbR p hp).1, (hbR p hp).2.2⟩) (by decide) hl).rp.shaped
      have uM := (u1.trans u2).trans (But.of sl)
      have kM := k2.same sl
      have gM := sl _ _ g2
      have gAM := sl _ _ gA
      have pM := hP.up sl
      refine ⟨_, _, .lst (SqL.of gM) pM.dp, .lst (SqL.of upd_same) .nil, hDP, by decide, ?_⟩
      by_cases hps : ps = []
      · subst hps
        cases hP
        refine ⟨_, rfl, ite2 (fun h => absurd h (by decide +kernel)) (fun _ => iteF ?_)⟩
        exact ⟨L, [], [], rfl, uM, gAM, gM, .nil, fun p hp => (List.not_mem_nil hp).elim, by decide, kM.mono (by omega)⟩
      · have hp0 : 0 < ps.length := List.length_pos_iff.mpr hps
        have hne : PyData.eqv (.list (ps.map dP)) (.list []) = false := by
          cases ps with
          | nil => exact absurd rfl hps
          | cons p r => rfl
        refine ⟨_, rfl, ite2 (fun _ => ?_) (fun h => absurd (by rw [hne]; rfl) h)⟩
        generalize upd H2 l (.lst []) = HM at uM kM gM gAM pM ⊢
        refine ⟨.ref t, rfl, t, 4, c + 300 + 200, rfl, by omega, by omega, kM, by omega, fun v4 H4 a4 b4 k4 u4 => ?_⟩
        have g4 := u4 _ _ gM nL
        have gA4 := u4 _ _ gAM nA
        have p4 := pM.upT (SameT.but u4 kM)
        have u4H := uM.trans u4
        refine ⟨rfl, _, rfl, ite2 (fun _ => ?_) (fun _ => ?_)⟩
        · obtain ⟨t0, r0, hx0, hr0, et0⟩ := p4.get hp0
          have hxl := p4.len
          obtain ⟨t1, r1, hx1, hr1, et1⟩ := p4.get (i := ps.length - 1) (by omega)
          have hat0 : atI xs 0 = some (.ref t0) := atI_nat (j := 0) hx0
          have hat1 : atI xs (-1) = some (.ref t1) := by
            unfold atI ixN
            rw [if_neg (by decide), if_pos (by omega)]
            show xs[((-1 : Int) + (xs.length : Int)).toNat]? = _
            rw [show ((-1 : Int) + (xs.length : Int)).toNat = ps.length - 1 by omega]
            exact hx1
          have hb0 := hb r0 (List.mem_of_getElem? hr0)
          have hb1 := hb r1 (List.mem_of_getElem? hr1)
          refine ⟨.ref L, rfl, .ref L, rfl, L, _, 0, .ref t0, rfl, rfl, SqL.of g4, hat0, (by show 1 ≤ sizeLine; decide), fun q1 e1 => ?_⟩
          have s1 := new_same (o := .lst [.ref t0]) e1
          refine ⟨L, q1, xs, [.ref t0], rfl, rfl, s1 _ _ g4, upd_same, sz40' (by show xs.length + 1 ≤ 100000; omega), fun q2 e2 => ?_⟩
          have s2 := s1.trans (new_same (o := .lst (xs ++ [.ref t0])) e2)
          have gq2 : (upd (upd H4 q1 (.lst [.ref t0])) q2 (.lst (xs ++ [.ref t0]))) q2 = some (.lst (xs ++ [.ref t0])) := upd_same
          generalize upd (upd H4 q1 (.lst [.ref t0])) q2 (.lst (xs ++ [.ref t0])) = H5 at s2 gq2 ⊢
          refine ⟨.ref L, rfl, 1, rfl, L, _, _, .ref t1, rfl, rfl, SqL.of (s2 _ _ g4), hat1, t1, _, 0, .int r1.1, rfl, rfl, SqT.of (s2 _ _ et1), rfl, .int n, rfl, r1.1, n, rfl, rfl, ?_⟩
          refine ⟨.ref L, rfl, 1, rfl, L, _, _, .ref t1, rfl, rfl, SqL.of (s2 _ _ g4), hat1, t1, _, 1, .int r1.2, rfl, rfl, SqT.of (s2 _ _ et1), rfl, .ref t, rfl, t, 2, c + 300 + 200 + 1, rfl, by omega, by omega, k4.same s2, by omega, fun v6 H6 a6 b6 k6 u6 => ?_⟩
          refine ⟨r1.2, v6, rfl, rfl, (by show 2 ≤ sizeLine; decide), fun tq etq => (⟨(by show 1 ≤ sizeLine; decide), fun q3 e3 => ?_⟩ : _ ∧ _)⟩
          have k5 := k4.same s2
          have nq2 : q2 ≠ t := (k4.up (o := .lst [.ref t0]) e1).ne e2
          have sq := (new_same (o := .tup [.int (r1.1 - n), .int (r1.2 + v6)]) etq).trans (new_same (o := .lst [.ref tq]) e3)
          have g62 := sq _ _ (u6 _ _ gq2 nq2)
          refine ⟨q2, q3, xs ++ [.ref t0], [.ref tq], rfl, rfl, g62, upd_same, sz40' (by rw [List.length_append]; show xs.length + 1 + 1 ≤ 100000; omega), fun q4 e4 => ?_⟩
          have s7 := sq.trans (new_same (o := .lst ((xs ++ [.ref t0]) ++ [.ref tq])) e4)
          have p7 := ((p4.up s2).upT (SameT.but u6 k5)).up s7
          refine ⟨q4, _, (ps ++ [r0]) ++ [(r1.1 - n, r1.2 + v6)], rfl, ?_, ?_, upd_same, ?_, fun p hp => ?_, ?_, ?_⟩
          · exact ((u4H.trans (But.of s2)).trans u6).trans (But.of s7)
          · exact s7 _ _ (u6 _ _ (s2 _ _ gA4) nA)
          · exact (p7.snoc (t := t0) (p := r0) (s7 _ _ (SameT.but u6 k5 _ _ (s2 _ _ et0)))).snoc (t := tq) (p := (r1.1 - n, r1.2 + v6)) (((new_same (o := .lst [.ref tq]) e3).trans (new_same (o := .lst ((xs ++ [.ref t0]) ++ [.ref tq])) e4)) _ _ upd_same)
          · rcases List.mem_append.mp hp with h | h
            · rcases List.mem_append.mp h with h | h
              · exact hbR p h
              · rw [List.mem_singleton.mp h]
                exact hb0.r
            · rw [List.mem_singleton.mp h]
              obtain ⟨x1, x2, x3⟩ := hb1
              unfold LkR
              rw [e40N]
              exact ⟨by show (r1.1 - n).natAbs < _; omega, by show 0 ≤ r1.2 + v6; omega, by show (r1.2 + v6).natAbs < _; omega⟩
          · rw [List.length_append, List.length_append]
            show ps.length + 1 + 1 ≤ 42
            omega
          · exact (k6.same s7).mono (by omega)
        · exact ⟨L, xs, ps, rfl, u4H, gA4, g4, p4, hbR, by omega, k4.mono (by omega)⟩
    · obtain ⟨L', xs', ps', rfl, u6, gA6, gL6, hP6, hb6, hl6, k6⟩ := hM
      refine ⟨.ref L', rfl, 40, rfl, L', xs', rfl, SqL.of gL6, fun N eN => ?_⟩
      rw [cut_40]
      have sN := new_same (o := .lst (xs'.take 40)) eN
      have gN : (upd H6 N (.lst (xs'.take 40))) N = some (.lst (xs'.take 40)) := upd_same
      have hPN := (hP6.up sN).take 40
      have hbN : ∀ p ∈ ps'.take 40, LkR p := fun p hp => hb6 p (List.mem_of_mem_take hp)
      have hlN : (ps'.take 40).length ≤ 40 := by rw [List.length_take]; omega
      have gA7 := sN _ _ gA6
      have u7 := u6.trans (But.of sN)
      have k7 := k6.same sN
      generalize upd H6 N (.lst (xs'.take 40)) = H7 at sN gN hPN gA7 u7 k7 ⊢
      generalize xs'.take 40 = ys at gN hPN ⊢
      generalize ps'.take 40 = qs at hPN hbN hlN ⊢
      have hb0 : ∀ p ∈ qs, 0 ≤ p.2 := fun p hp => (hbN p hp).2.1
      have rb : ∀ x ∈ ns, x.natAbs < 10 ^ 40 := fun x hx => by
        have := hR.all x hx
        rw [e40N]
        omega
      have hDA := two_dat34 ((dat_ints (n := 40) rb (by decide) hR.le).mono (k' := 2) (B' := 200000) (by decide) (by decide)) ((dat_pairs (n := 40) (fun p hp => ⟨(hbN p hp).1, (hbN p hp).2.2⟩) (by decide) hlN).mono (k' := 2) (B' := 200000) (by decide) (by decide))
      have fA := hDA.fits (by decide)
      have dp2 : ∀ {H' : Hp} {p : Addr} {x y : V} {d e : PyData}, H' p = some (.lst [x, y]) → Dp K H' x d → Dp K H' y e → Dp K H' (.ref p) (.list [d, e]) :=
        fun e1 e2 e3 => .lst (SqL.of e1) (.cons e2 (.cons e3 .nil))
      refine ⟨.ref A, rfl, .ref N, rfl, (by show 2 ≤ sizeLine; decide), fun w1 e1 => ?_⟩
      have s8 := new_same (o := .lst [.ref A, .ref N]) e1
      refine ⟨w1, _, rfl, dp2 upd_same (dp_ints (SqL.of (s8 _ _ gA7))) (.lst (SqL.of (s8 _ _ gN)) (hPN.up s8).dp), hDA.rp.sh, hDA.rp.nd, hDA.rp.dp, fA, ?_⟩
      have gA8 := s8 _ _ gA7
      have gN8 := s8 _ _ gN
      have hP8 := hPN.up s8
      generalize upd H7 w1 (.lst [.ref A, .ref N]) = H8 at s8 gA8 gN8 hP8 ⊢
      refine ⟨.ref A, rfl, .ref N, rfl, A, N, ns, ys, qs, rfl, SqL.of gA8, hR, h12, SqL.of gN8, hP8, fun i H9 hC s9 => ?_, fun H9 hno s9 => ?_⟩
      · have hi40 : i < 40 := by
          have := hC.1
          omega
        have fi : Dat 0 1001 (.int (i : Int)) := dat_int (k := 40) (by rw [Int.natAbs_natCast, e40N]; omega) (by decide)
        have ff := fi.fits (by decide)
        have fz := hC.fits
        refine ⟨_, _, rfl, ?_⟩
        refine ⟨.ref N, rfl, .ref A, rfl, A, N, ns, ys, qs, rfl, SqL.of (s9 _ _ gA8), hR, h12, SqL.of (s9 _ _ gN8), hP8.up s9, hb0, hlN, fun j H10 hC2 s10 => ?_, fun H10 hno s10 => absurd fz (all_fits hno)⟩
        obtain rfl := hC.one hC2
        have sA := s9.trans s10
        refine ⟨.int i, _, rfl, .int _, fi.rp.sh, fi.rp.nd, fi.rp.dp, ff, .int i, rfl, .int i, _, rfl, .int _, fi.rp.sh, fi.rp.nd, fi.rp.dp, ff, rfl, _, rfl, iteNS rfl ?_⟩
        refine ⟨.ref A, rfl, .ref N, rfl, A, N, ns, ys, qs, rfl, SqL.of (sA _ _ gA8), hR, h12, SqL.of (sA _ _ gN8), hP8.up sA, hb0, hlN, fun j H11 hC2 s11 => ?_, fun H11 hno s11 => absurd fz (all_fits hno)⟩
        obtain rfl := hC.one hC2
        have sB := sA.trans s11
        refine ⟨.int i, _, rfl, .int _, fi.rp.sh, fi.rp.nd, fi.rp.dp, ff, .int i, rfl, .int i, _, rfl, .int _, fi.rp.sh, fi.rp.nd, fi.rp.dp, ff, rfl, _, rfl, iteNS rfl ?_⟩
        refine ⟨.int i, rfl, rfl, _, rfl, ite2 (fun _ => ?_) (fun h => absurd (by simp) h)⟩
        refine ⟨.ref A, rfl, .ref N, rfl, A, N, ns, ys, qs, rfl, SqL.of (sB _ _ gA8), hR, h12, SqL.of (sB _ _ gN8), hP8.up sB, hb0, hlN, fz, fun H12 s12 => ⟨true, rfl, iteT ?_⟩⟩
        have sC := sB.trans s12
        refine ⟨.ref A, rfl, .ref N, rfl, (by show 2 ≤ sizeLine; decide), fun w2 e2 => ?_⟩
        have sD := sC.trans (new_same (o := .lst [.ref A, .ref N]) e2)
        refine ⟨w2, _, rfl, dp2 upd_same (dp_ints (SqL.of (sD _ _ gA8))) (.lst (SqL.of (sD _ _ gN8)) (hP8.up sD).dp), hDA.rp.sh, hDA.rp.nd, hDA.rp.dp, fA, .str _, rfl, rfl, ?_⟩
        have z := q _ (u7.trans (But.of (s8.trans sD))) ((k7.same (s8.trans sD)).mono (by omega))
        show Q (.bl (decide (V.str (PyData.list [dI ns, PyData.list (qs.map dP)]).shown = V.str (PyData.list [dI ns, PyData.list (qs.map dP)]).shown))) _
        rw [decide_eq_true rfl]
        exact z
      · have fn : RP .none := ⟨by simp only [PyData.showable], by simp only [PyData.hasDict], by simp only [PyData.canLay0], by simp only [PyData.depth]; omega⟩
        have ff : (PyData.none).shown.length ≤ sizeLine := sz40' (by decide)
        have hne := all_fits hno
        refine ⟨_, _, rfl, ?_⟩
        refine ⟨.ref N, rfl, .ref A, rfl, A, N, ns, ys, qs, rfl, SqL.of (s9 _ _ gA8), hR, h12, SqL.of (s9 _ _ gN8), hP8.up s9, hb0, hlN, fun j H10 hC2 s10 => absurd hC2.fits hne, fun H10 _ s10 => ?_⟩
        have sA := s9.trans s10
        refine ⟨.non, _, rfl, .non, fn.sh, fn.nd, fn.dp, ff, .non, rfl, .non, _, rfl, .non, fn.sh, fn.nd, fn.dp, ff, rfl, _, rfl, iteNS rfl ?_⟩
        refine ⟨.ref A, rfl, .ref N, rfl, A, N, ns, ys, qs, rfl, SqL.of (sA _ _ gA8), hR, h12, SqL.of (sA _ _ gN8), hP8.up sA, hb0, hlN, fun j H11 hC2 s11 => absurd hC2.fits hne, fun H11 _ s11 => ?_⟩
        have sB := sA.trans s11
        refine ⟨.non, _, rfl, .non, fn.sh, fn.nd, fn.dp, ff, .non, rfl, .non, _, rfl, .non, fn.sh, fn.nd, fn.dp, ff, rfl, _, rfl, iteNS rfl ?_⟩
        refine ⟨.non, rfl, rfl, _, rfl, ite2 (fun h => absurd h (by simp)) (fun _ => ?_)⟩
        refine ⟨.ref A, rfl, .ref N, rfl, A, N, ns, ys, qs, rfl, SqL.of (sB _ _ gA8), hR, h12, SqL.of (sB _ _ gN8), hP8.up sB, fun F us H12 s12 g12 hLL hfr => ?_⟩
        refine ⟨(by show 0 ≤ sizeLine; decide), fun D hD => ?_⟩
        subst hlen
        refine ⟨(by show 2 ≤ sizeLine; decide), fun tp etp => ?_⟩
        have sE := (new_same (o := .lst []) hD).trans (new_same (o := .tup [.ref F, .ref D]) etp)
        have gtp : (upd (upd H12 D (.lst [])) tp (.tup [.ref F, .ref D])) tp = some (.tup [.ref F, .ref D]) := upd_same
        have gD13 := new_same (o := .tup [.ref F, .ref D]) etp _ _ (upd_same (H := H12) (a := D) (o := .lst []))
        have eD := hD
        generalize upd (upd H12 D (.lst [])) tp (.tup [.ref F, .ref D]) = H13 at sE gtp gD13 ⊢
        refine ⟨tp, _, rfl, SqT.of gtp, rfl, _, _, rfl, _, _, rfl, rfl, ?_⟩
        obtain ⟨S, hS⟩ : ∃ S, S = (fitsF ns qs).map (bitR ns.length) := ⟨_, rfl⟩
        have hlenS : ∀ r ∈ S, r.length = ns.length := fun r hr => by
          rw [hS] at hr
          obtain ⟨b, _, rfl⟩ := List.mem_map.mp hr
          exact bitR_len ..
        have h01 : ∀ r ∈ S, ∀ x ∈ r, 0 ≤ x ∧ x ≤ 1 := fun r hr x hx => by
          rw [hS] at hr
          obtain ⟨b, _, rfl⟩ := List.mem_map.mp hr
          exact bitR_01 hx
        have hSl : S.length ≤ 4096 := by
          rw [hS, List.length_map]
          exact Nat.le_trans (fits_len ns qs) (pow_le12 h12)
        have hS0 : 0 < S.length := by
          rw [hS, List.length_map]
          exact List.length_pos_iff.mpr hne
        rw [← hS] at hLL
        have sB := sB.trans s12
        obtain ⟨r0, S', eS⟩ : ∃ r0 S', S = r0 :: S' := by
          cases S with
          | nil => exact absurd hS0 (Nat.lt_irrefl 0)
          | cons r0 S' => exact ⟨r0, S', rfl⟩
        have eS0 : S.getD 0 [] = r0 := by rw [eS]; rfl
        have l0 : r0.length = ns.length := hlenS r0 (by rw [eS]; exact List.mem_cons_self)
        obtain ⟨a0, ha0, ea0⟩ := hLL.get (i := 0) (r := r0) (by rw [eS]; rfl)
        have hat0 : atI us 0 = some (.ref a0) := atI_nat (j := 0) ha0
        have hul := hLL.len
        have hSD := sureP_dat (S := S) h12 h01
        have fSD := hSD.fits (by decide)
        refine ⟨.int ns.length, rfl, ns.length, rfl, by omega, by omega, for_range (lo := 0) (n := ((ns.length : Nat) : Int).toNat)
          (fun i σ H' => ∃ (y9 y10 : Option V) (ws : List V), σ = [some (.ref t), some (.int ns.length), some (.int m), some (.ref A), some (.ref N), some (.str (PyData.shown (.list [dI ns, .list (qs.map dP)]))), some .non, some (.ref F), some (.ref D), y9, y10, none] ∧
            Same H12 H' ∧ H' D = some (.lst ws) ∧ Prs H' ws (sureP S i))
          ⟨none, none, [], rfl, fun b o e => sE b o e, gD13, .nil⟩ (fun i σ HA hi hQ => ?_) (fun σ HB hQ => ?_)⟩
        · obtain ⟨y9, y10, ws, rfl, sA2, gDA, hPA⟩ := hQ
          rw [Int.toNat_natCast] at hi
          have ei : (0 : Int) + (i : Int) = (i : Int) := Int.zero_add _
          have hA := hLL.up sA2
          have gF := sA2 _ _ g12
          refine ⟨.ref F, rfl, F, rfl, ⟨_, SqL.of gF⟩, fun Z hZ => lc_list (K := K) (a := F) (xs := us)
            (fun j H' => Same HA H' ∧ ∃ k : Nat, H' Z = some (.lst ((List.replicate k (1 : Int)).map V.int)) ∧ k ≤ j ∧ (k = 0 ↔ ∀ r ∈ S.take j, r.getD i 0 = (S.getD 0 []).getD i 0))
            ⟨new_same hZ, 0, upd_same, Nat.le_refl _, fun _ r hr => (List.not_mem_nil hr).elim, fun _ => rfl⟩ (fun j H' _ hP => SqL.of (hP.1 _ _ gF)) (fun j v HC hv hP => ⟨rfl, ?_⟩) (fun HC hP => ?_)⟩
          · obtain ⟨sC, k, gZ, hk, hiff⟩ := hP
            obtain ⟨a, r, rfl, hr, ea⟩ := hA.at hv
            have hjl := (List.getElem?_eq_some_iff.mp hr).1
            have lr := hlenS r (List.mem_of_getElem? hr)
            have tk : S.take (j + 1) = S.take j ++ [r] := by rw [List.take_add_one, hr]; rfl
            refine ⟨.ref a, rfl, .int (0 + i), rfl, a, _, _, .int (r.getD i 0), rfl, rfl, SqL.of (sC _ _ ea), row_at ei (by omega), .ref F, rfl, F, _, 0, .ref a0, rfl, rfl, SqL.of (sC _ _ gF), hat0, .int (0 + i), rfl, a0, _, _, .int (r0.getD i 0), rfl, rfl, SqL.of (sC _ _ (sA2 _ _ ea0)), row_at ei (by omega), rfl, _, rfl, ite2 (fun h => ?_) (fun h => ?_)⟩
            · have hn : r.getD i 0 ≠ (S.getD 0 []).getD i 0 := fun e => by
                rw [eS0] at e
                rw [e] at h
                revert h
                simp
              refine ⟨_, gZ, ?_, same_over sC hZ, k + 1, ?_, by omega, fun e => absurd e (Nat.succ_ne_zero k), fun e => absurd (e r (by rw [tk]; exact List.mem_append_right _ List.mem_cons_self)) hn⟩
              · rw [List.length_map, List.length_replicate]
                exact sz40 (by omega)
              · rw [upd_same, List.replicate_succ', List.map_append]
                rfl
            · have hn : r.getD i 0 = (S.getD 0 []).getD i 0 := by
                rw [eS0]
                by_cases e : r.getD i 0 = r0.getD i 0
                · exact e
                · exact absurd (by simpa using e) h
              refine ⟨sC, k, gZ, by omega, fun e r' hr' => ?_, fun e => hiff.mpr fun r' hr' => e r' (by rw [tk]; exact List.mem_append_left _ hr')⟩
              rw [tk] at hr'
              rcases List.mem_append.mp hr' with h' | h'
              · exact hiff.mp e r' h'
              · rw [List.mem_singleton.mp h']
                exact hn
          · obtain ⟨sC, k, gZ, hk, hiff⟩ := hP
            rw [List.take_of_length_le (by omega)] at hiff
            refine ⟨(by show 0 ≤ sizeLine; decide), fun w3 e3 => ?_⟩
            have s3 := sC.trans (new_same (o := .lst []) e3)
            have en := sureP_next S i
            have hwl := hPA.len
            have hsl := sureP_len S i
            refine ⟨_, _, dp_ints (SqL.of (new_same (o := .lst []) e3 _ _ gZ)), .lst (SqL.of upd_same) .nil, shaped_dI _, by decide, ?_⟩
            have sA3 := sA2.trans s3
            have gD3 := s3 _ _ gDA
            have gF3 := sA3 _ _ g12
            have ga3 := sA3 _ _ ea0
            have hP3 := hPA.up s3
            generalize upd HC w3 (.lst []) = HD at s3 sA3 gD3 gF3 ga3 hP3 ⊢
            cases k with
            | zero =>
              rw [if_pos (hiff.mp rfl), eS0] at en
              refine ⟨_, rfl, ite2 (fun _ => ?_) (fun h => absurd rfl h)⟩
              refine ⟨.ref D, rfl, .inl ⟨rfl, _, SqL.of gD3⟩, .int (0 + i), rfl, .ref F, rfl, F, _, 0, .ref a0, rfl, rfl, SqL.of gF3, hat0, .int (0 + i), rfl, a0, _, _, .int (r0.getD i 0), rfl, rfl, SqL.of ga3, row_at ei (by omega), (by show 2 ≤ sizeLine; decide), fun tq etq => ?_⟩
              have s4 := new_same (o := .tup [.int (0 + i), .int (r0.getD i 0)]) etq
              refine ⟨D, _, _, rfl, rfl, s4 _ _ gD3, sz40 (by omega), ?_⟩
              refine ⟨_, _, ws ++ [.ref tq], rfl, same_over (sA3.trans s4) eD, upd_same, ?_⟩
              rw [en]
              exact (Prs.over (s4 _ _ gD3) (hP3.up s4)).snoc (p := ((i : Int), r0.getD i 0)) (by rw [upd_ne (ne_of_none gD3 etq).symm, ei]; exact upd_same)
            | succ k =>
              rw [if_neg fun e => absurd (hiff.mpr e) (Nat.succ_ne_zero k), List.append_nil] at en
              refine ⟨_, rfl, ite2 (fun h => absurd h (by rw [List.replicate_succ]; exact Bool.false_ne_true)) (fun _ => ?_)⟩
              refine ⟨_, _, ws, rfl, sA3, gD3, ?_⟩
              rw [en]
              exact hP3
        · obtain ⟨y9, y10, ws, rfl, sB2, gDB, hPB⟩ := hQ
          rw [Int.toNat_natCast] at hPB
          have s8B := sB.trans sB2
          have gAB := s8B _ _ gA8
          have gNB := s8B _ _ gN8
          have hPNB := hP8.up s8B
          refine ⟨.ref N, rfl, .ref A, rfl, A, N, ns, ys, qs, rfl, SqL.of gAB, hR, h12, SqL.of gNB, hPNB, hb0, hlN, hne, fun D2 us2 H14 s14 f14 g14 hPr => ?_⟩
          rw [← hS] at hPr
          refine ⟨.ref D2, rfl, D2, _, rfl, .lst (SqL.of g14) hPr.dp, hSD.rp.sh, hSD.rp.nd, hSD.rp.dp, fSD, ?_⟩
          refine ⟨.ref D, rfl, D, _, rfl, .lst (SqL.of (s14 _ _ gDB)) (hPB.up s14).dp, hSD.rp.sh, hSD.rp.nd, hSD.rp.dp, fSD, rfl, _, rfl, iteNS rfl ?_⟩
          refine ⟨.ref A, rfl, .ref N, rfl, (by show 2 ≤ sizeLine; decide), fun w4 e4 => ?_⟩
          have s15 := s14.trans (new_same (o := .lst [.ref A, .ref N]) e4)
          have g15 := new_same (o := .lst [.ref A, .ref N]) e4 _ _ g14
          refine ⟨w4, _, rfl, dp2 upd_same (dp_ints (SqL.of (s15 _ _ gAB))) (.lst (SqL.of (s15 _ _ gNB)) (hPNB.up s15).dp), hDA.rp.sh, hDA.rp.nd, hDA.rp.dp, fA, .str _, rfl, rfl, _, rfl, iteNS rfl ?_⟩
          have hl2 := hPr.len
          have hs2 := sureP_len S ns.length
          refine ⟨.ref D2, rfl, .inl ⟨rfl, _, SqL.of g15⟩, D2, _, _, rfl, rfl, g15, sz40 (by omega), ?_⟩
          have s16 := same_over (o := .lst (us2 ++ [V.non])) s15 f14
          generalize upd (upd H14 w4 (.lst [.ref A, .ref N])) D2 (.lst (us2 ++ [V.non])) = H16 at s16 ⊢
          refine ⟨.ref A, rfl, .ref N, rfl, A, N, ns, ys, qs, rfl, SqL.of (s16 _ _ gAB), hR, h12, SqL.of (s16 _ _ gNB), hPNB.up s16, hb0, hlN, hne, fun D3 us3 H17 s17 f17 g17 hPr3 => ?_⟩
          rw [← hS] at hPr3
          have s167 := s16.trans s17
          refine ⟨D3, _, rfl, .lst (SqL.of g17) hPr3.dp, hSD.rp.sh, hSD.rp.nd, hSD.rp.dp, fSD, .ref D, rfl, D, _, rfl, .lst (SqL.of (s167 _ _ gDB)) (hPB.up s167).dp, hSD.rp.sh, hSD.rp.nd, hSD.rp.dp, fSD, rfl, ?_⟩
          have z := q _ (u7.trans (But.of (s8.trans (s8B.trans s167)))) ((k7.same (s8.trans (s8B.trans s167))).mono (by omega))
          show Q (.bl (decide (V.str (PyData.list ((sureP S ns.length).map dP)).shown = V.str (PyData.list ((sureP S ns.length).map dP)).shown))) _
          rw [decide_eq_true rfl]
          exact z

def spLaw (K : PySem.W.Frag) : Sp := fun vs H Q _ => ∃ (a : Addr) (ns : List Int), vs = [.ref a] ∧ SqL K H a (ns.map V.int) ∧ ns.length ≤ 63 ∧ ∀ H', Q (.bl true) H'

theorem Prs.no {H : Hp} {vs : List V} {ps : List (Int × Int)} (h : Prs H vs ps) {a : Addr} (ha : V.ref a ∈ vs) {us : List V} (e : H a = some (.lst us)) : False := by
  induction h with
  | nil => exact List.not_mem_nil ha
  | cons h _ ih =>
    rcases List.mem_cons.mp ha with z | z
    · injection z with z
      rw [← z, e] at h
      cases h
    · exact ih z
inductive PP (H : Hp) : List V → List (List (Int × Int)) → Prop
  | nil : PP H [] []
  | cons {a : Addr} {us : List V} {r : List (Int × Int)} {vs : List V} {S : List (List (Int × Int))} (h : H a = some (.lst us)) (p : Prs H us r) (t : PP H vs S) : PP H (.ref a :: vs) (r :: S)
theorem PP.up {H H1 : Hp} {vs : List V} {S : List (List (Int × Int))} (h : PP H vs S) (s : Same H H1) : PP H1 vs S := by
  induction h with
  | nil => exact .nil
  | cons h p _ ih => exact .cons (s _ _ h) (p.up s) ih
theorem PP.len {H : Hp} {vs : List V} {S : List (List (Int × Int))} (h : PP H vs S) : vs.length = S.length := by
  induction h with
  | nil => rfl
  | cons h p _ ih => rw [List.length_cons, List.length_cons, ih]
theorem PP.snoc {H : Hp} {vs us : List V} {S : List (List (Int × Int))} {a : Addr} {r : List (Int × Int)} (h : PP H vs S) (e : H a = some (.lst us)) (p : Prs H us r) : PP H (vs ++ [.ref a]) (S ++ [r]) := by
  induction h with
  | nil => exact .cons e p .nil
  | cons h q _ ih => exact .cons h q ih
theorem PP.put {H : Hp} {D : Addr} {vs : List V} {o : HO} (e : H D = some (.lst vs)) {ws : List V} {S : List (List (Int × Int))} (h : PP H ws S) : (∀ v ∈ ws, v ∈ vs) → PP (upd H D o) ws S := by
  induction h with
  | nil => exact fun _ => .nil
  | cons h p _ ih =>
    rename_i a us r vs' S' t
    intro hs
    have hne : a ≠ D := fun z => by
      rw [z, e] at h
      have e2 := Option.some.inj h
      injection e2 with e2
      have hm := hs _ List.mem_cons_self
      rw [e2] at hm
      exact p.no hm (z ▸ e)
    exact .cons (by rw [upd_ne hne]; exact h) (Prs.over e p) (ih fun v hv => hs v (List.mem_cons_of_mem _ hv))
def dPs (r : List (Int × Int)) : PyData := .list (r.map dP)
theorem PP.dp {K : PySem.W.Frag} {H : Hp} {vs : List V} {S : List (List (Int × Int))} (h : PP H vs S) : DpAll K H vs (S.map dPs) := by
  induction h with
  | nil => exact .nil
  | cons h p _ ih => exact .cons (.lst (SqL.of h) p.dp) ih
theorem ok_law {C : Addr} (T : Txt K mg) (M : ImpT K mg C) : FnG P w K mg base CX0 9 T.a_law T.d_law ["script"] (spLaw K) := by
  have G_law_stock := ok_law_stock (P := P) (w := w) (base := base) T
  have G_law_draw := ok_law_draw (P := P) (w := w) (base := base) T
  have G_law_size := ok_law_size (P := P) (w := w) (base := base) T
  have G_law_right := ok_law_right (P := P) (w := w) (base := base) T M
  have G_sure_slots := ok_sure_slots (P := P) (w := w) (base := base) T
  have G_clash_index := ok_clash_index (P := P) (w := w) (base := base) T
  refine okG T.F_law sc_law (fun vs H Q E h => ?_) (fun cdv A outer s H vs Q E hg hr h => ?_)
  · obtain ⟨_, _, rfl, _⟩ := h
    rfl
  · obtain ⟨a, ns, rfl, hS, hlen, q⟩ := h
    refine ⟨_, (pss_cons (ps_set (i := 1) sc_law.nd rfl (.inl rfl) (pe_call G_law_stock (hr.mono (by decide)) (by rfl) T.g_law_stock T.F_law_stock.kp T.b_law_stock .nil pass0 (pa_cons (pv 0) pa_nil)))
      (pss_cons (ps_for PassesOwn.never rfl (pi_range1 (by rfl) T.n_range (pa_cons pe_int pa_nil)) (pg_name (i := 2) sc_law.nd rfl (.inl rfl)) (pss_cons (ps_set (i := 3) sc_law.nd rfl (.inl rfl) (pe_ix (ixL (K := K) rfl) (pe_lst (pa_cons (pe_call G_law_draw (hr.mono (by decide)) (by rfl) T.g_law_draw T.F_law_draw.kp T.b_law_draw .nil pass0 (pa_cons (pv 1) (pa_cons pe_int pa_nil))) (pa_cons pe_int (pa_cons pe_int pa_nil)))) (pe_call G_law_draw (hr.mono (by decide)) (by rfl) T.g_law_draw T.F_law_draw.kp T.b_law_draw .nil pass0 (pa_cons (pv 1) (pa_cons pe_int pa_nil))) (fun _ _ => rfl)))
      (pss_one (ps_if (pt_not (pt_val (pe_callG G_law_right hg hr (by rfl) T.g_law_right T.F_law_right.kp T.b_law_right .nil pass0 (pa_cons (pv 1) (pa_cons (pe_call G_law_size (hr.mono (by decide)) (by rfl) T.g_law_size T.F_law_size.kp T.b_law_size .nil pass0 (pa_cons (pv 1) (pa_cons (pe_ix (ixL (K := K) rfl) (pe_lst (pa_cons pe_int (pa_cons pe_int (pa_cons pe_int pa_nil)))) (pe_op op_mod (pe_callTy call_int1 (by rfl) T.n_int (by decide +kernel) (pa_cons (pv 2) pa_nil)) pe_int) (fun _ _ => rfl)) pa_nil))) (pa_cons (pv 3) pa_nil)))))) (pss_one (ps_ret pe_bl)) pss_nil))))
      (pss_mid (ps_if (PW.pt (pw_and (pt_cmpR (eqD (K := K) rfl hr) (pv 0) (pe_lst pa_nil) (nomark _)) (pw_and1 (pt_not (pt_val (pe_callG G_law_right hg hr (by rfl) T.g_law_right T.F_law_right.kp T.b_law_right .nil pass0 (pa_cons (pv 1) (pa_cons pe_int (pa_cons pe_int pa_nil))))))))) (pss_one (ps_ret pe_bl)) pss_nil)
      (pss_cons (ps_set (i := 4) sc_law.nd rfl (.inr rfl) (pe_lst (pa_cons pe_int (pa_cons pe_int (pa_cons pe_int (pa_cons pe_int pa_nil))))))
      (pss_cons (ps_setLc (i := 5) (own := [("notes", 6)]) (g := gName 6) (tt := tYes) (by rfl) sc_law.nd rfl rfl (sw_true rfl rfl rfl (by decide +kernel)) (pi_tupL (K := K) rfl (pe_tup (pa_cons (pe_lst (pa_cons (pe_tup (pa_cons pe_int (pa_cons pe_int pa_nil))) pa_nil)) (pa_cons (pe_lst (pa_cons (pe_tup (pa_cons pe_int (pa_cons pe_int pa_nil))) pa_nil)) (pa_cons (pe_lst (pa_cons (pe_tup (pa_cons pe_int (pa_cons pe_int pa_nil))) (pa_cons (pe_tup (pa_cons pe_int (pa_cons pe_int pa_nil))) pa_nil))) pa_nil))))) (blkOk_by (own := [("notes", 6)]) (N := ["script", "stock", "turn", "often", "rows", "told", "notes"]) (sc := defScope s_law) (by decide +kernel))
        (fun _ _ _ _ _ => (pg_name (i := 6) sc_law.nd rfl (Or.inl rfl))) (fun _ _ _ _ _ => pts_nil) (fun _ _ _ _ _ => (pe_call G_sure_slots (hr.mono (by decide)) (by rfl) T.g_sure_slots T.F_sure_slots.kp T.b_sure_slots .nil pass0 (pa_cons (pv 4) (pa_cons (pv 6) pa_nil)))))
      (pss_cons (ps_if (pt_cmpR (neD (K := K) rfl hr) (pv 5) (pe_lst (pa_cons (pe_lst (pa_cons (pe_tup (pa_cons pe_int (pa_cons pe_int pa_nil))) (pa_cons (pe_tup (pa_cons pe_int (pa_cons pe_int pa_nil))) (pa_cons (pe_tup (pa_cons pe_int (pa_cons pe_int pa_nil))) pa_nil)))) (pa_cons (pe_lst pa_nil) (pa_cons (pe_lst (pa_cons (pe_tup (pa_cons pe_int (pa_cons pe_int pa_nil))) (pa_cons (pe_tup (pa_cons pe_int (pa_cons pe_int pa_nil))) (pa_cons (pe_tup (pa_cons pe_int (pa_cons pe_int pa_nil))) (pa_cons (pe_tup (pa_cons pe_int (pa_cons pe_int pa_nil))) pa_nil))))) pa_nil)))) (nomark _)) (pss_one (ps_ret pe_bl)) pss_nil)
      (pss_one (ps_ret (pe_cmpR (eqD (K := K) rfl hr) (pe_lc (own := [("notes", 6)]) (g := gName 6) (tt := tYes) (by rfl) sc_law.nd (pi_tupL (K := K) rfl (pe_tup (pa_cons (pe_lst (pa_cons (pe_tup (pa_cons pe_int (pa_cons pe_int pa_nil))) pa_nil)) (pa_cons (pe_lst (pa_cons (pe_tup (pa_cons pe_int (pa_cons pe_int pa_nil))) (pa_cons (pe_tup (pa_cons pe_int (pa_cons pe_int pa_nil))) pa_nil))) (pa_cons (pe_lst (pa_cons (pe_tup (pa_cons pe_int (pa_cons pe_int pa_nil))) pa_nil)) (pa_cons (pe_lst pa_nil) pa_nil)))))) (blkOk_by (own := [("notes", 6)]) (N := ["script", "stock", "turn", "often", "rows", "told", "notes"]) (sc := defScope s_law) (by decide +kernel))
        (fun _ _ _ _ _ => (pg_name (i := 6) sc_law.nd rfl (Or.inl rfl))) (fun _ _ _ _ _ => pts_nil) (fun _ _ _ _ _ => (pe_call G_clash_index (hr.mono (by decide)) (by rfl) T.g_clash_index T.F_clash_index.kp T.b_clash_index .nil pass0 (pa_cons (pv 4) (pa_cons (pv 6) pa_nil))))) (pe_lst (pa_cons pe_non (pa_cons pe_int (pa_cons pe_int (pa_cons pe_non pa_nil))))) (nomark _)))))))))), ?_⟩
    refine ⟨.ref a, rfl, a, ns, rfl, hS, hlen, fun t H1 s1 n1 k1 => ?_⟩
    refine ⟨8, rfl, by decide, by decide, for_range (lo := 0) (n := (8 : Int).toNat) (fun i σ H' => ∃ y2 y3 : Option V, σ = [some (.ref a), some (.ref t), y2, y3, none, none, none] ∧ But t H1 H' ∧ Stk H' t (2000 * i))
      ⟨_, _, rfl, But.refl t H1, k1.mono (by omega)⟩ (fun i σ H2 hi hP => ?_) (fun σ H2 hP => ?_)⟩
    · obtain ⟨y2, y3, rfl, u2, k2⟩ := hP
      have hi7 : i < 8 := hi
      refine ⟨.ref t, rfl, t, 6, 2000 * i, rfl, by omega, by omega, k2, by omega, fun v Ha va vb ka ua => ?_⟩
      refine ⟨(by show 3 ≤ sizeLine; decide), fun la hla => ?_⟩
      refine ⟨.ref t, rfl, t, 3, 2000 * i + 1, rfl, by omega, by omega, ka.up hla, by omega, fun z Hb za zb kb ub => ?_⟩
      have gla : Hb la = some (.lst (([v, 2, 40] : List Int).map V.int)) := ub _ _ upd_same (ka.ne hla)
      obtain ⟨m, hmm, hatm⟩ := at_in (ns := [v, 2, 40]) (i := z) za (by show z < 3; omega)
      have hm1 : 0 ≤ m ∧ m ≤ 40 := by
        have := List.mem_of_getElem? hmm
        simp only [List.mem_cons, List.not_mem_nil, or_false] at this
        omega
      have ub2 := ((u2.trans ua).trans (But.of (new_same (o := .lst (([v, 2, 40] : List Int).map V.int)) hla))).trans ub
      refine ⟨la, _, z, .int m, rfl, rfl, SqL.of gla, hatm, ?_⟩
      refine ⟨.ref t, rfl, .ref t, rfl, (by show 3 ≤ sizeLine; decide), fun l hl => ?_⟩
      have hm := mod_in (i := 0 + (i : Int)) (n := 3) (by decide)
      obtain ⟨y, hy, hat⟩ := at_in (ns := [8, 6, 5]) (i := (0 + (i : Int)) % 3) hm.1 hm.2
      have hy1 : 1 ≤ y ∧ y ≤ 8 := by
        have := List.mem_of_getElem? hy
        simp only [List.mem_cons, List.not_mem_nil, or_false] at this
        omega
      refine ⟨.int (0 + i), rfl, .inl ⟨0 + i, rfl, 0 + i, 3, rfl, rfl, (by show (0 : Int) < 3; decide), l, _, _, .int y, rfl, rfl, SqL.of upd_same, hat, ?_⟩⟩
      refine ⟨t, y, 2000 * i + 1 + 1, rfl, hy1.1, by omega, kb.up hl, by omega, by omega, fun r H3 r1 r2 k3 u3 => ?_⟩
      refine ⟨.int m, rfl, t, r, m, 2000 * i + 1 + 1 + 3, rfl, r1, by omega, hm1.1, hm1.2, k3, by omega, by omega, fun H5 u5 k5 => ⟨true, rfl, iteF ?_⟩⟩
      exact ⟨_, _, rfl, ((ub2.trans (But.of (new_same hl))).trans u3).trans u5, k5.mono (by omega)⟩
    · obtain ⟨y2, y3, rfl, u2, k2⟩ := hP
      have k2 := k2.mono (show (2000 : Int) * ((8 : Int).toNat : Nat) ≤ 16000 by decide)
      have s4 : Same H H2 := fun b o e => u2 _ _ (s1 _ _ e) fun zz => by
        rw [zz, n1] at e
        cases e
      refine ⟨fun σ' H' => ∃ y2 y3 : Option V, σ' = [some (.ref a), some (.ref t), y2, y3, none, none, none], ⟨.ref a, rfl, (by show 0 ≤ sizeLine; decide), fun l hl => ?_⟩, fun σ' H5 hM => ?_⟩
      · have sl := new_same (o := .lst []) hl
        refine ⟨_, _, dp_ints ((s4.trans sl).seq hS), .lst (SqL.of upd_same) .nil, shaped_dI ns, by decide, ?_⟩
        have k5 := k2.up (o := .lst []) hl
        generalize upd H2 l (.lst []) = H5 at k5 ⊢
        by_cases hns : ns = []
        · subst hns
          refine ⟨_, rfl, ite2 (fun _ => ?_) (fun h => absurd (by decide +kernel) h)⟩
          refine ⟨.ref t, rfl, t, 12, 4, 16000, rfl, by decide, by decide, by decide, by decide, k5.mono (by decide), by decide, by decide, fun H6 u6 k6 => ⟨true, rfl, iteF ?_⟩⟩
          exact ⟨_, _, rfl⟩
        · have hne : PyData.eqv (dI ns) (.list []) = false := by
            cases ns with
            | nil => exact absurd rfl hns
            | cons p r => rfl
          refine ⟨_, rfl, ite2 (fun h => absurd h (by rw [hne]; decide)) (fun _ => iteF ?_)⟩
          exact ⟨_, _, rfl⟩
      obtain ⟨y2, y3, rfl⟩ := hM
      clear s4 u2 k2 k1 s1 hS
      have hRm : Rim [1, 1, 0, 1] := ⟨by decide, by decide, by decide⟩
      refine ⟨(by show 4 ≤ sizeLine; decide), fun R f_R => ?_⟩
      have sN := new_same (H := H5) (o := .lst [.int 1, .int 1, .int 0, .int 1]) f_R
      have gR : (upd H5 R (.lst [.int 1, .int 1, .int 0, .int 1])) R = some (.lst (([1, 1, 0, 1] : List Int).map V.int)) := upd_same
      generalize upd H5 R (.lst [.int 1, .int 1, .int 0, .int 1]) = HA1 at gR ⊢
      clear sN
      refine ⟨(by show 2 ≤ sizeLine; decide), fun xt1 f_xt1 => ?_⟩
      have sN := new_same (H := HA1) (o := .tup [.int 0, .int 3]) f_xt1
      have gR := sN _ _ gR
      have gxt1 : (upd HA1 xt1 (.tup [.int 0, .int 3])) xt1 = some (.tup [.int 0, .int 3]) := upd_same
      generalize upd HA1 xt1 (.tup [.int 0, .int 3]) = HA2 at gR gxt1 ⊢
      clear sN
      refine ⟨(by show 1 ≤ sizeLine; decide), fun xL0 f_xL0 => ?_⟩
      have sN := new_same (H := HA2) (o := .lst [.ref xt1]) f_xL0
      have gR := sN _ _ gR
      have gxt1 := sN _ _ gxt1
      have gxL0 : (upd HA2 xL0 (.lst [.ref xt1])) xL0 = some (.lst [.ref xt1]) := upd_same
      generalize upd HA2 xL0 (.lst [.ref xt1]) = HA3 at gR gxt1 gxL0 ⊢
      clear sN
      refine ⟨(by show 2 ≤ sizeLine; decide), fun xt2 f_xt2 => ?_⟩
      have sN := new_same (H := HA3) (o := .tup [.int 0, .int 2]) f_xt2
      have gR := sN _ _ gR
      have gxt1 := sN _ _ gxt1
      have gxL0 := sN _ _ gxL0
      have gxt2 : (upd HA3 xt2 (.tup [.int 0, .int 2])) xt2 = some (.tup [.int 0, .int 2]) := upd_same
      generalize upd HA3 xt2 (.tup [.int 0, .int 2]) = HA4 at gR gxt1 gxL0 gxt2 ⊢
      clear sN
      refine ⟨(by show 1 ≤ sizeLine; decide), fun xL1 f_xL1 => ?_⟩
      have sN := new_same (H := HA4) (o := .lst [.ref xt2]) f_xL1
      have gR := sN _ _ gR
      have gxt1 := sN _ _ gxt1
      have gxL0 := sN _ _ gxL0
      have gxt2 := sN _ _ gxt2
      have gxL1 : (upd HA4 xL1 (.lst [.ref xt2])) xL1 = some (.lst [.ref xt2]) := upd_same
      generalize upd HA4 xL1 (.lst [.ref xt2]) = HA5 at gR gxt1 gxL0 gxt2 gxL1 ⊢
      clear sN
      refine ⟨(by show 2 ≤ sizeLine; decide), fun xt3 f_xt3 => ?_⟩
      have sN := new_same (H := HA5) (o := .tup [.int 0, .int 2]) f_xt3
      have gR := sN _ _ gR
      have gxt1 := sN _ _ gxt1
      have gxL0 := sN _ _ gxL0
      have gxt2 := sN _ _ gxt2
      have gxL1 := sN _ _ gxL1
      have gxt3 : (upd HA5 xt3 (.tup [.int 0, .int 2])) xt3 = some (.tup [.int 0, .int 2]) := upd_same
      generalize upd HA5 xt3 (.tup [.int 0, .int 2]) = HA6 at gR gxt1 gxL0 gxt2 gxL1 gxt3 ⊢
      clear sN
      refine ⟨(by show 2 ≤ sizeLine; decide), fun xt4 f_xt4 => ?_⟩
      have sN := new_same (H := HA6) (o := .tup [.int 1, .int 3]) f_xt4
      have gR := sN _ _ gR
      have gxt1 := sN _ _ gxt1
      have gxL0 := sN _ _ gxL0
      have gxt2 := sN _ _ gxt2
      have gxL1 := sN _ _ gxL1
      have gxt3 := sN _ _ gxt3
      have gxt4 : (upd HA6 xt4 (.tup [.int 1, .int 3])) xt4 = some (.tup [.int 1, .int 3]) := upd_same
      generalize upd HA6 xt4 (.tup [.int 1, .int 3]) = HA7 at gR gxt1 gxL0 gxt2 gxL1 gxt3 gxt4 ⊢
      clear sN
      refine ⟨(by show 2 ≤ sizeLine; decide), fun xL2 f_xL2 => ?_⟩
      have sN := new_same (H := HA7) (o := .lst [.ref xt3, .ref xt4]) f_xL2
      have gR := sN _ _ gR
      have gxt1 := sN _ _ gxt1
      have gxL0 := sN _ _ gxL0
      have gxt2 := sN _ _ gxt2
      have gxL1 := sN _ _ gxL1
      have gxt3 := sN _ _ gxt3
      have gxt4 := sN _ _ gxt4
      have gxL2 : (upd HA7 xL2 (.lst [.ref xt3, .ref xt4])) xL2 = some (.lst [.ref xt3, .ref xt4]) := upd_same
      generalize upd HA7 xL2 (.lst [.ref xt3, .ref xt4]) = HA8 at gR gxt1 gxL0 gxt2 gxL1 gxt3 gxt4 gxL2 ⊢
      clear sN
      refine ⟨(by show 3 ≤ sizeLine; decide), fun p f_p => ?_⟩
      have sN := new_same (H := HA8) (o := .tup [.ref xL0, .ref xL1, .ref xL2]) f_p
      have gR := sN _ _ gR
      have gxt1 := sN _ _ gxt1
      have gxL0 := sN _ _ gxL0
      have gxt2 := sN _ _ gxt2
      have gxL1 := sN _ _ gxL1
      have gxt3 := sN _ _ gxt3
      have gxt4 := sN _ _ gxt4
      have gxL2 := sN _ _ gxL2
      have gp : (upd HA8 p (.tup [.ref xL0, .ref xL1, .ref xL2])) p = some (.tup [.ref xL0, .ref xL1, .ref xL2]) := upd_same
      generalize upd HA8 p (.tup [.ref xL0, .ref xL1, .ref xL2]) = HA9 at gR gxt1 gxL0 gxt2 gxL1 gxt3 gxt4 gxL2 gp ⊢
      clear sN
      refine ⟨p, rfl, ⟨_, SqT.of gp⟩, fun D hD => ?_⟩
      obtain ⟨S, hSd⟩ : ∃ S : List (List (Int × Int)), S = [[(0, 1), (1, 1), (3, 1)], [], [(0, 1), (1, 0), (2, 1), (3, 1)]] := ⟨_, rfl⟩
      have each : ∀ (i : Nat) (x : V), ([.ref xL0, .ref xL1, .ref xL2] : List V)[i]? = some x → ∃ (l : Addr) (xs : List V) (ps : List (Int × Int)), x = .ref l ∧ HA9 l = some (.lst xs) ∧ Prs HA9 xs ps ∧ (∀ p ∈ ps, 0 ≤ p.2) ∧ ps.length ≤ 40 ∧ fitsF [1, 1, 0, 1] ps ≠ [] ∧
          S[i]? = some (sureP ((fitsF [1, 1, 0, 1] ps).map (bitR 4)) 4) := fun i x hx => by
        rw [hSd]
        match i, hx with
        | 0, hx => exact ⟨xL0, _, [(0, 3)], (Option.some.inj hx).symm, gxL0, (.cons gxt1 .nil), by decide, by decide, by decide +kernel, by decide +kernel⟩
        | 1, hx => exact ⟨xL1, _, [(0, 2)], (Option.some.inj hx).symm, gxL1, (.cons gxt2 .nil), by decide, by decide, by decide +kernel, by decide +kernel⟩
        | 2, hx => exact ⟨xL2, _, [(0, 2), (1, 3)], (Option.some.inj hx).symm, gxL2, (.cons gxt3 (.cons gxt4 .nil)), by decide, by decide, by decide +kernel, by decide +kernel⟩
      refine lc_tup (K := K) (a := p) (xs := [.ref xL0, .ref xL1, .ref xL2]) (fun i H' => Same HA9 H' ∧ ∃ vs : List V, H' D = some (.lst vs) ∧ PP H' vs (S.take i))
        ⟨new_same hD, [], upd_same, .nil⟩ (fun i H' _ hP => SqT.of (hP.1 _ _ gp)) (fun i x H2 hx hP => ⟨rfl, ?_⟩) (fun H2 hP => ?_)
      · obtain ⟨s2, vs, g2, hL⟩ := hP
        have hi : i < 3 := (List.getElem?_eq_some_iff.mp hx).1
        obtain ⟨l, xs, ps, rfl, e1, e2, e3, e4, e5, e6⟩ := each i x hx
        refine ⟨.ref R, rfl, .ref l, rfl, R, l, [1, 1, 0, 1], xs, ps, rfl, SqL.of (s2 _ _ gR), hRm, by decide, SqL.of (s2 _ _ e1), e2.up s2, e3, e4, e5, fun D2 us2 H3 s3 f3 g3 hPr => ?_⟩
        have g23 := s3 _ _ g2
        have nl : D ≠ D2 := ne_of_none g2 f3
        have hvl := hL.len
        rw [List.length_take] at hvl
        have p3 := PP.put (o := .lst (vs ++ [.ref D2])) g23 (hL.up s3) fun v hv => hv
        refine ⟨_, g23, sz40 (by omega), same_over (s2.trans s3) hD, vs ++ [.ref D2], upd_same, ?_⟩
        rw [List.take_add_one, e6]
        exact p3.snoc (by rw [upd_ne nl.symm]; exact g3) (Prs.over g23 hPr)
      obtain ⟨s2, vs, g2, hL⟩ := hP
      have hL : PP H2 vs S := by
        rw [List.take_of_length_le (by rw [hSd]; show 3 ≤ 3; decide)] at hL
        exact hL
      have gR := s2 _ _ gR
      clear each s2 gxL0 gxL1 gxL2 gxt1 gxt2 gxt3 gxt4 gp
      simp only [List.set_cons_zero, List.set_cons_succ]
      have hDat := dat_list (k := 2) (B := 2011 * 40 + 3) (n := 3) (ds := S.map dPs) (fun d hd => by
        obtain ⟨r, hr, rfl⟩ := List.mem_map.mp hd
        rw [hSd] at hr
        simp only [List.mem_cons, List.not_mem_nil, or_false] at hr
        rcases hr with rfl | rfl | rfl <;> exact dat_pairs (k := 40) (n := 40) (by decide +kernel) (by decide) (by decide)) (by decide) (by rw [hSd]; decide)
      refine ⟨.ref D, rfl, ?_⟩
      refine ⟨(by show 2 ≤ sizeLine; decide), fun yt1 f_yt1 => ?_⟩
      have sN := new_same (H := H2) (o := .tup [.int 0, .int 1]) f_yt1
      have hL := hL.up sN
      have gR := sN _ _ gR
      have g2 := sN _ _ g2
      have gyt1 : (upd H2 yt1 (.tup [.int 0, .int 1])) yt1 = some (.tup [.int 0, .int 1]) := upd_same
      generalize upd H2 yt1 (.tup [.int 0, .int 1]) = HB1 at hL gR g2 gyt1 ⊢
      clear sN
      refine ⟨(by show 2 ≤ sizeLine; decide), fun yt2 f_yt2 => ?_⟩
      have sN := new_same (H := HB1) (o := .tup [.int 1, .int 1]) f_yt2
      have hL := hL.up sN
      have gR := sN _ _ gR
      have g2 := sN _ _ g2
      have gyt1 := sN _ _ gyt1
      have gyt2 : (upd HB1 yt2 (.tup [.int 1, .int 1])) yt2 = some (.tup [.int 1, .int 1]) := upd_same
      generalize upd HB1 yt2 (.tup [.int 1, .int 1]) = HB2 at hL gR g2 gyt1 gyt2 ⊢
      clear sN
      refine ⟨(by show 2 ≤ sizeLine; decide), fun yt3 f_yt3 => ?_⟩
      have sN := new_same (H := HB2) (o := .tup [.int 3, .int 1]) f_yt3
      have hL := hL.up sN
      have gR := sN _ _ gR
      have g2 := sN _ _ g2
      have gyt1 := sN _ _ gyt1
      have gyt2 := sN _ _ gyt2
      have gyt3 : (upd HB2 yt3 (.tup [.int 3, .int 1])) yt3 = some (.tup [.int 3, .int 1]) := upd_same
      generalize upd HB2 yt3 (.tup [.int 3, .int 1]) = HB3 at hL gR g2 gyt1 gyt2 gyt3 ⊢
      clear sN
      refine ⟨(by show 3 ≤ sizeLine; decide), fun yL0 f_yL0 => ?_⟩
      have sN := new_same (H := HB3) (o := .lst [.ref yt1, .ref yt2, .ref yt3]) f_yL0
      have hL := hL.up sN
      have gR := sN _ _ gR
      have g2 := sN _ _ g2
      have gyt1 := sN _ _ gyt1
      have gyt2 := sN _ _ gyt2
      have gyt3 := sN _ _ gyt3
      have gyL0 : (upd HB3 yL0 (.lst [.ref yt1, .ref yt2, .ref yt3])) yL0 = some (.lst [.ref yt1, .ref yt2, .ref yt3]) := upd_same
      generalize upd HB3 yL0 (.lst [.ref yt1, .ref yt2, .ref yt3]) = HB4 at hL gR g2 gyt1 gyt2 gyt3 gyL0 ⊢
      clear sN
      refine ⟨(by show 0 ≤ sizeLine; decide), fun yL1 f_yL1 => ?_⟩
      have sN := new_same (H := HB4) (o := .lst []) f_yL1
      have hL := hL.up sN
      have gR := sN _ _ gR
      have g2 := sN _ _ g2
      have gyt1 := sN _ _ gyt1
      have gyt2 := sN _ _ gyt2
      have gyt3 := sN _ _ gyt3
      have gyL0 := sN _ _ gyL0
      have gyL1 : (upd HB4 yL1 (.lst [])) yL1 = some (.lst []) := upd_same
      generalize upd HB4 yL1 (.lst []) = HB5 at hL gR g2 gyt1 gyt2 gyt3 gyL0 gyL1 ⊢
      clear sN
      refine ⟨(by show 2 ≤ sizeLine; decide), fun yt4 f_yt4 => ?_⟩
      have sN := new_same (H := HB5) (o := .tup [.int 0, .int 1]) f_yt4
      have hL := hL.up sN
      have gR := sN _ _ gR
      have g2 := sN _ _ g2
      have gyt1 := sN _ _ gyt1
      have gyt2 := sN _ _ gyt2
      have gyt3 := sN _ _ gyt3
      have gyL0 := sN _ _ gyL0
      have gyL1 := sN _ _ gyL1
      have gyt4 : (upd HB5 yt4 (.tup [.int 0, .int 1])) yt4 = some (.tup [.int 0, .int 1]) := upd_same
      generalize upd HB5 yt4 (.tup [.int 0, .int 1]) = HB6 at hL gR g2 gyt1 gyt2 gyt3 gyL0 gyL1 gyt4 ⊢
      clear sN
      refine ⟨(by show 2 ≤ sizeLine; decide), fun yt5 f_yt5 => ?_⟩
      have sN := new_same (H := HB6) (o := .tup [.int 1, .int 0]) f_yt5
      have hL := hL.up sN
      have gR := sN _ _ gR
      have g2 := sN _ _ g2
      have gyt1 := sN _ _ gyt1
      have gyt2 := sN _ _ gyt2
      have gyt3 := sN _ _ gyt3
      have gyL0 := sN _ _ gyL0
      have gyL1 := sN _ _ gyL1
      have gyt4 := sN _ _ gyt4
      have gyt5 : (upd HB6 yt5 (.tup [.int 1, .int 0])) yt5 = some (.tup [.int 1, .int 0]) := upd_same
      generalize upd HB6 yt5 (.tup [.int 1, .int 0]) = HB7 at hL gR g2 gyt1 gyt2 gyt3 gyL0 gyL1 gyt4 gyt5 ⊢
      clear sN
      refine ⟨(by show 2 ≤ sizeLine; decide), fun yt6 f_yt6 => ?_⟩
      have sN := new_same (H := HB7) (o := .tup [.int 2, .int 1]) f_yt6
      have hL := hL.up sN
      have gR := sN _ _ gR
      have g2 := sN _ _ g2
      have gyt1 := sN _ _ gyt1
      have gyt2 := sN _ _ gyt2
      have gyt3 := sN _ _ gyt3
      have gyL0 := sN _ _ gyL0
      have gyL1 := sN _ _ gyL1
      have gyt4 := sN _ _ gyt4
      have gyt5 := sN _ _ gyt5
      have gyt6 : (upd HB7 yt6 (.tup [.int 2, .int 1])) yt6 = some (.tup [.int 2, .int 1]) := upd_same
      generalize upd HB7 yt6 (.tup [.int 2, .int 1]) = HB8 at hL gR g2 gyt1 gyt2 gyt3 gyL0 gyL1 gyt4 gyt5 gyt6 ⊢
      clear sN
      refine ⟨(by show 2 ≤ sizeLine; decide), fun yt7 f_yt7 => ?_⟩
      have sN := new_same (H := HB8) (o := .tup [.int 3, .int 1]) f_yt7
      have hL := hL.up sN
      have gR := sN _ _ gR
      have g2 := sN _ _ g2
      have gyt1 := sN _ _ gyt1
      have gyt2 := sN _ _ gyt2
      have gyt3 := sN _ _ gyt3
      have gyL0 := sN _ _ gyL0
      have gyL1 := sN _ _ gyL1
      have gyt4 := sN _ _ gyt4
      have gyt5 := sN _ _ gyt5
      have gyt6 := sN _ _ gyt6
      have gyt7 : (upd HB8 yt7 (.tup [.int 3, .int 1])) yt7 = some (.tup [.int 3, .int 1]) := upd_same
      generalize upd HB8 yt7 (.tup [.int 3, .int 1]) = HB9 at hL gR g2 gyt1 gyt2 gyt3 gyL0 gyL1 gyt4 gyt5 gyt6 gyt7 ⊢
      clear sN
      refine ⟨(by show 4 ≤ sizeLine; decide), fun yL2 f_yL2 => ?_⟩
      have sN := new_same (H := HB9) (o := .lst [.ref yt4, .ref yt5, .ref yt6, .ref yt7]) f_yL2
      have hL := hL.up sN
      have gR := sN _ _ gR
      have g2 := sN _ _ g2
      have gyt1 := sN _ _ gyt1
      have gyt2 := sN _ _ gyt2
      have gyt3 := sN _ _ gyt3
      have gyL0 := sN _ _ gyL0
      have gyL1 := sN _ _ gyL1
      have gyt4 := sN _ _ gyt4
      have gyt5 := sN _ _ gyt5
      have gyt6 := sN _ _ gyt6
      have gyt7 := sN _ _ gyt7
      have gyL2 : (upd HB9 yL2 (.lst [.ref yt4, .ref yt5, .ref yt6, .ref yt7])) yL2 = some (.lst [.ref yt4, .ref yt5, .ref yt6, .ref yt7]) := upd_same
      generalize upd HB9 yL2 (.lst [.ref yt4, .ref yt5, .ref yt6, .ref yt7]) = HB10 at hL gR g2 gyt1 gyt2 gyt3 gyL0 gyL1 gyt4 gyt5 gyt6 gyt7 gyL2 ⊢
      clear sN
      refine ⟨(by show 3 ≤ sizeLine; decide), fun W f_W => ?_⟩
      have sN := new_same (H := HB10) (o := .lst [.ref yL0, .ref yL1, .ref yL2]) f_W
      have hL := hL.up sN
      have gR := sN _ _ gR
      have g2 := sN _ _ g2
      have gyt1 := sN _ _ gyt1
      have gyt2 := sN _ _ gyt2
      have gyt3 := sN _ _ gyt3
      have gyL0 := sN _ _ gyL0
      have gyL1 := sN _ _ gyL1
      have gyt4 := sN _ _ gyt4
      have gyt5 := sN _ _ gyt5
      have gyt6 := sN _ _ gyt6
      have gyt7 := sN _ _ gyt7
      have gyL2 := sN _ _ gyL2
      have gW : (upd HB10 W (.lst [.ref yL0, .ref yL1, .ref yL2])) W = some (.lst [.ref yL0, .ref yL1, .ref yL2]) := upd_same
      generalize upd HB10 W (.lst [.ref yL0, .ref yL1, .ref yL2]) = HB11 at hL gR g2 gyt1 gyt2 gyt3 gyL0 gyL1 gyt4 gyt5 gyt6 gyt7 gyL2 gW ⊢
      clear sN
      refine ⟨_, _, .lst (SqL.of g2) hL.dp, .lst (ds := S.map dPs) (SqL.of gW) ?_, hDat.rp.shaped, hDat.rp.shaped, _, rfl, ite2 (fun h => absurd h (by rw [hDat.rp.refl]; decide)) (fun _ => ?_)⟩
      · rw [hSd]
        exact PP.dp (S := [[(0, 1), (1, 1), (3, 1)], [], [(0, 1), (1, 0), (2, 1), (3, 1)]]) (.cons gyL0 (.cons gyt1 (.cons gyt2 (.cons gyt3 .nil))) (.cons gyL1 .nil (.cons gyL2 (.cons gyt4 (.cons gyt5 (.cons gyt6 (.cons gyt7 .nil)))) .nil)))
      clear hL hDat g2 gW gyL0 gyL1 gyL2 gyt1 gyt2 gyt3 gyt4 gyt5 gyt6 gyt7
      refine ⟨(by show 2 ≤ sizeLine; decide), fun zt1 f_zt1 => ?_⟩
      have sN := new_same (H := HB11) (o := .tup [.int 0, .int 2]) f_zt1
      have gR := sN _ _ gR
      have gzt1 : (upd HB11 zt1 (.tup [.int 0, .int 2])) zt1 = some (.tup [.int 0, .int 2]) := upd_same
      generalize upd HB11 zt1 (.tup [.int 0, .int 2]) = HC1 at gR gzt1 ⊢
      clear sN
      refine ⟨(by show 1 ≤ sizeLine; decide), fun zL0 f_zL0 => ?_⟩
      have sN := new_same (H := HC1) (o := .lst [.ref zt1]) f_zL0
      have gR := sN _ _ gR
      have gzt1 := sN _ _ gzt1
      have gzL0 : (upd HC1 zL0 (.lst [.ref zt1])) zL0 = some (.lst [.ref zt1]) := upd_same
      generalize upd HC1 zL0 (.lst [.ref zt1]) = HC2 at gR gzt1 gzL0 ⊢
      clear sN
      refine ⟨(by show 2 ≤ sizeLine; decide), fun zt2 f_zt2 => ?_⟩
      have sN := new_same (H := HC2) (o := .tup [.int 0, .int 3]) f_zt2
      have gR := sN _ _ gR
      have gzt1 := sN _ _ gzt1
      have gzL0 := sN _ _ gzL0
      have gzt2 : (upd HC2 zt2 (.tup [.int 0, .int 3])) zt2 = some (.tup [.int 0, .int 3]) := upd_same
      generalize upd HC2 zt2 (.tup [.int 0, .int 3]) = HC3 at gR gzt1 gzL0 gzt2 ⊢
      clear sN
      refine ⟨(by show 2 ≤ sizeLine; decide), fun zt3 f_zt3 => ?_⟩
      have sN := new_same (H := HC3) (o := .tup [.int 1, .int 0]) f_zt3
      have gR := sN _ _ gR
      have gzt1 := sN _ _ gzt1
      have gzL0 := sN _ _ gzL0
      have gzt2 := sN _ _ gzt2
      have gzt3 : (upd HC3 zt3 (.tup [.int 1, .int 0])) zt3 = some (.tup [.int 1, .int 0]) := upd_same
      generalize upd HC3 zt3 (.tup [.int 1, .int 0]) = HC4 at gR gzt1 gzL0 gzt2 gzt3 ⊢
      clear sN
      refine ⟨(by show 2 ≤ sizeLine; decide), fun zL1 f_zL1 => ?_⟩
      have sN := new_same (H := HC4) (o := .lst [.ref zt2, .ref zt3]) f_zL1
      have gR := sN _ _ gR
      have gzt1 := sN _ _ gzt1
      have gzL0 := sN _ _ gzL0
      have gzt2 := sN _ _ gzt2
      have gzt3 := sN _ _ gzt3
      have gzL1 : (upd HC4 zL1 (.lst [.ref zt2, .ref zt3])) zL1 = some (.lst [.ref zt2, .ref zt3]) := upd_same
      generalize upd HC4 zL1 (.lst [.ref zt2, .ref zt3]) = HC5 at gR gzt1 gzL0 gzt2 gzt3 gzL1 ⊢
      clear sN
      refine ⟨(by show 2 ≤ sizeLine; decide), fun zt4 f_zt4 => ?_⟩
      have sN := new_same (H := HC5) (o := .tup [.int 0, .int 4]) f_zt4
      have gR := sN _ _ gR
      have gzt1 := sN _ _ gzt1
      have gzL0 := sN _ _ gzL0
      have gzt2 := sN _ _ gzt2
      have gzt3 := sN _ _ gzt3
      have gzL1 := sN _ _ gzL1
      have gzt4 : (upd HC5 zt4 (.tup [.int 0, .int 4])) zt4 = some (.tup [.int 0, .int 4]) := upd_same
      generalize upd HC5 zt4 (.tup [.int 0, .int 4]) = HC6 at gR gzt1 gzL0 gzt2 gzt3 gzL1 gzt4 ⊢
      clear sN
      refine ⟨(by show 1 ≤ sizeLine; decide), fun zL2 f_zL2 => ?_⟩
      have sN := new_same (H := HC6) (o := .lst [.ref zt4]) f_zL2
      have gR := sN _ _ gR
      have gzt1 := sN _ _ gzt1
      have gzL0 := sN _ _ gzL0
      have gzt2 := sN _ _ gzt2
      have gzt3 := sN _ _ gzt3
      have gzL1 := sN _ _ gzL1
      have gzt4 := sN _ _ gzt4
      have gzL2 : (upd HC6 zL2 (.lst [.ref zt4])) zL2 = some (.lst [.ref zt4]) := upd_same
      generalize upd HC6 zL2 (.lst [.ref zt4]) = HC7 at gR gzt1 gzL0 gzt2 gzt3 gzL1 gzt4 gzL2 ⊢
      clear sN
      refine ⟨(by show 0 ≤ sizeLine; decide), fun zL3 f_zL3 => ?_⟩
      have sN := new_same (H := HC7) (o := .lst []) f_zL3
      have gR := sN _ _ gR
      have gzt1 := sN _ _ gzt1
      have gzL0 := sN _ _ gzL0
      have gzt2 := sN _ _ gzt2
      have gzt3 := sN _ _ gzt3
      have gzL1 := sN _ _ gzL1
      have gzt4 := sN _ _ gzt4
      have gzL2 := sN _ _ gzL2
      have gzL3 : (upd HC7 zL3 (.lst [])) zL3 = some (.lst []) := upd_same
      generalize upd HC7 zL3 (.lst []) = HC8 at gR gzt1 gzL0 gzt2 gzt3 gzL1 gzt4 gzL2 gzL3 ⊢
      clear sN
      refine ⟨(by show 4 ≤ sizeLine; decide), fun w1 f_w1 => ?_⟩
      have sN := new_same (H := HC8) (o := .tup [.ref zL0, .ref zL1, .ref zL2, .ref zL3]) f_w1
      have gR := sN _ _ gR
      have gzt1 := sN _ _ gzt1
      have gzL0 := sN _ _ gzL0
      have gzt2 := sN _ _ gzt2
      have gzt3 := sN _ _ gzt3
      have gzL1 := sN _ _ gzL1
      have gzt4 := sN _ _ gzt4
      have gzL2 := sN _ _ gzL2
      have gzL3 := sN _ _ gzL3
      have gw1 : (upd HC8 w1 (.tup [.ref zL0, .ref zL1, .ref zL2, .ref zL3])) w1 = some (.tup [.ref zL0, .ref zL1, .ref zL2, .ref zL3]) := upd_same
      generalize upd HC8 w1 (.tup [.ref zL0, .ref zL1, .ref zL2, .ref zL3]) = HC9 at gR gzt1 gzL0 gzt2 gzt3 gzL1 gzt4 gzL2 gzL3 gw1 ⊢
      clear sN
      refine ⟨w1, rfl, ⟨_, SqT.of gw1⟩, fun D2 hD2 => ?_⟩
      obtain ⟨E4, hE⟩ : ∃ E4 : List V, E4 = [.non, .int 1, .int 0, .non] := ⟨_, rfl⟩
      have each : ∀ (i : Nat) (x : V), ([.ref zL0, .ref zL1, .ref zL2, .ref zL3] : List V)[i]? = some x → ∃ (l : Addr) (xs : List V) (ps : List (Int × Int)), x = .ref l ∧ HC9 l = some (.lst xs) ∧ Prs HC9 xs ps ∧ (∀ p ∈ ps, 0 ≤ p.2) ∧ ps.length ≤ 40 ∧
          ((∃ k, ClashAt [1, 1, 0, 1] ps k ∧ E4[i]? = some (.int (k : Nat))) ∨ (fitsF [1, 1, 0, 1] ps ≠ [] ∧ E4[i]? = some .non)) := fun i x hx => by
        rw [hE]
        match i, hx with
        | 0, hx => exact ⟨zL0, _, [(0, 2)], (Option.some.inj hx).symm, gzL0, (.cons gzt1 .nil), by decide, by decide, .inr ⟨by decide +kernel, rfl⟩⟩
        | 1, hx => exact ⟨zL1, _, [(0, 3), (1, 0)], (Option.some.inj hx).symm, gzL1, (.cons gzt2 (.cons gzt3 .nil)), by decide, by decide, .inl ⟨1, ⟨by decide, by decide +kernel, by decide +kernel⟩, rfl⟩⟩
        | 2, hx => exact ⟨zL2, _, [(0, 4)], (Option.some.inj hx).symm, gzL2, (.cons gzt4 .nil), by decide, by decide, .inl ⟨0, ⟨by decide, by decide +kernel, by decide +kernel⟩, rfl⟩⟩
        | 3, hx => exact ⟨zL3, _, [], (Option.some.inj hx).symm, gzL3, .nil, by decide, by decide, .inr ⟨by decide +kernel, rfl⟩⟩
      refine lc_tup (K := K) (a := w1) (xs := [.ref zL0, .ref zL1, .ref zL2, .ref zL3]) (fun i H' => Same HC9 H' ∧ H' D2 = some (.lst (E4.take i)))
        ⟨new_same hD2, upd_same⟩ (fun i H' _ hP => SqT.of (hP.1 _ _ gw1)) (fun i x H2 hx hP => ⟨rfl, ?_⟩) (fun H2 hP => ?_)
      · obtain ⟨s2, g2⟩ := hP
        have hi : i < 4 := (List.getElem?_eq_some_iff.mp hx).1
        obtain ⟨l, xs, ps, rfl, e1, e2, e3, e4, e5⟩ := each i x hx
        refine ⟨.ref R, rfl, .ref l, rfl, R, l, [1, 1, 0, 1], xs, ps, rfl, SqL.of (s2 _ _ gR), hRm, by decide, SqL.of (s2 _ _ e1), e2.up s2, e3, e4, fun j H3 hC s3 => ?_, fun H3 hno s3 => ?_⟩
        · rcases e5 with ⟨k, hk, hE5⟩ | ⟨hne, _⟩
          · obtain rfl := hC.one hk
            refine ⟨_, s3 _ _ g2, ?_, same_over (s2.trans s3) hD2, ?_⟩
            · rw [List.length_take]
              exact sz40 (by omega)
            · rw [upd_same, List.take_add_one, hE5]
              rfl
          · exact absurd hC.fits hne
        · rcases e5 with ⟨k, hk, _⟩ | ⟨_, hE5⟩
          · exact absurd hk.fits (all_fits hno)
          · refine ⟨_, s3 _ _ g2, ?_, same_over (s2.trans s3) hD2, ?_⟩
            · rw [List.length_take]
              exact sz40 (by omega)
            · rw [upd_same, List.take_add_one, hE5]
              rfl
      obtain ⟨s2, g2⟩ := hP
      have g2 : H2 D2 = some (.lst [.non, .int 1, .int 0, .non]) := by
        rw [g2, hE]
        rfl
      refine ⟨(by show 4 ≤ sizeLine; decide), fun w2 hw => ?_⟩
      have sl := new_same (o := .lst [.non, .int 1, .int 0, .non]) hw
      refine ⟨_, _, .lst (SqL.of (sl _ _ g2)) (.cons .non (.cons (.int _) (.cons (.int _) (.cons .non .nil)))), .lst (SqL.of upd_same) (.cons .non (.cons (.int _) (.cons (.int _) (.cons .non .nil)))), by decide, by decide, ?_⟩
      exact q _

end
/-! ### what the top has written, and the end -/
theorem all_mk {l : PySem.W.OpenLaw} {w : World} {K : PySem.W.Frag} {h : Heap} {mg : Str → Option Value} {fa : Addr} (X : K.In h) (G : h.Ns mainGlobals mg) (hfa : mg "law" = some (.ref fa))
    {CI_Impossible : Addr} (gI_Impossible : PySem.W.nsIn K mainGlobals "Impossible" = some (some (.ref CI_Impossible))) (kI_Impossible : PySem.W.keepIn K (.ref CI_Impossible) = true) (xI_Impossible : PySem.W.excIn K CI_Impossible [.type "ValueError", .type "Exception", .type "BaseException", .type "object"] "ValueError.__new__" = true)
    (bI_Impossible : PySem.W.subIn K (.ref CI_Impossible) (.type "BaseException") = some true) (tI_Impossible : PySem.W.typeIn K (.ref CI_Impossible) = some (.type "type")) (iI_Impossible : PySem.W.isClsIn K CI_Impossible = true) (sI_Impossible : PySem.W.subIn K (.ref CI_Impossible) (.ref CI_Impossible) = some true)
    {f0 : Addr} {od0 an0 : Option Addr} {sl0 : Array (Option Value)} {oc0 kV0 dc0 pm0 cd0 ct0 : Value}
    (a0 : PySem.W.nsIn K mainGlobals "turned_list" = some (some (.ref f0))) (l0 : K.lookup f0 = some ⟨oc0, od0, .func (PySem.W.fnOf "turned_list" "turned_list" (defArgs s_turned_list) (defBody s_turned_list) (defScope s_turned_list) .none kV0 dc0 pm0 an0 cd0 ct0), sl0⟩) (c0 : PySem.W.codeIn K cd0 "turned_list" = true) (k0 : PySem.W.keepIn K (.ref f0) = true)
    {f1 : Addr} {od1 an1 : Option Addr} {sl1 : Array (Option Value)} {oc1 kV1 dc1 pm1 cd1 ct1 : Value}
    (a1 : PySem.W.nsIn K mainGlobals "is_integer" = some (some (.ref f1))) (l1 : K.lookup f1 = some ⟨oc1, od1, .func (PySem.W.fnOf "is_integer" "is_integer" (defArgs s_is_integer) (defBody s_is_integer) (defScope s_is_integer) .none kV1 dc1 pm1 an1 cd1 ct1), sl1⟩) (c1 : PySem.W.codeIn K cd1 "is_integer" = true) (k1 : PySem.W.keepIn K (.ref f1) = true)
    {f2 : Addr} {od2 an2 : Option Addr} {sl2 : Array (Option Value)} {oc2 kV2 dc2 pm2 cd2 ct2 : Value}
    (a2 : PySem.W.nsIn K mainGlobals "has_slots" = some (some (.ref f2))) (l2 : K.lookup f2 = some ⟨oc2, od2, .func (PySem.W.fnOf "has_slots" "has_slots" (defArgs s_has_slots) (defBody s_has_slots) (defScope s_has_slots) .none kV2 dc2 pm2 an2 cd2 ct2), sl2⟩) (c2 : PySem.W.codeIn K cd2 "has_slots" = true) (k2 : PySem.W.keepIn K (.ref f2) = true)
    {f3 : Addr} {od3 an3 : Option Addr} {sl3 : Array (Option Value)} {oc3 kV3 dc3 pm3 cd3 ct3 : Value}
    (a3 : PySem.W.nsIn K mainGlobals "wrong_integer" = some (some (.ref f3))) (l3 : K.lookup f3 = some ⟨oc3, od3, .func (PySem.W.fnOf "wrong_integer" "wrong_integer" (defArgs s_wrong_integer) (defBody s_wrong_integer) (defScope s_wrong_integer) .none kV3 dc3 pm3 an3 cd3 ct3), sl3⟩) (c3 : PySem.W.codeIn K cd3 "wrong_integer" = true) (k3 : PySem.W.keepIn K (.ref f3) = true)
    {f4 : Addr} {od4 an4 : Option Addr} {sl4 : Array (Option Value)} {oc4 kV4 dc4 pm4 cd4 ct4 : Value}
    (a4 : PySem.W.nsIn K mainGlobals "wrong_light" = some (some (.ref f4))) (l4 : K.lookup f4 = some ⟨oc4, od4, .func (PySem.W.fnOf "wrong_light" "wrong_light" (defArgs s_wrong_light) (defBody s_wrong_light) (defScope s_wrong_light) .none kV4 dc4 pm4 an4 cd4 ct4), sl4⟩) (c4 : PySem.W.codeIn K cd4 "wrong_light" = true) (k4 : PySem.W.keepIn K (.ref f4) = true)
    {f5 : Addr} {od5 an5 : Option Addr} {sl5 : Array (Option Value)} {oc5 kV5 dc5 pm5 cd5 ct5 : Value}
    (a5 : PySem.W.nsIn K mainGlobals "wrong_slot" = some (some (.ref f5))) (l5 : K.lookup f5 = some ⟨oc5, od5, .func (PySem.W.fnOf "wrong_slot" "wrong_slot" (defArgs s_wrong_slot) (defBody s_wrong_slot) (defScope s_wrong_slot) .none kV5 dc5 pm5 an5 cd5 ct5), sl5⟩) (c5 : PySem.W.codeIn K cd5 "wrong_slot" = true) (k5 : PySem.W.keepIn K (.ref f5) = true)
    {f6 : Addr} {od6 an6 : Option Addr} {sl6 : Array (Option Value)} {oc6 kV6 dc6 pm6 cd6 ct6 : Value}
    (a6 : PySem.W.nsIn K mainGlobals "is_look" = some (some (.ref f6))) (l6 : K.lookup f6 = some ⟨oc6, od6, .func (PySem.W.fnOf "is_look" "is_look" (defArgs s_is_look) (defBody s_is_look) (defScope s_is_look) .none kV6 dc6 pm6 an6 cd6 ct6), sl6⟩) (c6 : PySem.W.codeIn K cd6 "is_look" = true) (k6 : PySem.W.keepIn K (.ref f6) = true)
    {f7 : Addr} {od7 an7 : Option Addr} {sl7 : Array (Option Value)} {oc7 kV7 dc7 pm7 cd7 ct7 : Value}
    (a7 : PySem.W.nsIn K mainGlobals "check_disc" = some (some (.ref f7))) (l7 : K.lookup f7 = some ⟨oc7, od7, .func (PySem.W.fnOf "check_disc" "check_disc" (defArgs s_check_disc) (defBody s_check_disc) (defScope s_check_disc) .none kV7 dc7 pm7 an7 cd7 ct7), sl7⟩) (c7 : PySem.W.codeIn K cd7 "check_disc" = true) (k7 : PySem.W.keepIn K (.ref f7) = true)
    {f8 : Addr} {od8 an8 : Option Addr} {sl8 : Array (Option Value)} {oc8 kV8 dc8 pm8 cd8 ct8 : Value}
    (a8 : PySem.W.nsIn K mainGlobals "check_slots_at_most" = some (some (.ref f8))) (l8 : K.lookup f8 = some ⟨oc8, od8, .func (PySem.W.fnOf "check_slots_at_most" "check_slots_at_most" (defArgs s_check_slots_at_most) (defBody s_check_slots_at_most) (defScope s_check_slots_at_most) .none kV8 dc8 pm8 an8 cd8 ct8), sl8⟩) (c8 : PySem.W.codeIn K cd8 "check_slots_at_most" = true) (k8 : PySem.W.keepIn K (.ref f8) = true)
    {f9 : Addr} {od9 an9 : Option Addr} {sl9 : Array (Option Value)} {oc9 kV9 dc9 pm9 cd9 ct9 : Value}
    (a9 : PySem.W.nsIn K mainGlobals "check_looks" = some (some (.ref f9))) (l9 : K.lookup f9 = some ⟨oc9, od9, .func (PySem.W.fnOf "check_looks" "check_looks" (defArgs s_check_looks) (defBody s_check_looks) (defScope s_check_looks) .none kV9 dc9 pm9 an9 cd9 ct9), sl9⟩) (c9 : PySem.W.codeIn K cd9 "check_looks" = true) (k9 : PySem.W.keepIn K (.ref f9) = true)
    {f10 : Addr} {od10 an10 : Option Addr} {sl10 : Array (Option Value)} {oc10 kV10 dc10 pm10 cd10 ct10 : Value}
    (a10 : PySem.W.nsIn K mainGlobals "sure_slots" = some (some (.ref f10))) (l10 : K.lookup f10 = some ⟨oc10, od10, .func (PySem.W.fnOf "sure_slots" "sure_slots" (defArgs s_sure_slots) (defBody s_sure_slots) (defScope s_sure_slots) .none kV10 dc10 pm10 an10 cd10 ct10), sl10⟩) (c10 : PySem.W.codeIn K cd10 "sure_slots" = true) (k10 : PySem.W.keepIn K (.ref f10) = true)
    {f11 : Addr} {od11 an11 : Option Addr} {sl11 : Array (Option Value)} {oc11 kV11 dc11 pm11 cd11 ct11 : Value}
    (a11 : PySem.W.nsIn K mainGlobals "clash_index" = some (some (.ref f11))) (l11 : K.lookup f11 = some ⟨oc11, od11, .func (PySem.W.fnOf "clash_index" "clash_index" (defArgs s_clash_index) (defBody s_clash_index) (defScope s_clash_index) .none kV11 dc11 pm11 an11 cd11 ct11), sl11⟩) (c11 : PySem.W.codeIn K cd11 "clash_index" = true) (k11 : PySem.W.keepIn K (.ref f11) = true)
    {f12 : Addr} {od12 an12 : Option Addr} {sl12 : Array (Option Value)} {oc12 kV12 dc12 pm12 cd12 ct12 : Value}
    (a12 : PySem.W.nsIn K mainGlobals "_check_seen" = some (some (.ref f12))) (l12 : K.lookup f12 = some ⟨oc12, od12, .func (PySem.W.fnOf "_check_seen" "_check_seen" (defArgs s_check_seen) (defBody s_check_seen) (defScope s_check_seen) .none kV12 dc12 pm12 an12 cd12 ct12), sl12⟩) (c12 : PySem.W.codeIn K cd12 "_check_seen" = true) (k12 : PySem.W.keepIn K (.ref f12) = true)
    {f13 : Addr} {od13 an13 : Option Addr} {sl13 : Array (Option Value)} {oc13 kV13 dc13 pm13 cd13 ct13 : Value}
    (a13 : PySem.W.nsIn K mainGlobals "_all_numbers" = some (some (.ref f13))) (l13 : K.lookup f13 = some ⟨oc13, od13, .func (PySem.W.fnOf "_all_numbers" "_all_numbers" (defArgs s_all_numbers) (defBody s_all_numbers) (defScope s_all_numbers) .none kV13 dc13 pm13 an13 cd13 ct13), sl13⟩) (c13 : PySem.W.codeIn K cd13 "_all_numbers" = true) (k13 : PySem.W.keepIn K (.ref f13) = true)
    {f14 : Addr} {od14 an14 : Option Addr} {sl14 : Array (Option Value)} {oc14 kV14 dc14 pm14 cd14 ct14 : Value}
    (a14 : PySem.W.nsIn K mainGlobals "_fits" = some (some (.ref f14))) (l14 : K.lookup f14 = some ⟨oc14, od14, .func (PySem.W.fnOf "_fits" "_fits" (defArgs s_fits) (defBody s_fits) (defScope s_fits) .none kV14 dc14 pm14 an14 cd14 ct14), sl14⟩) (c14 : PySem.W.codeIn K cd14 "_fits" = true) (k14 : PySem.W.keepIn K (.ref f14) = true)
    {f15 : Addr} {od15 an15 : Option Addr} {sl15 : Array (Option Value)} {oc15 kV15 dc15 pm15 cd15 ct15 : Value}
    (a15 : PySem.W.nsIn K mainGlobals "_some_fits" = some (some (.ref f15))) (l15 : K.lookup f15 = some ⟨oc15, od15, .func (PySem.W.fnOf "_some_fits" "_some_fits" (defArgs s_some_fits) (defBody s_some_fits) (defScope s_some_fits) .none kV15 dc15 pm15 an15 cd15 ct15), sl15⟩) (c15 : PySem.W.codeIn K cd15 "_some_fits" = true) (k15 : PySem.W.keepIn K (.ref f15) = true)
    {f16 : Addr} {od16 an16 : Option Addr} {sl16 : Array (Option Value)} {oc16 kV16 dc16 pm16 cd16 ct16 : Value}
    (a16 : PySem.W.nsIn K mainGlobals "_still_fitting" = some (some (.ref f16))) (l16 : K.lookup f16 = some ⟨oc16, od16, .func (PySem.W.fnOf "_still_fitting" "_still_fitting" (defArgs s_still_fitting) (defBody s_still_fitting) (defScope s_still_fitting) .none kV16 dc16 pm16 an16 cd16 ct16), sl16⟩) (c16 : PySem.W.codeIn K cd16 "_still_fitting" = true) (k16 : PySem.W.keepIn K (.ref f16) = true)
    {f17 : Addr} {od17 an17 : Option Addr} {sl17 : Array (Option Value)} {oc17 kV17 dc17 pm17 cd17 ct17 : Value}
    (a17 : PySem.W.nsIn K mainGlobals "_numbered_lights" = some (some (.ref f17))) (l17 : K.lookup f17 = some ⟨oc17, od17, .func (PySem.W.fnOf "_numbered_lights" "_numbered_lights" (defArgs s_numbered_lights) (defBody s_numbered_lights) (defScope s_numbered_lights) .none kV17 dc17 pm17 an17 cd17 ct17), sl17⟩) (c17 : PySem.W.codeIn K cd17 "_numbered_lights" = true) (k17 : PySem.W.keepIn K (.ref f17) = true)
    {f18 : Addr} {od18 an18 : Option Addr} {sl18 : Array (Option Value)} {oc18 kV18 dc18 pm18 cd18 ct18 : Value}
    (a18 : PySem.W.nsIn K mainGlobals "_numbered_disc" = some (some (.ref f18))) (l18 : K.lookup f18 = some ⟨oc18, od18, .func (PySem.W.fnOf "_numbered_disc" "_numbered_disc" (defArgs s_numbered_disc) (defBody s_numbered_disc) (defScope s_numbered_disc) .none kV18 dc18 pm18 an18 cd18 ct18), sl18⟩) (c18 : PySem.W.codeIn K cd18 "_numbered_disc" = true) (k18 : PySem.W.keepIn K (.ref f18) = true)
    {f19 : Addr} {od19 an19 : Option Addr} {sl19 : Array (Option Value)} {oc19 kV19 dc19 pm19 cd19 ct19 : Value}
    (a19 : PySem.W.nsIn K mainGlobals "_law_stock" = some (some (.ref f19))) (l19 : K.lookup f19 = some ⟨oc19, od19, .func (PySem.W.fnOf "_law_stock" "_law_stock" (defArgs s_law_stock) (defBody s_law_stock) (defScope s_law_stock) .none kV19 dc19 pm19 an19 cd19 ct19), sl19⟩) (c19 : PySem.W.codeIn K cd19 "_law_stock" = true) (k19 : PySem.W.keepIn K (.ref f19) = true)
    {f20 : Addr} {od20 an20 : Option Addr} {sl20 : Array (Option Value)} {oc20 kV20 dc20 pm20 cd20 ct20 : Value}
    (a20 : PySem.W.nsIn K mainGlobals "_law_draw" = some (some (.ref f20))) (l20 : K.lookup f20 = some ⟨oc20, od20, .func (PySem.W.fnOf "_law_draw" "_law_draw" (defArgs s_law_draw) (defBody s_law_draw) (defScope s_law_draw) .none kV20 dc20 pm20 an20 cd20 ct20), sl20⟩) (c20 : PySem.W.codeIn K cd20 "_law_draw" = true) (k20 : PySem.W.keepIn K (.ref f20) = true)
    {f21 : Addr} {od21 an21 : Option Addr} {sl21 : Array (Option Value)} {oc21 kV21 dc21 pm21 cd21 ct21 : Value}
    (a21 : PySem.W.nsIn K mainGlobals "_law_size" = some (some (.ref f21))) (l21 : K.lookup f21 = some ⟨oc21, od21, .func (PySem.W.fnOf "_law_size" "_law_size" (defArgs s_law_size) (defBody s_law_size) (defScope s_law_size) .none kV21 dc21 pm21 an21 cd21 ct21), sl21⟩) (c21 : PySem.W.codeIn K cd21 "_law_size" = true) (k21 : PySem.W.keepIn K (.ref f21) = true)
    {f22 : Addr} {od22 an22 : Option Addr} {sl22 : Array (Option Value)} {oc22 kV22 dc22 pm22 cd22 ct22 : Value}
    (a22 : PySem.W.nsIn K mainGlobals "_law_slots" = some (some (.ref f22))) (l22 : K.lookup f22 = some ⟨oc22, od22, .func (PySem.W.fnOf "_law_slots" "_law_slots" (defArgs s_law_slots) (defBody s_law_slots) (defScope s_law_slots) .none kV22 dc22 pm22 an22 cd22 ct22), sl22⟩) (c22 : PySem.W.codeIn K cd22 "_law_slots" = true) (k22 : PySem.W.keepIn K (.ref f22) = true)
    {f23 : Addr} {od23 an23 : Option Addr} {sl23 : Array (Option Value)} {oc23 kV23 dc23 pm23 cd23 ct23 : Value}
    (a23 : PySem.W.nsIn K mainGlobals "_law_seen" = some (some (.ref f23))) (l23 : K.lookup f23 = some ⟨oc23, od23, .func (PySem.W.fnOf "_law_seen" "_law_seen" (defArgs s_law_seen) (defBody s_law_seen) (defScope s_law_seen) .none kV23 dc23 pm23 an23 cd23 ct23), sl23⟩) (c23 : PySem.W.codeIn K cd23 "_law_seen" = true) (k23 : PySem.W.keepIn K (.ref f23) = true)
    {f24 : Addr} {od24 an24 : Option Addr} {sl24 : Array (Option Value)} {oc24 kV24 dc24 pm24 cd24 ct24 : Value}
    (a24 : PySem.W.nsIn K mainGlobals "_law_all" = some (some (.ref f24))) (l24 : K.lookup f24 = some ⟨oc24, od24, .func (PySem.W.fnOf "_law_all" "_law_all" (defArgs s_law_all) (defBody s_law_all) (defScope s_law_all) .none kV24 dc24 pm24 an24 cd24 ct24), sl24⟩) (c24 : PySem.W.codeIn K cd24 "_law_all" = true) (k24 : PySem.W.keepIn K (.ref f24) = true)
    {f25 : Addr} {od25 an25 : Option Addr} {sl25 : Array (Option Value)} {oc25 kV25 dc25 pm25 cd25 ct25 : Value}
    (a25 : PySem.W.nsIn K mainGlobals "_law_fits" = some (some (.ref f25))) (l25 : K.lookup f25 = some ⟨oc25, od25, .func (PySem.W.fnOf "_law_fits" "_law_fits" (defArgs s_law_fits) (defBody s_law_fits) (defScope s_law_fits) .none kV25 dc25 pm25 an25 cd25 ct25), sl25⟩) (c25 : PySem.W.codeIn K cd25 "_law_fits" = true) (k25 : PySem.W.keepIn K (.ref f25) = true)
    {f26 : Addr} {od26 an26 : Option Addr} {sl26 : Array (Option Value)} {oc26 kV26 dc26 pm26 cd26 ct26 : Value}
    (a26 : PySem.W.nsIn K mainGlobals "_law_notes" = some (some (.ref f26))) (l26 : K.lookup f26 = some ⟨oc26, od26, .func (PySem.W.fnOf "_law_notes" "_law_notes" (defArgs s_law_notes) (defBody s_law_notes) (defScope s_law_notes) .none kV26 dc26 pm26 an26 cd26 ct26), sl26⟩) (c26 : PySem.W.codeIn K cd26 "_law_notes" = true) (k26 : PySem.W.keepIn K (.ref f26) = true)
    {f27 : Addr} {od27 an27 : Option Addr} {sl27 : Array (Option Value)} {oc27 kV27 dc27 pm27 cd27 ct27 : Value}
    (a27 : PySem.W.nsIn K mainGlobals "_law_clash" = some (some (.ref f27))) (l27 : K.lookup f27 = some ⟨oc27, od27, .func (PySem.W.fnOf "_law_clash" "_law_clash" (defArgs s_law_clash) (defBody s_law_clash) (defScope s_law_clash) .none kV27 dc27 pm27 an27 cd27 ct27), sl27⟩) (c27 : PySem.W.codeIn K cd27 "_law_clash" = true) (k27 : PySem.W.keepIn K (.ref f27) = true)
    {f28 : Addr} {od28 an28 : Option Addr} {sl28 : Array (Option Value)} {oc28 kV28 dc28 pm28 cd28 ct28 : Value}
    (a28 : PySem.W.nsIn K mainGlobals "_law_is_none" = some (some (.ref f28))) (l28 : K.lookup f28 = some ⟨oc28, od28, .func (PySem.W.fnOf "_law_is_none" "_law_is_none" (defArgs s_law_is_none) (defBody s_law_is_none) (defScope s_law_is_none) .none kV28 dc28 pm28 an28 cd28 ct28), sl28⟩) (c28 : PySem.W.codeIn K cd28 "_law_is_none" = true) (k28 : PySem.W.keepIn K (.ref f28) = true)
    {f29 : Addr} {od29 an29 : Option Addr} {sl29 : Array (Option Value)} {oc29 kV29 dc29 pm29 cd29 ct29 : Value}
    (a29 : PySem.W.nsIn K mainGlobals "_law_right" = some (some (.ref f29))) (l29 : K.lookup f29 = some ⟨oc29, od29, .func (PySem.W.fnOf "_law_right" "_law_right" (defArgs s_law_right) (defBody s_law_right) (defScope s_law_right) .none kV29 dc29 pm29 an29 cd29 ct29), sl29⟩) (c29 : PySem.W.codeIn K cd29 "_law_right" = true) (k29 : PySem.W.keepIn K (.ref f29) = true)
    {f30 : Addr} {od30 an30 : Option Addr} {sl30 : Array (Option Value)} {oc30 kV30 dc30 pm30 cd30 ct30 : Value}
    (a30 : PySem.W.nsIn K mainGlobals "law" = some (some (.ref f30))) (l30 : K.lookup f30 = some ⟨oc30, od30, .func (PySem.W.fnOf "law" "law" (defArgs s_law) (defBody s_law) (defScope s_law) .none kV30 dc30 pm30 an30 cd30 ct30), sl30⟩) (c30 : PySem.W.codeIn K cd30 "law" = true) (k30 : PySem.W.keepIn K (.ref f30) = true)
    {t_MOST_SLOTS : Tok} (m_MOST_SLOTS : PySem.W.nsIn K mainGlobals "MOST_SLOTS" = some (some (.int (40) t_MOST_SLOTS)))
    {t_MOST_LIGHT : Tok} (m_MOST_LIGHT : PySem.W.nsIn K mainGlobals "MOST_LIGHT" = some (some (.int (1000000000000000000000000000000) t_MOST_LIGHT)))
    {t_MOST_LOOKS : Tok} (m_MOST_LOOKS : PySem.W.nsIn K mainGlobals "MOST_LOOKS" = some (some (.int (40) t_MOST_LOOKS)))
    {t_MOST_SEEN : Tok} (m_MOST_SEEN : PySem.W.nsIn K mainGlobals "MOST_SEEN" = some (some (.int (12) t_MOST_SEEN)))
    (z_abs : PySem.W.nsIn K mainGlobals "abs" = some none)
    (z_bool : PySem.W.nsIn K mainGlobals "bool" = some none)
    (z_enumerate : PySem.W.nsIn K mainGlobals "enumerate" = some none)
    (z_int : PySem.W.nsIn K mainGlobals "int" = some none)
    (z_isinstance : PySem.W.nsIn K mainGlobals "isinstance" = some none)
    (z_len : PySem.W.nsIn K mainGlobals "len" = some none)
    (z_list : PySem.W.nsIn K mainGlobals "list" = some none)
    (z_max : PySem.W.nsIn K mainGlobals "max" = some none)
    (z_min : PySem.W.nsIn K mainGlobals "min" = some none)
    (z_range : PySem.W.nsIn K mainGlobals "range" = some none)
    (z_repr : PySem.W.nsIn K mainGlobals "repr" = some none)
    (z_sum : PySem.W.nsIn K mainGlobals "sum" = some none)
    (z_tuple : PySem.W.nsIn K mainGlobals "tuple" = some none)
    (z_zip : PySem.W.nsIn K mainGlobals "zip" = some none)
    : ∃ fd : FuncData, (∀ (s : Shared) (u : Value), BindsTo s fd ⟨[u], []⟩ [("script", u)]) ∧ ∀ base : Heap, K.In base → base.Ns mainGlobals mg → FnG l.prog w K mg base CX0 9 fa fd ["script"] (spLaw K) := by
  have e := hfa.symm.trans (PySem.W.mg_of X G a30)
  cases e
  have F0 := fun_mk (st := s_turned_list) l0 c0 k0
  have b0 := F0.binds (ps := ["items", "turn"]) fun _ _ _ _ _ _ us hl => match us, hl with | [_, _], _ => rfl
  have F1 := fun_mk (st := s_is_integer) l1 c1 k1
  have b1 := F1.binds (ps := ["value"]) fun _ _ _ _ _ _ us hl => match us, hl with | [_], _ => rfl
  have F2 := fun_mk (st := s_has_slots) l2 c2 k2
  have b2 := F2.binds (ps := ["value"]) fun _ _ _ _ _ _ us hl => match us, hl with | [_], _ => rfl
  have F3 := fun_mk (st := s_wrong_integer) l3 c3 k3
  have b3 := F3.binds (ps := ["items"]) fun _ _ _ _ _ _ us hl => match us, hl with | [_], _ => rfl
  have F4 := fun_mk (st := s_wrong_light) l4 c4 k4
  have b4 := F4.binds (ps := ["items", "most"]) fun _ _ _ _ _ _ us hl => match us, hl with | [_, _], _ => rfl
  have F5 := fun_mk (st := s_wrong_slot) l5 c5 k5
  have b5 := F5.binds (ps := ["items"]) fun _ _ _ _ _ _ us hl => match us, hl with | [_], _ => rfl
  have F6 := fun_mk (st := s_is_look) l6 c6 k6
  have b6 := F6.binds (ps := ["value"]) fun _ _ _ _ _ _ us hl => match us, hl with | [_], _ => rfl
  have F7 := fun_mk (st := s_check_disc) l7 c7 k7
  have b7 := F7.binds (ps := ["disc"]) fun _ _ _ _ _ _ us hl => match us, hl with | [_], _ => rfl
  have F8 := fun_mk (st := s_check_slots_at_most) l8 c8 k8
  have b8 := F8.binds (ps := ["disc", "most"]) fun _ _ _ _ _ _ us hl => match us, hl with | [_, _], _ => rfl
  have F9 := fun_mk (st := s_check_looks) l9 c9 k9
  have b9 := F9.binds (ps := ["looks"]) fun _ _ _ _ _ _ us hl => match us, hl with | [_], _ => rfl
  have F10 := fun_mk (st := s_sure_slots) l10 c10 k10
  have b10 := F10.binds (ps := ["disc", "looks"]) fun _ _ _ _ _ _ us hl => match us, hl with | [_, _], _ => rfl
  have F11 := fun_mk (st := s_clash_index) l11 c11 k11
  have b11 := F11.binds (ps := ["disc", "looks"]) fun _ _ _ _ _ _ us hl => match us, hl with | [_, _], _ => rfl
  have F12 := fun_mk (st := s_check_seen) l12 c12 k12
  have b12 := F12.binds (ps := ["disc", "looks", "most"]) fun _ _ _ _ _ _ us hl => match us, hl with | [_, _, _], _ => rfl
  have F13 := fun_mk (st := s_all_numbers) l13 c13 k13
  have b13 := F13.binds (ps := ["disc"]) fun _ _ _ _ _ _ us hl => match us, hl with | [_], _ => rfl
  have F14 := fun_mk (st := s_fits) l14 c14 k14
  have b14 := F14.binds (ps := ["disc", "looks"]) fun _ _ _ _ _ _ us hl => match us, hl with | [_, _], _ => rfl
  have F15 := fun_mk (st := s_some_fits) l15 c15 k15
  have b15 := F15.binds (ps := ["disc", "looks"]) fun _ _ _ _ _ _ us hl => match us, hl with | [_, _], _ => rfl
  have F16 := fun_mk (st := s_still_fitting) l16 c16 k16
  have b16 := F16.binds (ps := ["fits", "disc", "look"]) fun _ _ _ _ _ _ us hl => match us, hl with | [_, _, _], _ => rfl
  have F17 := fun_mk (st := s_numbered_lights) l17 c17 k17
  have b17 := F17.binds (ps := ["disc", "turn"]) fun _ _ _ _ _ _ us hl => match us, hl with | [_, _], _ => rfl
  have F18 := fun_mk (st := s_numbered_disc) l18 c18 k18
  have b18 := F18.binds (ps := ["number", "slots"]) fun _ _ _ _ _ _ us hl => match us, hl with | [_, _], _ => rfl
  have F19 := fun_mk (st := s_law_stock) l19 c19 k19
  have b19 := F19.binds (ps := ["script"]) fun _ _ _ _ _ _ us hl => match us, hl with | [_], _ => rfl
  have F20 := fun_mk (st := s_law_draw) l20 c20 k20
  have b20 := F20.binds (ps := ["stock", "wide"]) fun _ _ _ _ _ _ us hl => match us, hl with | [_, _], _ => rfl
  have F21 := fun_mk (st := s_law_size) l21 c21 k21
  have b21 := F21.binds (ps := ["stock", "bound"]) fun _ _ _ _ _ _ us hl => match us, hl with | [_, _], _ => rfl
  have F22 := fun_mk (st := s_law_slots) l22 c22 k22
  have b22 := F22.binds (ps := ["stock", "size", "far"]) fun _ _ _ _ _ _ us hl => match us, hl with | [_, _, _], _ => rfl
  have F23 := fun_mk (st := s_law_seen) l23 c23 k23
  have b23 := F23.binds (ps := ["rows", "others", "spin"]) fun _ _ _ _ _ _ us hl => match us, hl with | [_, _, _], _ => rfl
  have F24 := fun_mk (st := s_law_all) l24 c24 k24
  have b24 := F24.binds (ps := ["size"]) fun _ _ _ _ _ _ us hl => match us, hl with | [_], _ => rfl
  have F25 := fun_mk (st := s_law_fits) l25 c25 k25
  have b25 := F25.binds (ps := ["rows", "notes"]) fun _ _ _ _ _ _ us hl => match us, hl with | [_, _], _ => rfl
  have F26 := fun_mk (st := s_law_notes) l26 c26 k26
  have b26 := F26.binds (ps := ["stock", "rows", "often"]) fun _ _ _ _ _ _ us hl => match us, hl with | [_, _, _], _ => rfl
  have F27 := fun_mk (st := s_law_clash) l27 c27 k27
  have b27 := F27.binds (ps := ["rows", "notes"]) fun _ _ _ _ _ _ us hl => match us, hl with | [_, _], _ => rfl
  have F28 := fun_mk (st := s_law_is_none) l28 c28 k28
  have b28 := F28.binds (ps := ["rows", "notes"]) fun _ _ _ _ _ _ us hl => match us, hl with | [_, _], _ => rfl
  have F29 := fun_mk (st := s_law_right) l29 c29 k29
  have b29 := F29.binds (ps := ["stock", "size", "often"]) fun _ _ _ _ _ _ us hl => match us, hl with | [_, _, _], _ => rfl
  have F30 := fun_mk (st := s_law) l30 c30 k30
  exact ⟨_, fun s v => .of_eq rfl, fun base _ _ => ok_law ⟨f0, _, F0, b0, PySem.W.mg_of X G a0, f1, _, F1, b1, PySem.W.mg_of X G a1, f2, _, F2, b2, PySem.W.mg_of X G a2, f3, _, F3, b3, PySem.W.mg_of X G a3, f4, _, F4, b4, PySem.W.mg_of X G a4, f5, _, F5, b5, PySem.W.mg_of X G a5, f6, _, F6, b6, PySem.W.mg_of X G a6, f7, _, F7, b7, PySem.W.mg_of X G a7, f8, _, F8, b8, PySem.W.mg_of X G a8, f9, _, F9, b9, PySem.W.mg_of X G a9, f10, _, F10, b10, PySem.W.mg_of X G a10, f11, _, F11, b11, PySem.W.mg_of X G a11, f12, _, F12, b12, PySem.W.mg_of X G a12, f13, _, F13, b13, PySem.W.mg_of X G a13, f14, _, F14, b14, PySem.W.mg_of X G a14, f15, _, F15, b15, PySem.W.mg_of X G a15, f16, _, F16, b16, PySem.W.mg_of X G a16, f17, _, F17, b17, PySem.W.mg_of X G a17, f18, _, F18, b18, PySem.W.mg_of X G a18, f19, _, F19, b19, PySem.W.mg_of X G a19, f20, _, F20, b20, PySem.W.mg_of X G a20, f21, _, F21, b21, PySem.W.mg_of X G a21, f22, _, F22, b22, PySem.W.mg_of X G a22, f23, _, F23, b23, PySem.W.mg_of X G a23, f24, _, F24, b24, PySem.W.mg_of X G a24, f25, _, F25, b25, PySem.W.mg_of X G a25, f26, _, F26, b26, PySem.W.mg_of X G a26, f27, _, F27, b27, PySem.W.mg_of X G a27, f28, _, F28, b28, PySem.W.mg_of X G a28, f29, _, F29, b29, PySem.W.mg_of X G a29, fa, _, F30, PySem.W.mg_of X G a30, t_MOST_SLOTS, PySem.W.mg_of X G m_MOST_SLOTS, t_MOST_LIGHT, PySem.W.mg_of X G m_MOST_LIGHT, t_MOST_LOOKS, PySem.W.mg_of X G m_MOST_LOOKS, t_MOST_SEEN, PySem.W.mg_of X G m_MOST_SEEN, PySem.W.mg_none_of X G z_abs, PySem.W.mg_none_of X G z_bool, PySem.W.mg_none_of X G z_enumerate, PySem.W.mg_none_of X G z_int, PySem.W.mg_none_of X G z_isinstance, PySem.W.mg_none_of X G z_len, PySem.W.mg_none_of X G z_list, PySem.W.mg_none_of X G z_max, PySem.W.mg_none_of X G z_min, PySem.W.mg_none_of X G z_range, PySem.W.mg_none_of X G z_repr, PySem.W.mg_none_of X G z_sum, PySem.W.mg_none_of X G z_tuple, PySem.W.mg_none_of X G z_zip⟩ ⟨PySem.W.mg_of X G gI_Impossible, kI_Impossible, ⟨_, _, _, PySem.F.excBase_ValueError, xI_Impossible⟩, bI_Impossible, tI_Impossible, exm_me bI_Impossible iI_Impossible tI_Impossible sI_Impossible⟩⟩
end Sd
open PySem PySem.W PyProof.Rows
set_option maxRecDepth 100000 in
set_option maxHeartbeats 0 in
theorem PySem.Challenge.cw_slitdiscs_k35_sure_slots_and_clashes_holds : PySem.Challenge.rw_slitdiscs_k35_sure_slots_and_clashes.Holds := by
  w_on; o_law; k_head; (case hw => w_witness2)
  k_fill
  refine Sd.gwalk (l := PySem.Challenge.rw_slitdiscs_k35_sure_slots_and_clashes) (n := 63) (k := 9) (x := "script") (sp := Sd.spLaw) rfl (by decide) rfl ⟨rfl, by decide, by decide⟩ (fun w h Y => PySem.W.kIn_of Y) ?F (fun _ _ a ns hl hS => ⟨a, ns, rfl, hS, hl, fun _ => rfl⟩)
  case F =>
    intro w mg fa h KX G hmg
    refine' Sd.all_mk KX G hmg ?gI_Impossible ?kI_Impossible ?xI_Impossible ?bI_Impossible ?tI_Impossible ?iI_Impossible ?sI_Impossible ?a0 ?l0 ?c0 ?k0 ?a1 ?l1 ?c1 ?k1 ?a2 ?l2 ?c2 ?k2 ?a3 ?l3 ?c3 ?k3 ?a4 ?l4 ?c4 ?k4 ?a5 ?l5 ?c5 ?k5 ?a6 ?l6 ?c6 ?k6 ?a7 ?l7 ?c7 ?k7 ?a8 ?l8 ?c8 ?k8 ?a9 ?l9 ?c9 ?k9 ?a10 ?l10 ?c10 ?k10 ?a11 ?l11 ?c11 ?k11 ?a12 ?l12 ?c12 ?k12 ?a13 ?l13 ?c13 ?k13 ?a14 ?l14 ?c14 ?k14 ?a15 ?l15 ?c15 ?k15 ?a16 ?l16 ?c16 ?k16 ?a17 ?l17 ?c17 ?k17 ?a18 ?l18 ?c18 ?k18 ?a19 ?l19 ?c19 ?k19 ?a20 ?l20 ?c20 ?k20 ?a21 ?l21 ?c21 ?k21 ?a22 ?l22 ?c22 ?k22 ?a23 ?l23 ?c23 ?k23 ?a24 ?l24 ?c24 ?k24 ?a25 ?l25 ?c25 ?k25 ?a26 ?l26 ?c26 ?k26 ?a27 ?l27 ?c27 ?k27 ?a28 ?l28 ?c28 ?k28 ?a29 ?l29 ?c29 ?k29 ?a30 ?l30 ?c30 ?k30 ?m_MOST_SLOTS ?m_MOST_LIGHT ?m_MOST_LOOKS ?m_MOST_SEEN ?z_abs ?z_bool ?z_enumerate ?z_int ?z_isinstance ?z_len ?z_list ?z_max ?z_min ?z_range ?z_repr ?z_sum ?z_tuple ?z_zip
    (case gI_Impossible => k_is)
    (case kI_Impossible => k_is)
    (case xI_Impossible => k_exc)
    (case bI_Impossible => k_is)
    (case tI_Impossible => k_is)
    (case iI_Impossible => k_is)
    (case sI_Impossible => first | rfl | k_is)
    (case a0 => k_is)
    (case l0 => k_is)
    (case c0 => k_is)
    (case k0 => k_is)
    (case a1 => k_is)
    (case l1 => k_is)
    (case c1 => k_is)
    (case k1 => k_is)
    (case a2 => k_is)
    (case l2 => k_is)
    (case c2 => k_is)
    (case k2 => k_is)
    (case a3 => k_is)
    (case l3 => k_is)
    (case c3 => k_is)
    (case k3 => k_is)
    (case a4 => k_is)
    (case l4 => k_is)
    (case c4 => k_is)
    (case k4 => k_is)
    (case a5 => k_is)
    (case l5 => k_is)
    (case c5 => k_is)
    (case k5 => k_is)
    (case a6 => k_is)
    (case l6 => k_is)
    (case c6 => k_is)
    (case k6 => k_is)
    (case a7 => k_is)
    (case l7 => k_is)
    (case c7 => k_is)
    (case k7 => k_is)
    (case a8 => k_is)
    (case l8 => k_is)
    (case c8 => k_is)
    (case k8 => k_is)
    (case a9 => k_is)
    (case l9 => k_is)
    (case c9 => k_is)
    (case k9 => k_is)
    (case a10 => k_is)
    (case l10 => k_is)
    (case c10 => k_is)
    (case k10 => k_is)
    (case a11 => k_is)
    (case l11 => k_is)
    (case c11 => k_is)
    (case k11 => k_is)
    (case a12 => k_is)
    (case l12 => k_is)
    (case c12 => k_is)
    (case k12 => k_is)
    (case a13 => k_is)
    (case l13 => k_is)
    (case c13 => k_is)
    (case k13 => k_is)
    (case a14 => k_is)
    (case l14 => k_is)
    (case c14 => k_is)
    (case k14 => k_is)
    (case a15 => k_is)
    (case l15 => k_is)
    (case c15 => k_is)
    (case k15 => k_is)
    (case a16 => k_is)
    (case l16 => k_is)
    (case c16 => k_is)
    (case k16 => k_is)
    (case a17 => k_is)
    (case l17 => k_is)
    (case c17 => k_is)
    (case k17 => k_is)
    (case a18 => k_is)
    (case l18 => k_is)
    (case c18 => k_is)
    (case k18 => k_is)
    (case a19 => k_is)
    (case l19 => k_is)
    (case c19 => k_is)
    (case k19 => k_is)
    (case a20 => k_is)
    (case l20 => k_is)
    (case c20 => k_is)
    (case k20 => k_is)
    (case a21 => k_is)
    (case l21 => k_is)
    (case c21 => k_is)
    (case k21 => k_is)
    (case a22 => k_is)
    (case l22 => k_is)
    (case c22 => k_is)
    (case k22 => k_is)
    (case a23 => k_is)
    (case l23 => k_is)
    (case c23 => k_is)
    (case k23 => k_is)
    (case a24 => k_is)
    (case l24 => k_is)
    (case c24 => k_is)
    (case k24 => k_is)
    (case a25 => k_is)
    (case l25 => k_is)
    (case c25 => k_is)
    (case k25 => k_is)
    (case a26 => k_is)
    (case l26 => k_is)
    (case c26 => k_is)
    (case k26 => k_is)
    (case a27 => k_is)
    (case l27 => k_is)
    (case c27 => k_is)
    (case k27 => k_is)
    (case a28 => k_is)
    (case l28 => k_is)
    (case c28 => k_is)
    (case k28 => k_is)
    (case a29 => k_is)
    (case l29 => k_is)
    (case c29 => k_is)
    (case k29 => k_is)
    (case a30 => k_is)
    (case l30 => k_is)
    (case c30 => k_is)
    (case k30 => k_is)
    (case m_MOST_SLOTS => k_is)
    (case m_MOST_LIGHT => k_is)
    (case m_MOST_LOOKS => k_is)
    (case m_MOST_SEEN => k_is)
    (case z_abs => k_is)
    (case z_bool => k_is)
    (case z_enumerate => k_is)
    (case z_int => k_is)
    (case z_isinstance => k_is)
    (case z_len => k_is)
    (case z_list => k_is)
    (case z_max => k_is)
    (case z_min => k_is)
    (case z_range => k_is)
    (case z_repr => k_is)
    (case z_sum => k_is)
    (case z_tuple => k_is)
    (case z_zip => k_is)
